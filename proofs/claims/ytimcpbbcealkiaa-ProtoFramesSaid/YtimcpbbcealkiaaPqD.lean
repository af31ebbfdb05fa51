/- proto: the reader, and Decode of any bytes (RdN, PqG, PqH, PqI, PqP; chapter 20). -/
import Derived.Test.YtimcpbbcealkiaaRdB
import Derived.Test.YtimcpbbcealkiaaRdY
import Derived.BigQuiet
import Derived.Deep.CutRange
import Derived.Maps.AppendAt
import Derived.Test.YtimcpbbcealkiaaPqO
import Derived.Test.YtimcpbbcealkiaaLmA
import Derived.Test.YtimcpbbcealkiaaPlanE
import Derived.Test.YtimcpbbcealkiaaPqR
import Derived.Test.YtimcpbbcealkiaaRdL
import Derived.Test.YtimcpbbcealkiaaRdZ
namespace Go.Proofs.Ytimcpbbcealkiaa
section
open Go.RowKit
set_option maxRecDepth 20000

/-- The reader at r has L left, in a block of Q. -/
def RdQ (Q : Nat → Prop) (w : World) (r : Nat) (L : List Nat) (e : Int) : Prop := ∃ A c, Rd w r A c L e ∧ ∀ a, A = some a → Q a.block
theorem RdQ.chg {Q P : Nat → Prop} {w w' : World} {r : Nat} {L : List Nat} {e : Int} (h : RdQ Q w r L e) (hc : Chg w w' P) (hr : ¬ P r) (hq : ∀ k, Q k → ¬ P k) : RdQ Q w' r L e := by
  obtain ⟨A, c, h1, h2⟩ := h
  exact ⟨A, c, ⟨hc.blk h1.blk hr, hc.at' h1.lie fun _ b off hA hB => hq b (h2 _ hA) hB, h1.len, h1.cap, h1.byte⟩, h2⟩
theorem RdQ.keep {Q : Nat → Prop} {w w' : World} {r : Nat} {L : List Nat} {e : Int} (h : RdQ Q w r L e) (hb : Below w.heap.size w w') : RdQ Q w' r L e := h.chg (chg_of (P := fun _ => False) hb) (fun q => q) fun _ _ q => q
theorem RdQ.blk {Q : Nat → Prop} {w : World} {r : Nat} {L : List Nat} {e : Int} (h : RdQ Q w r L e) : ∃ cs, Blk w r 98 cs := by
  obtain ⟨A, c, h1, -⟩ := h
  exact ⟨_, h1.blk⟩
theorem RdNear.q {Q : Nat → Prop} {w : World} {r : Nat} {A : Option Addr} {L : List Nat} {e : Int} (h : RdNear w r A L e) (hQ : ∀ a, A = some a → Q a.block) : RdQ Q w r L e := by
  obtain ⟨A2, c2, h1, h2⟩ := h
  refine ⟨A2, c2, h1, fun a ha => ?_⟩
  obtain ⟨b, hb, e⟩ := h2 a ha
  rw [← e]
  exact hQ b hb
def RqPost (Q : Nat → Prop) (w : World) (r : Nat) (v : Value) (L : List Nat) (e : Int) (en : Ending) (w' : World) : Prop := en = .returned v ∧ RdQ Q w' r L e ∧ Chg w w' (rdT r)
theorem rdq.fail (Q : Nat → Prop) (r : Nat) (A : Option Addr) (c : Nat) (L : List Nat) (e x : Int) (w : World) (h : Rd w r A c L e) :
    Calls Try.prog 61 #[.pointer (some ⟨r, 0, none⟩), .int .i64 x] w (RqPost Q w r (.int .i64 0) [] x) := by
  have hc0 := h.blk.cell 0 (v := .slice A L.length c) rfl
  have hc1 := h.blk.cell 1 (v := .int .i64 e) rfl
  have hf0 := h.blk.frozen 0
  have hf1 := h.blk.frozen 1
  have hb1 := h.blk.set 1 (.int .i64 x)
  have hq0 := hb1.cell 0 (v := .slice A L.length c) rfl
  have hg0 := hb1.frozen 0
  have H := Lib.hid hb1; clear hb1 h
  go_enter Try.func61, Try.ntmps61
  go_wp2
  go_ret
  refine ⟨rfl, ⟨none, 0, ⟨H.out.set 0 (.slice none 0 0), At.none0 rfl, Nat.le_refl _, Nat.zero_le _, fun x hx => by cases hx⟩, fun a ha => by cases ha⟩, ?_⟩
  exact (Chg.setCell w r 1 _).trans (Chg.setCell _ r 0 _) fun _ _ hk => hk
set_option maxHeartbeats 800000 in
theorem rdq.num (Q : Nat → Prop) (r : Nat) (L : List Nat) (e : Int) (w : World) (h : RdQ Q w r L e) :
    Calls Try.prog 64 #[.pointer (some ⟨r, 0, none⟩)] w (RqPost Q w r (.int .i64 (rd.num L e).1) (rd.num L e).2.1 (rd.num L e).2.2) := by
  obtain ⟨A, c, h, hQ⟩ := h
  have HQQ := Lib.hid hQ; clear hQ
  have hc0 := h.blk.cell 0 (v := .slice A L.length c) rfl
  have hlen := h.len
  have hcap := h.cap
  unfold maxLen at hcap
  have H := Lib.hid h; clear h
  by_cases he : e = 0
  · subst he
    cases hg : num.getL L with
    | none =>
      have hres : num.res (num.get (fun j => L.getD j 0) L.length) = .tuple #[.int .i64 0, .int .i64 0, .int .i64 2] := by
        rw [show num.get (fun j => L.getD j 0) L.length = num.getL L from rfl, hg]; rfl
      have hr : rd.num L 0 = (0, [], 2) := by unfold rd.num; rw [if_neg (by simp), hg]
      have HRES := Lib.hid hres; clear hres
      have HR := Lib.hid hr; clear hr hg
      go_enter Try.func64, Try.ntmps64
      go_wp2_with fail
      refine (wire.err_any r A c L 0 w H.out).mono ?_
      rintro en w' ⟨rfl, rfl⟩
      go_wp2_with fail
      refine (num.get_any A L.length c (fun j => L.getD j 0) w (by omega) H.out.lie (fun j hj => getD_all H.out.byte j hj)).mono ?_
      rintro en w' ⟨rfl, rfl⟩
      rw [HRES.out]
      go_wp2_with fail
      refine (rdq.fail Q r A c L 0 2 w H.out).mono ?_
      rintro en w' ⟨rfl, hrd, hch⟩
      have HRD := Lib.hid hrd; clear hrd
      have HCH := Lib.hid hch; clear hch
      go_wp2
      go_ret
      rw [HR.out]
      exact ⟨rfl, HRD.out, HCH.out⟩
    | some p =>
      obtain ⟨u, k⟩ := p
      obtain ⟨hk, hk1⟩ := num.getL_le hg
      have hres : num.res (num.get (fun j => L.getD j 0) L.length) = .tuple #[.int .i64 (num.zag u), .int .i64 (k : Int), .int .i64 0] := by
        rw [show num.get (fun j => L.getD j 0) L.length = num.getL L from rfl, hg]; rfl
      have hr : rd.num L 0 = (num.zag u, L.drop k, 0) := by unfold rd.num; rw [if_neg (by simp), hg]
      have HRES := Lib.hid hres; clear hres
      have HR := Lib.hid hr; clear hr hg
      go_enter Try.func64, Try.ntmps64
      go_wp2_with fail
      refine (wire.err_any r A c L 0 w H.out).mono ?_
      rintro en w' ⟨rfl, rfl⟩
      go_wp2_with fail
      refine (num.get_any A L.length c (fun j => L.getD j 0) w (by omega) H.out.lie (fun j hj => getD_all H.out.byte j hj)).mono ?_
      rintro en w' ⟨rfl, rfl⟩
      rw [HRES.out]
      go_wp2_with fail
      refine (wire.take_near r A c L 0 k w H.out hk).mono ?_
      rintro en w' ⟨rfl, -, hrd, hch⟩
      have HRD := Lib.hid hrd; clear hrd
      have HCH := Lib.hid hch; clear hch
      go_wp2
      go_ret
      rw [HR.out]
      exact ⟨rfl, HRD.out.q HQQ.out, HCH.out⟩
  · have he' : (e == 0) = false := by simpa using he
    have hr := rd.num_err (L := L) he
    have HR := Lib.hid hr; clear hr
    clear he
    go_enter Try.func64, Try.ntmps64
    go_wp2_with fail
    refine (wire.err_any r A c L e w H.out).mono ?_
    rintro en w' ⟨rfl, rfl⟩
    go_wp2
    go_ret
    rw [HR.out]
    exact ⟨rfl, ⟨A, c, H.out, HQQ.out⟩, Chg.refl _ _⟩
def PieceQ (Q : Nat → Prop) (w : World) (r : Nat) (P L : List Nat) (e : Int) (en : Ending) (w' : World) : Prop :=
  (∃ A c, en = .returned (.slice A P.length c) ∧ At w' A P.length (byteAt P) ∧ P.length ≤ maxLen ∧ ∀ x ∈ P, x < 256) ∧ RdQ Q w' r L e ∧ Chg w w' (rdT r)

set_option maxRecDepth 20000 in
set_option maxHeartbeats 800000 in
theorem rdq.piece (Q : Nat → Prop) (r : Nat) (L : List Nat) (e most : Int) (w : World) (h : RdQ Q w r L e) :
    Calls Try.prog 77 #[.pointer (some ⟨r, 0, none⟩), .int .i64 most] w (PieceQ Q w r (rd.piece L e most).1 (rd.piece L e most).2.1 (rd.piece L e most).2.2) := by
  unfold rd.piece
  have H := Lib.hid h; clear h
  have hnum := rdq.num Q r L e w H.out
  obtain ⟨⟨n, L1, e1⟩, hq⟩ : ∃ q, rd.num L e = q := ⟨_, rfl⟩
  rw [hq] at hnum ⊢
  dsimp only at hnum ⊢
  have HNUM := Lib.hid hnum; clear hnum hq
  by_cases he : e1 = 0
  · subst he
    by_cases hbad : n < 0 ∨ (L1.length : Int) < n
    · have hr : rd.cut n L1 0 most = ([], [], 2) := by unfold rd.cut; rw [if_neg (by simp), if_pos hbad]
      rw [hr]
      clear hr
      have HBAD := Lib.hid hbad; clear hbad
      by_cases hneg : n < 0
      all_goals
        have hgt : ¬ n < 0 → (L1.length : Int) < n := fun h => by have := HBAD.out; omega
        have HGT := Lib.hid hgt; clear hgt
        go_enter Try.func77, Try.ntmps77
        go_wp2_with fail
        refine HNUM.out.mono ?_
        rintro en w1 ⟨rfl, ⟨A1, c1, h1, hq1⟩, hch⟩
        have hc0 := h1.blk.cell 0 (v := .slice A1 L1.length c1) rfl
        have H1 := Lib.hid h1; clear h1
        have HQ1 := Lib.hid hq1; clear hq1
        have HCH := Lib.hid hch; clear hch
        go_wp2_with fail
        refine (wire.err_any r A1 c1 L1 0 w1 H1.out).mono ?_
        rintro en w' ⟨rfl, rfl⟩
        try have hl : (L1.length : Int) < n := HGT.out hneg
        go_wp2_with fail
        refine (rdq.fail Q r A1 c1 L1 0 2 w1 H1.out).mono ?_
        rintro en w2 ⟨rfl, hrd, hch2⟩
        have HRD := Lib.hid hrd; clear hrd
        have HCH2 := Lib.hid hch2; clear hch2
        go_wp2
        go_ret
        exact ⟨⟨none, 0, rfl, At.none0 rfl, Nat.zero_le _, fun x hx => by cases hx⟩, HRD.out, HCH.out.trans HCH2.out fun _ _ hk => hk⟩
    · have h0 : ¬ n < 0 := by omega
      have hl : ¬ (L1.length : Int) < n := by omega
      by_cases hm : most < n
      · have hr : rd.cut n L1 0 most = ([], [], 3) := by unfold rd.cut; rw [if_neg (by simp), if_neg hbad, if_pos hm]
        rw [hr]
        clear hr hbad
        go_enter Try.func77, Try.ntmps77
        go_wp2_with fail
        refine HNUM.out.mono ?_
        rintro en w1 ⟨rfl, ⟨A1, c1, h1, hq1⟩, hch⟩
        have hc0 := h1.blk.cell 0 (v := .slice A1 L1.length c1) rfl
        have H1 := Lib.hid h1; clear h1
        have HQ1 := Lib.hid hq1; clear hq1
        have HCH := Lib.hid hch; clear hch
        go_wp2_with fail
        refine (wire.err_any r A1 c1 L1 0 w1 H1.out).mono ?_
        rintro en w' ⟨rfl, rfl⟩
        go_wp2_with fail
        refine (rdq.fail Q r A1 c1 L1 0 3 w1 H1.out).mono ?_
        rintro en w2 ⟨rfl, hrd, hch2⟩
        have HRD := Lib.hid hrd; clear hrd
        have HCH2 := Lib.hid hch2; clear hch2
        go_wp2
        go_ret
        exact ⟨⟨none, 0, rfl, At.none0 rfl, Nat.zero_le _, fun x hx => by cases hx⟩, HRD.out, HCH.out.trans HCH2.out fun _ _ hk => hk⟩
      · obtain ⟨k, rfl⟩ := Int.eq_ofNat_of_zero_le (show 0 ≤ n by omega)
        have hr : rd.cut k L1 0 most = (L1.take k, L1.drop k, 0) := by unfold rd.cut; rw [if_neg (by simp), if_neg hbad, if_neg hm, Int.toNat_natCast]
        rw [hr]
        clear hr hbad
        have hkl : k ≤ L1.length := by omega
        have hl2 : ¬ L1.length < k := by omega
        go_enter Try.func77, Try.ntmps77
        go_wp2_with fail
        refine HNUM.out.mono ?_
        rintro en w1 ⟨rfl, ⟨A1, c1, h1, hq1⟩, hch⟩
        have hc0 := h1.blk.cell 0 (v := .slice A1 L1.length c1) rfl
        have H1 := Lib.hid h1; clear h1
        have HQ1 := Lib.hid hq1; clear hq1
        have HCH := Lib.hid hch; clear hch
        go_wp2_with fail
        refine (wire.err_any r A1 c1 L1 0 w1 H1.out).mono ?_
        rintro en w' ⟨rfl, rfl⟩
        go_wp2_with fail
        refine (wire.take_near r A1 c1 L1 0 k w1 H1.out hkl).mono ?_
        rintro en w2 ⟨rfl, hat, hrd, hch2⟩
        have HAT := Lib.hid hat; clear hat
        have HRD := Lib.hid hrd; clear hrd
        have HCH2 := Lib.hid hch2; clear hch2
        go_wp2
        go_ret
        have hk2 : (L1.take k).length = k := by rw [List.length_take]; omega
        exact ⟨⟨A1, c1, by rw [hk2]; rfl, by rw [hk2]; exact HAT.out, by have := H1.out.len; have := H1.out.cap; omega, fun x hx => H1.out.byte x (List.mem_of_mem_take hx)⟩, HRD.out.q HQ1.out, HCH.out.trans HCH2.out fun _ _ hk => hk⟩
  · have he' : (e1 == 0) = false := by simpa using he
    have hr : rd.cut n L1 e1 most = ([], L1, e1) := by unfold rd.cut; rw [if_pos he]
    rw [hr]
    clear hr he
    go_enter Try.func77, Try.ntmps77
    go_wp2_with fail
    refine HNUM.out.mono ?_
    rintro en w1 ⟨rfl, ⟨A1, c1, h1, hq1⟩, hch⟩
    have H1 := Lib.hid h1; clear h1
    have HQ1 := Lib.hid hq1; clear hq1
    have HCH := Lib.hid hch; clear hch
    go_wp2_with fail
    refine (wire.err_any r A1 c1 L1 e1 w1 H1.out).mono ?_
    rintro en w' ⟨rfl, rfl⟩
    go_wp2
    go_ret
    exact ⟨⟨none, 0, rfl, At.none0 rfl, Nat.zero_le _, fun x hx => by cases hx⟩, ⟨A1, c1, H1.out, HQ1.out⟩, HCH.out⟩

/-- Bytes: a copy of the piece. -/
def BytesQ (Q : Nat → Prop) (w : World) (r : Nat) (P L : List Nat) (e : Int) (en : Ending) (w' : World) : Prop :=
  (∃ v, en = .returned v ∧ w'.ownsRow w.heap.size 5 1 v P.length (u8s P)) ∧ RdQ Q w' r L e ∧ Chg w w' (rdT r)
set_option maxHeartbeats 800000 in
theorem rdq.bytes (Q : Nat → Prop) (r : Nat) (L : List Nat) (e most : Int) (w : World) (h : RdQ Q w r L e) (hL : L.length ≤ 140737488351232) :
    Calls Try.prog 67 #[.pointer (some ⟨r, 0, none⟩), .int .i64 most] w (BytesQ Q w r (rd.piece L e most).1 (rd.piece L e most).2.1 (rd.piece L e most).2.2) := by
  have hp := rdq.piece Q r L e most w h
  have hle := rd.piece_le L e most
  obtain ⟨⟨M, L1, e1⟩, hq⟩ : ∃ q, rd.piece L e most = q := ⟨_, rfl⟩
  rw [hq] at hp hle ⊢
  dsimp only at hp hle ⊢
  have HP := Lib.hid hp; clear hp hq h
  go_enter Try.func67, Try.ntmps67
  go_wp2_with fail
  refine HP.out.mono ?_
  rintro en w1 ⟨⟨A1, c1, rfl, hat, -, -⟩, hrd, hch⟩
  have HAT := Lib.hid hat; clear hat
  have HRD := Lib.hid hrd; clear hrd
  have HCH := Lib.hid hch; clear hch
  go_wp2_with fail
  refine (clone_any A1 M.length c1 M w1 rfl (by omega) HAT.out).mono ?_
  rintro en w2 ⟨⟨v, rfl, hown⟩, hb⟩
  have HO := Lib.hid hown; clear hown
  have HB := Lib.hid hb; clear hb
  go_wp2
  go_ret
  exact ⟨⟨_, rfl, ownsRow_base HO.out HCH.out.size⟩, HRD.out.keep HB.out, HCH.out.trans (chg_of (P := fun _ => False) HB.out) fun _ _ hk => hk.elim⟩

def TextQ (Q : Nat → Prop) (w : World) (r : Nat) (P L : List Nat) (e : Int) (en : Ending) (w' : World) : Prop :=
  en = .returned (.string (strOf P)) ∧ RdQ Q w' r L e ∧ Chg w w' (rdT r)
set_option maxHeartbeats 800000 in
theorem rdq.text (Q : Nat → Prop) (r : Nat) (L : List Nat) (e most : Int) (w : World) (h : RdQ Q w r L e) :
    Calls Try.prog 63 #[.pointer (some ⟨r, 0, none⟩), .int .i64 most] w (TextQ Q w r (rd.piece L e most).1 (rd.piece L e most).2.1 (rd.piece L e most).2.2) := by
  have hp := rdq.piece Q r L e most w h
  obtain ⟨⟨M, L1, e1⟩, hq⟩ : ∃ q, rd.piece L e most = q := ⟨_, rfl⟩
  rw [hq] at hp ⊢
  dsimp only at hp ⊢
  have HP := Lib.hid hp; clear hp hq h
  go_enter Try.func63, Try.ntmps63
  go_wp2_with fail
  refine HP.out.mono ?_
  rintro en w1 ⟨⟨A1, c1, rfl, hat, -, -⟩, hrd, hch⟩
  have hcv := conv_any (c := c1) Try.underlying23 Try.underlying5 Try.underlying9 M rfl hat
  clear hat
  have HRD := Lib.hid hrd; clear hrd
  have HCH := Lib.hid hch; clear hch
  go_wp2
  go_ret
  exact ⟨rfl, HRD.out, HCH.out⟩


set_option maxHeartbeats 1600000 in
theorem rdq.fixed_bad (Q : Nat → Prop) (r : Nat) (A : Option Addr) (c : Nat) (L : List Nat) (size : Int) (w : World) (h : Rd w r A c L 0) (hbad : rd.fbad L size) :
    Calls Try.prog 40 #[.pointer (some ⟨r, 0, none⟩), .int .i64 size] w (RqPost Q w r (.int .i64 0) [] 2) := by
  have hc0 := h.blk.cell 0 (v := .slice A L.length c) rfl
  have H := Lib.hid h; clear h
  have hcase : size < 1 ∨ (¬ size < 1 ∧ 8 < size) ∨ (¬ size < 1 ∧ ¬ 8 < size ∧ (L.length : Int) < size) ∨ (size = 8 ∧ ¬ (L.length : Int) < size ∧ 128 ≤ L.getD 0 0) := by unfold rd.fbad at hbad; omega
  clear hbad
  rcases hcase with n1 | ⟨n1, n2⟩ | ⟨n1, n2, n3⟩ | ⟨n1, n3, n4⟩
  · go_enter Try.func40, Try.ntmps40
    go_wp2_with fail
    refine (wire.err_any r A c L 0 w H.out).mono ?_
    rintro en w' ⟨rfl, rfl⟩
    go_wp2_with fail
    refine (rdq.fail Q r A c L 0 2 w H.out).mono ?_
    rintro en w1 ⟨rfl, hrd, hch⟩
    have HRD := Lib.hid hrd; clear hrd
    have HCH := Lib.hid hch; clear hch
    go_wp2
    go_ret
    exact ⟨rfl, HRD.out, HCH.out⟩
  · go_enter Try.func40, Try.ntmps40
    go_wp2_with fail
    refine (wire.err_any r A c L 0 w H.out).mono ?_
    rintro en w' ⟨rfl, rfl⟩
    go_wp2_with fail
    refine (rdq.fail Q r A c L 0 2 w H.out).mono ?_
    rintro en w1 ⟨rfl, hrd, hch⟩
    have HRD := Lib.hid hrd; clear hrd
    have HCH := Lib.hid hch; clear hch
    go_wp2
    go_ret
    exact ⟨rfl, HRD.out, HCH.out⟩
  · go_enter Try.func40, Try.ntmps40
    go_wp2_with fail
    refine (wire.err_any r A c L 0 w H.out).mono ?_
    rintro en w' ⟨rfl, rfl⟩
    go_wp2_with fail
    refine (rdq.fail Q r A c L 0 2 w H.out).mono ?_
    rintro en w1 ⟨rfl, hrd, hch⟩
    have HRD := Lib.hid hrd; clear hrd
    have HCH := Lib.hid hch; clear hch
    go_wp2
    go_ret
    exact ⟨rfl, HRD.out, HCH.out⟩
  · subst n1
    obtain ⟨b, off, rfl, hbb, hc⟩ := H.out.lie (by omega)
    obtain ⟨y, hy2⟩ : ∃ y, y = L.getD 0 0 := ⟨_, rfl⟩
    have hy : w.cell? ⟨b, off, none⟩ = some (.int .u8 (y : Int)) := by rw [hy2]; exact hc 0 (by omega)
    have hyb : (128 : Int) ≤ y := by omega
    have n3' : ¬ (L.length < 8) := by omega
    clear hc hy2 n4
    go_enter Try.func40, Try.ntmps40
    go_wp2_with fail
    refine (wire.err_any r _ c L 0 w H.out).mono ?_
    rintro en w' ⟨rfl, rfl⟩
    go_wp2_with fail
    refine (rdq.fail Q r _ c L 0 2 w H.out).mono ?_
    rintro en w1 ⟨rfl, hrd, hch⟩
    have HRD := Lib.hid hrd; clear hrd
    have HCH := Lib.hid hch; clear hch
    go_wp2
    go_ret
    exact ⟨rfl, HRD.out, HCH.out⟩
set_option maxHeartbeats 800000 in
theorem rdq.fixed (Q : Nat → Prop) (r : Nat) (L : List Nat) (e size : Int) (w : World) (h : RdQ Q w r L e) :
    Calls Try.prog 40 #[.pointer (some ⟨r, 0, none⟩), .int .i64 size] w (RqPost Q w r (.int .i64 (rd.fixed L e size).1) (rd.fixed L e size).2.1 (rd.fixed L e size).2.2) := by
  obtain ⟨A, c, h, hQ⟩ := h
  unfold rd.fixed
  by_cases he : e = 0
  · subst he
    rw [if_neg (by simp)]
    by_cases hbad : rd.fbad L size
    · rw [if_pos hbad]
      exact rdq.fixed_bad Q r A c L size w h hbad
    · rw [if_neg hbad]
      obtain ⟨n, rfl⟩ := Int.eq_ofNat_of_zero_le (show 0 ≤ size by unfold rd.fbad at hbad; omega)
      exact (wire.rfixed_near r A c L n w h hbad).mono fun _ _ ⟨h1, h2, h3⟩ => ⟨h1, h2.q hQ, h3⟩
  · rw [if_pos he]
    have he' : (e == 0) = false := by simpa using he
    have H := Lib.hid h; clear h he
    go_enter Try.func40, Try.ntmps40
    go_wp2_with fail
    refine (wire.err_any r A c L e w H.out).mono ?_
    rintro en w' ⟨rfl, rfl⟩
    go_wp2
    go_ret
    exact ⟨rfl, ⟨A, c, H.out, hQ⟩, Chg.refl _ _⟩
end
section
open Go.RowKit Go.Maps
set_option maxRecDepth 20000

theorem pq.clos_any (Q : Nat → Prop) (bx r : Nat) (L : List Nat) (e : Int) (w : World) (hb : Blk w bx 73 #[.pointer (some ⟨r, 0, none⟩)]) (h : RdQ Q w r L e) :
    Calls Try.prog 66 #[.pointer (some ⟨bx, 0, none⟩)] w (TextQ Q w r (rd.piece L e 100).1 (rd.piece L e 100).2.1 (rd.piece L e 100).2.2) := by
  have hp := rdq.text Q r L e 100 w h
  obtain ⟨⟨M, L1, e1⟩, hq⟩ : ∃ q, rd.piece L e 100 = q := ⟨_, rfl⟩
  rw [hq] at hp ⊢
  dsimp only at hp ⊢
  have c0 := hb.cell 0 (v := .pointer (some ⟨r, 0, none⟩)) rfl
  have bl := hb.lt
  have HP := Lib.hid hp; clear hp hq h
  go_enter Try.func66, Try.ntmps66
  go_wp2_with (go_at_call 63; refine HP.out.mono ?_; rintro en w1 ⟨rfl, h1, h2⟩; have HR := Lib.hid (And.intro h1 h2); clear h1 h2)
  go_ret
  exact ⟨rfl, HR.out.1, HR.out.2⟩
/-- So many texts, of at most 100 bytes. -/
def rd.texts : Nat → List Nat → Int → List ByteArray × List Nat × Int
  | 0, L, e => ([], L, e)
  | k + 1, L, e => (strOf (rd.piece L e 100).1 :: (rd.texts k (rd.piece L e 100).2.1 (rd.piece L e 100).2.2).1, (rd.texts k (rd.piece L e 100).2.1 (rd.piece L e 100).2.2).2)
theorem rd.texts_len : ∀ (k : Nat) (L : List Nat) (e : Int), (rd.texts k L e).1.length = k
  | 0, _, _ => rfl
  | k + 1, L, e => by
    show (rd.texts k _ _).1.length + 1 = k + 1
    rw [rd.texts_len k]
/-- How many there are, at most so many, and these; the error that is told. -/
def pq.list (most : Int) (L : List Nat) (e : Int) : List ByteArray × List Nat × Int :=
  if (rd.num L e).2.2 = 0 ∧ ((rd.num L e).1 < 0 ∨ most < (rd.num L e).1) then ([], (rd.num L e).2.1, 2) else rd.texts (rd.num L e).1.toNat (rd.num L e).2.1 (rd.num L e).2.2
theorem pq.infoStr : (Try.prog.info? 9).map (fun i => (i.zero, i.size, i.bytes)) = some (some (.string (ByteArray.mk #[])), 1, 16) := by kernel_rfl
theorem rd.num_zero {L : List Nat} {e : Int} (h : (rd.num L e).2.2 ≠ 0) : (rd.num L e).1 = 0 := by
  unfold rd.num at h ⊢
  split
  · rfl
  · split
    · rfl
    · rename_i h1 _ u k h2
      exfalso
      rw [if_neg h1, h2] at h
      exact h rfl
theorem rdq.err {Q : Nat → Prop} {r : Nat} {L : List Nat} {e : Int} {w : World} (h : RdQ Q w r L e) : Calls Try.prog 60 #[.pointer (some ⟨r, 0, none⟩)] w fun en w' => en = .returned (.int .i64 e) ∧ w = w' := by
  obtain ⟨A, c, h, -⟩ := h
  exact wire.err_any r A c L e w h
theorem pq.new_one (w : World) (v : Value) (t : TypeId) (n : Nat) (hn : n = w.heap.size) : ∀ j u, [v][j]? = some u → (w.alloc (.cells #[v] t)).cell? ((⟨n, 0, none⟩ : Addr).add j) = some u := by
  subst hn
  intro j u hj
  rw [add_none, Nat.zero_add]
  exact (Blk.new w t #[v]).cell j (by simpa using hj)
set_option maxHeartbeats 4000000 in
theorem pq.list_any (Q : Nat → Prop) (most : Int) (bx r : Nat) (L : List Nat) (e : Int) (w : World) (hm : 0 ≤ most ∧ most ≤ 1000) (hb : Blk w bx 73 #[.pointer (some ⟨r, 0, none⟩)]) (h : RdQ Q w r L e) (hQ : ∀ k, Q k → k < w.heap.size) :
    Calls Try.prog 65 #[.pointer (some ⟨r, 0, none⟩), .int .i64 most, .func (.func 66) #[] #[.pointer (some ⟨bx, 0, none⟩)]] w fun en w' => (∃ v, en = .returned (.tuple #[v, .int .i64 (pq.list most L e).2.2]) ∧
      w'.ownsRow w.heap.size 9 1 v (pq.list most L e).1.length ((pq.list most L e).1.map fun s => .string s)) ∧ ((pq.list most L e).2.2 = 0 → RdQ Q w' r (pq.list most L e).2.1 0) ∧ Chg w w' (rdT r) := by
  have hnum := rdq.num Q r L e w h
  have hz := @rd.num_zero L e
  have hbr : bx ≠ r := by
    rintro rfl
    obtain ⟨cs, h'⟩ := h.blk
    have := (show w.heap[bx]? = _ from hb).symm.trans h'
    simp at this
  obtain ⟨q0, hq0⟩ : ∃ q, q = pq.list most L e := ⟨_, rfl⟩
  rw [← hq0]
  unfold pq.list at hq0
  obtain ⟨⟨n, L1, e1⟩, hq⟩ : ∃ q, rd.num L e = q := ⟨_, rfl⟩
  rw [hq] at hnum hz hq0
  dsimp only at hnum hz hq0
  clear hq h
  obtain ⟨i0, hi0, hz0, hz1, hz2⟩ := info_parts pq.infoStr
  have HI := Lib.hid (And.intro hi0 (And.intro hz0 (And.intro hz1 hz2))); clear hi0 hz0 hz1 hz2
  have HN := Lib.hid (And.intro hnum (And.intro hb hq0)); clear hnum hb hq0
  have HBR := Lib.hid hbr; clear hbr
  have HQW := Lib.hid hQ; clear hQ
  by_cases hbad : e1 = 0 ∧ (n < 0 ∨ most < n)
  · obtain ⟨rfl, hbad⟩ := hbad
    have hq0 := HN.out.2.2
    rw [if_pos ⟨rfl, hbad⟩] at hq0
    subst hq0
    clear hz
    have hc : decide (n < 0) = true ∨ (decide (n < 0) = false ∧ decide (most < n) = true) := by simp only [decide_eq_true_eq, decide_eq_false_iff_not]; omega
    clear hbad
    rcases hc with d1 | ⟨d1, d2⟩
    all_goals
      go_enter Try.func65, Try.ntmps65
      go_wp2_with (first
        | (go_at_call 60; refine (rdq.err H2.out.1).mono ?_; rintro en w1' ⟨rfl, h3⟩; subst h3)
        | (go_at_call 64; refine HN.out.1.mono ?_; rintro en w1 ⟨rfl, h1, h2⟩; have H2 := Lib.hid (And.intro h1 h2); clear h1 h2))
      go_ret2
      exact ⟨⟨_, rfl, World.ownsRow_nil _ _ _ _⟩, fun h => absurd h (by decide), H2.out.2⟩
  · obtain ⟨k, rfl, hk⟩ : ∃ k : Nat, n = (k : Int) ∧ k ≤ 1000 := by
      by_cases h0 : e1 = 0
      · exact ⟨n.toNat, by omega, by omega⟩
      · exact ⟨0, hz h0, by omega⟩
    clear hz
    have hq0 := HN.out.2.2
    rw [if_neg hbad, Int.toNat_natCast] at hq0
    have HQ0 := Lib.hid hq0; clear hq0
    go_enter Try.func65, Try.ntmps65
    go_upto_region 2 with (go_at_call 64; refine HN.out.1.mono ?_; rintro en w1 ⟨rfl, h1, h2⟩; have H2 := Lib.hid (And.intro h1 h2); clear h1 h2)
    go_cut [23] from 10 (fun s23 wx => s23 = .bool false ∧ w1 = wx)
    case first =>
      by_cases h0 : e1 = 0
      · subst h0
        have d1 : decide ((k : Int) < 0) = false := decide_eq_false (by omega)
        have d2 : decide (most < (k : Int)) = false := decide_eq_false (fun h => hbad ⟨rfl, .inr h⟩)
        clear hbad
        go_wp2_with (go_at_call 60; refine (rdq.err H2.out.1).mono ?_; rintro en w1' ⟨rfl, h3⟩; subst h3)
        go_meet
        case rel => exact ⟨rfl, rfl⟩
      · have d1 : (e1 == 0) = false := by simp [h0]
        clear hbad h0
        go_wp2_with (go_at_call 60; refine (rdq.err H2.out.1).mono ?_; rintro en w1' ⟨rfl, h3⟩; subst h3)
        go_meet
        case rel => exact ⟨rfl, rfl⟩
    case rest =>
      obtain ⟨rfl, rfl⟩ := hcut
      clear hbad
      go_wp2_with fail
      go_loopw [9, 25] (fun l i wx => ∃ (j : Nat) (ns : List ByteArray) (Lj : List Nat) (ej : Int), j ≤ k ∧ i = .int .i64 (j : Int) ∧ ns.length = j ∧ rd.texts k L1 e1 = (ns ++ (rd.texts (k - j) Lj ej).1, (rd.texts (k - j) Lj ej).2) ∧ wx.ownsRow w.heap.size 9 1 l j (ns.map fun s => .string s) ∧ RdQ Q wx r Lj ej ∧ Chg w wx (rdT r)) (fun _ i _ => k - (intOf i).toNat)
      case atStart => exact ⟨0, [], L1, e1, by omega, rfl, rfl, by simp, World.ownsRow_nil _ _ _ _, H2.out.1, H2.out.2⟩
      case round =>
        obtain ⟨j, ns, Lj, ej, hj, rfl, hns, htx, hown, hrd, hcw⟩ := hrel
        obtain ⟨Al, cl, rfl, -, -⟩ := own_at hown
        by_cases hlt : j < k
        · have hlt' : (j : Int) < (k : Int) := by omega
          have hclos := pq.clos_any _ bx r Lj ej wr (hcw.blk HN.out.2.1 HBR.out) hrd
          rw [show k - j = (k - (j + 1)) + 1 by omega] at htx
          rw [rd.texts] at htx
          obtain ⟨⟨Pj, Lj1, ej1⟩, hpj⟩ : ∃ q, rd.piece Lj ej 100 = q := ⟨_, rfl⟩
          rw [hpj] at htx hclos
          dsimp only at htx hclos
          clear hpj
          obtain ⟨s, hs⟩ : ∃ s, s = strOf Pj := ⟨_, rfl⟩
          unfold TextQ at hclos
          rw [← hs] at htx hclos
          clear hs
          have hrow : (Value.slice Al j cl).ownBlock ≠ some r := by
            obtain ⟨cs, hb⟩ := hrd.blk
            exact hb.not_row (by decide) hown
          have HJ := Lib.hid (And.intro hclos (And.intro hns (And.intro htx (And.intro hown (And.intro hcw hrow))))); clear hclos hns htx hown hcw hrow hrd
          go_wp2_with fail
          refine HJ.out.1.mono ?_
          rintro en w4 ⟨rfl, hr4, hc4⟩
          obtain ⟨wa, hwa⟩ : ∃ wa, wa = w4.alloc (.cells #[.string s] 9) := ⟨_, rfl⟩
          have hba : Below w4.heap.size w4 wa := by rw [hwa]; exact (Below.refl _ _).alloc (Nat.le_refl _) _
          have howna : wa.ownsRow w.heap.size 9 1 (.slice Al j cl) j (ns.map fun s => .string s) := (chg_of (P := fun _ => False) hba).own (hc4.own HJ.out.2.2.2.1 fun q hq e => HJ.out.2.2.2.2.2 (by rw [hq, show q = r from e])) fun _ _ q => q
          have hra := hr4.keep hba
          have hcwa : Chg w wa (rdT r) := (HJ.out.2.2.2.2.1.trans hc4 fun _ _ q => q).trans (chg_of (P := fun _ => False) hba) fun _ _ q => q.elim
          have hcell := pq.new_one w4 (.string s) 9 w4.heap.size rfl
          have happ : ∀ v2 w9, w9.ownsRow w.heap.size 9 1 v2 (j + 1) ((ns.map fun s => .string s) ++ [.string s]) → wa.grownBy w9 (Value.slice Al j cl).ownBlock → w9.ownsRow w.heap.size 9 1 v2 (j + 1) ((ns ++ [s]).map fun s => .string s) ∧ RdQ Q w9 r Lj1 ej1 ∧ Chg w w9 (rdT r) := fun v2 w9 h1 h2 =>
            ⟨by rw [List.map_append]; exact h1, hra.chg (Chg.grown h2) HJ.out.2.2.2.2.2 fun q hq e => by have h1 := (howna.lt q e).1; have h2 := HQW.out q hq; omega, hcwa.trans (Chg.grown h2) fun q hq e => absurd (howna.lt q e).1 (Nat.not_le.2 hq)⟩
          have hszw : w.heap.size ≤ wa.heap.size := hcwa.size
          have HAPP := Lib.hid (And.intro happ (And.intro howna (And.intro hcell (And.intro hwa hszw)))); clear happ howna hcell hwa hszw hba hra hcwa hr4 hc4
          go_wp2_with (at_builtin; rw [← HAPP.out.2.2.2.1]; refine wpList_append_own_at _ rfl (.tmp 27) (.tmp 30) 22 rfl w.heap.size 9 i0 _ 1 16 Try.underlying22 HI.out.1 HI.out.2.1 HI.out.2.2.1 HI.out.2.2.2 rfl (by decide) (.slice Al j cl) j (ns.map fun s => .string s) rfl HAPP.out.2.1 ⟨w4.heap.size, 0, none⟩ 1 1 [.string s] rfl rfl (by rw [HAPP.out.2.2.2.1]; exact HAPP.out.2.2.1) (by simp [Value.oneCell']) (by unfold maxLen; omega) (by omega) HAPP.out.2.2.2.2 ?_; intro v2 w9 h1 h2 _ h3; have HN9 := Lib.hid (HAPP.out.1 v2 w9 h1 h2); clear h1 h2 h3)
          go_wp2_with fail
          go_roundw
          case rel => exact ⟨j + 1, ns ++ [s], Lj1, ej1, by omega, by go_num, by rw [List.length_append, HJ.out.2.1]; rfl, by rw [HJ.out.2.2.1, List.append_assoc]; rfl, HN9.out.1, HN9.out.2.1, HN9.out.2.2⟩
          case measure => simp [intOf]; omega
        · obtain rfl : k = j := by omega
          rw [Nat.sub_self] at htx
          have hq1 : q0 = (ns, Lj, ej) := by rw [HQ0.out, htx]; simp [rd.texts]
          subst hq1
          have HF := Lib.hid (And.intro hns (And.intro hown (And.intro hrd hcw))); clear hns hown hrd hcw htx hlt HQ0
          go_wp2_with (go_at_call 60; refine (rdq.err HF.out.2.2.1).mono ?_; rintro en w1' ⟨rfl, h3⟩; subst h3)
          go_ret2
          exact ⟨⟨_, rfl, by dsimp only; rw [HF.out.1]; exact HF.out.2.1⟩, fun h => by have h : ej = 0 := h; subst h; exact HF.out.2.2.1, HF.out.2.2.2⟩
end
section
open Go.RowKit Go.Maps
set_option maxRecDepth 20000

def pq.zero : Array Value := #[.int .i64 0, .int .i64 0, .string (ByteArray.mk #[]), .string (ByteArray.mk #[]), .int .i64 0, .int .i64 0, .int .i64 0, .int .i64 0, .string (ByteArray.mk #[]), .string (ByteArray.mk #[]), .int .i64 0, .slice none 0 0, .slice none 0 0]
theorem pq.infoReq : (Try.prog.info? 25).map (·.size) = some 13 := by kernel_rfl
theorem pq.blk_row {w : World} {p : Nat} {T : TypeId} {cs : Array Value} (h : Blk w p T cs) (c2 : Array Value) : Blk (w.setRow p c2) p T c2 := setRow_heap w p cs c2 T _ h
theorem pq.chg_row (w : World) (g : Nat) (cs : Array Value) : Chg w (w.setRow g cs) (fun k => k = g) := ⟨rfl, rfl, rfl, by simp, fun k _ hk => setRow_other w g k cs hk⟩
theorem num.gt_u (bs : Nat → Nat) (n : Nat) : ∀ (k i u v m : Nat), i + k = 10 → u < 128 ^ i → num.gt bs n k i u = some (v, m) → v < 2 * 128 ^ 9
  | 0, i, u, v, m, _, _, h => by simp [num.gt] at h
  | k + 1, i, u, v, m, hi, hu, h => by
    rw [num.gt] at h
    split at h
    · cases h
    · split at h
      · cases h
      · rename_i h9
        split at h
        · refine num.gt_u bs n k (i + 1) _ v m (by omega) ?_ h
          have h1 : bs i % 128 * 128 ^ i ≤ 127 * 128 ^ i := Nat.mul_le_mul_right _ (by omega)
          rw [Nat.pow_succ]
          omega
        · split at h
          · cases h
          · simp only [Option.some.injEq, Prod.mk.injEq] at h
            rw [← h.1]
            exact (num.top u (bs i) i hu (by omega) h9).2
theorem rd.num_bd (L : List Nat) (e : Int) : pq.int (rd.num L e).1 := by
  unfold rd.num pq.int
  split
  · omega
  · split
    · omega
    · rename_i u k hg
      have h1 := num.gt_u (fun j => L.getD j 0) L.length 10 0 0 u k rfl (by omega) hg
      unfold num.zag
      dsimp only
      split <;> omega
theorem rd.texts_size : ∀ (k : Nat) (L : List Nat) (e : Int), ∀ s ∈ (rd.texts k L e).1, s.size ≤ 100
  | 0, _, _, s, h => by cases h
  | k + 1, L, e, s, h => by
    rw [rd.texts] at h
    rcases List.mem_cons.1 h with rfl | h
    · rw [strOf_size]
      have h1 : ((rd.piece L e 100).1.length : Int) ≤ 100 := by
        unfold rd.piece rd.cut
        split
        · simp
        · split
          · simp
          · split
            · simp
            · rw [List.length_take]
              omega
      omega
    · exact rd.texts_size k _ _ s h
theorem pq.list_size {most : Int} {L : List Nat} {e : Int} : ∀ s ∈ (pq.list most L e).1, s.size ≤ 100 := by
  intro s hs
  unfold pq.list at hs
  split at hs
  · cases hs
  · exact rd.texts_size _ _ _ s hs
theorem pq.strsV {w : World} {B n c : Nat} {A : Option Addr} {l : List ByteArray} (h : w.ownsRow B 9 1 (.slice A n c) n (l.map fun s => .string s)) (hl : l.length = n) (hs : ∀ s ∈ l, s.size ≤ maxLen) : StrsV w (.slice A l.length c) l := by
  subst hl
  obtain ⟨A9, c9, e9, hc, hat⟩ := own_at h
  obtain ⟨rfl, rfl⟩ : A = A9 ∧ c = c9 := by injection e9 with e1 e2 e3; exact ⟨e1, e3⟩
  rw [Nat.mul_one] at hat
  exact ⟨A, c, rfl, hat.congr fun j hj => by simp [List.getD, hj], hc, own_cap h, hs⟩
theorem rd.piece_len {L : List Nat} {e most : Int} (hm : 0 ≤ most) : ((rd.piece L e most).1.length : Int) ≤ most := by
  unfold rd.piece rd.cut
  split
  · simpa using hm
  · split
    · simpa using hm
    · split
      · simpa using hm
      · rw [List.length_take]
        omega
theorem rd.piece_rest (L : List Nat) (e most : Int) : (rd.piece L e most).2.1.length ≤ L.length := by
  have h := rd.num_le L e
  unfold rd.piece rd.cut
  split
  · exact h
  · split
    · exact Nat.zero_le _
    · split
      · exact Nat.zero_le _
      · rw [List.length_drop]
        omega
theorem rd.texts_rest : ∀ (k : Nat) (L : List Nat) (e : Int), (rd.texts k L e).2.1.length ≤ L.length
  | 0, _, _ => Nat.le_refl _
  | k + 1, L, e => Nat.le_trans (rd.texts_rest k _ _) (rd.piece_rest L e 100)
theorem pq.list_rest (most : Int) (L : List Nat) (e : Int) : (pq.list most L e).2.1.length ≤ L.length := by
  have h := rd.num_le L e
  unfold pq.list
  split
  · exact h
  · exact Nat.le_trans (rd.texts_rest _ _ _) h
theorem rd.piece_mem {L : List Nat} {e most : Int} : ∀ x ∈ (rd.piece L e most).1, x ∈ L := by
  intro x hx
  unfold rd.piece rd.cut at hx
  have hsub : ∀ y ∈ (rd.num L e).2.1, y ∈ L := fun y hy => by
    unfold rd.num at hy
    split at hy
    · exact hy
    · split at hy
      · cases hy
      · exact List.mem_of_mem_drop hy
  split at hx
  · cases hx
  · split at hx
    · cases hx
    · split at hx
      · cases hx
      · exact hsub x (List.mem_of_mem_take hx)
/-- What stands behind a request's kind and number; the error. -/
def pq.rest (kind corr : Int) (L : List Nat) (e : Int) : PReq × Int :=
  let a := rd.piece L e 100
  let b := rd.piece a.2.1 a.2.2 100
  let c := rd.num b.2.1 b.2.2
  let d := rd.num c.2.1 c.2.2
  let f := rd.num d.2.1 d.2.2
  let g := rd.num f.2.1 f.2.2
  let h := rd.piece g.2.1 g.2.2 100
  let i := rd.piece h.2.1 h.2.2 100
  let j := rd.num i.2.1 i.2.2
  let k := pq.list 30 j.2.1 j.2.2
  if k.2.2 ≠ 0 then (⟨0, 0, ByteArray.mk #[], ByteArray.mk #[], 0, 0, 0, 0, ByteArray.mk #[], ByteArray.mk #[], 0, [], []⟩, k.2.2) else
  let l := rd.piece k.2.1 0 65536
  (⟨kind, corr, strOf a.1, strOf b.1, c.1, d.1, f.1, g.1, strOf h.1, strOf i.1, j.1, k.1, l.1⟩, if 0 < l.2.1.length then 2 else l.2.2)
/-- Under way: the boxes of the reader's place, of the request and of the answer, the reader. -/
structure pq.Dst (w v : World) (r b0 b1 b2 : Nat) (cs : Array Value) (L : List Nat) (e : Int) : Prop where
  p : Blk v b0 73 #[.pointer (some ⟨r, 0, none⟩)]
  q : Blk v b1 25 cs
  z : Blk v b2 25 pq.zero
  rd : RdQ (fun k => k < w.heap.size) v r L e
  chg : Chg w v (rdT r)
  low : r < w.heap.size ∧ w.heap.size ≤ b0 ∧ w.heap.size ≤ b1 ∧ w.heap.size ≤ b2 ∧ b0 ≠ b1 ∧ b1 ≠ b2 ∧ b0 ≠ b2
theorem pq.Dst.call {w v v1 : World} {r b0 b1 b2 : Nat} {cs : Array Value} {L L1 : List Nat} {e e1 : Int} (h : pq.Dst w v r b0 b1 b2 cs L e) (h1 : RdQ (fun k => k < w.heap.size) v1 r L1 e1) (h2 : Chg v v1 (rdT r)) : pq.Dst w v1 r b0 b1 b2 cs L1 e1 := by
  have hl := h.low
  have hn : ∀ b, w.heap.size ≤ b → ¬ rdT r b := fun b hb e => by have e : b = r := e; omega
  exact ⟨h2.blk h.p (hn _ hl.2.1), h2.blk h.q (hn _ hl.2.2.1), h2.blk h.z (hn _ hl.2.2.2.1), h1, h.chg.trans h2 fun _ _ q => q, hl⟩
theorem pq.Dst.store {w v : World} {r b0 b1 b2 : Nat} {cs : Array Value} {L : List Nat} {e : Int} (h : pq.Dst w v r b0 b1 b2 cs L e) (i : Nat) (x : Value) : pq.Dst w (v.setCell ⟨b1, i, none⟩ x) r b0 b1 b2 (cs.setIfInBounds i x) L e := by
  obtain ⟨l1, l2, l3, l4, l5, l6, l7⟩ := h.low
  have hc := Chg.setCell v b1 i x
  exact ⟨hc.blk h.p l5, h.q.set i x, hc.blk h.z fun e => l6 e.symm, h.rd.chg hc (fun e => by have e : r = b1 := e; omega) fun k hk e => by have e : k = b1 := e; omega, h.chg.trans hc fun k hk e => by have e : k = b1 := e; omega, h.low⟩
theorem rdq.left {Q : Nat → Prop} {r : Nat} {L : List Nat} {e : Int} {w : World} (h : RdQ Q w r L e) : Calls Try.prog 79 #[.pointer (some ⟨r, 0, none⟩)] w fun en w' => en = .returned (.int .i64 (L.length : Int)) ∧ w = w' := by
  obtain ⟨A, c, h, -⟩ := h
  exact wire.left_any r A c L e w h
theorem pq.ended_any {Q : Nat → Prop} {r : Nat} {L : List Nat} {e : Int} {w : World} (h : RdQ Q w r L e) : Calls Try.prog 68 #[.pointer (some ⟨r, 0, none⟩)] w fun en w' => en = .returned (.int .i64 (if 0 < L.length then 2 else e)) ∧ w = w' := by
  have hl := rdq.left h
  have he := rdq.err h
  obtain ⟨n, hn⟩ : ∃ n, n = L.length := ⟨_, rfl⟩
  rw [← hn] at hl ⊢
  have H := Lib.hid (And.intro hl he); clear hl he h hn
  by_cases h0 : 0 < n
  · have d0 : decide (0 < n) = true := decide_eq_true h0
    have d1 : decide (0 < (n : Int)) = true := decide_eq_true (by omega)
    rw [if_pos h0]
    go_enter Try.func68, Try.ntmps68
    go_wp2_with (go_at_call 79; refine H.out.1.mono ?_; rintro en w1 ⟨rfl, h3⟩; subst h3)
    go_ret
    exact ⟨rfl, rfl⟩
  · have d0 : decide (0 < n) = false := decide_eq_false h0
    have d1 : decide (0 < (n : Int)) = false := decide_eq_false (by omega)
    rw [if_neg h0]
    go_enter Try.func68, Try.ntmps68
    go_wp2_with (first
      | (go_at_call 79; refine H.out.1.mono ?_; rintro en w1 ⟨rfl, h3⟩; subst h3)
      | (go_at_call 60; refine H.out.2.mono ?_; rintro en w1 ⟨rfl, h3⟩; subst h3))
    go_ret
    exact ⟨rfl, rfl⟩

set_option maxHeartbeats 8000000 in
theorem pq.rest_any (kind corr : Int) (r : Nat) (L : List Nat) (e : Int) (w : World) (h : RdQ (fun k => k < w.heap.size) w r L e) (hk : pq.int kind) (hc : pq.int corr) (hL : L.length ≤ 140737488351232) :
    Calls Try.prog 41 #[.pointer (some ⟨r, 0, none⟩), .agg #[.int .i64 kind, .int .i64 corr, .string (ByteArray.mk #[]), .string (ByteArray.mk #[]), .int .i64 0, .int .i64 0, .int .i64 0, .int .i64 0, .string (ByteArray.mk #[]), .string (ByteArray.mk #[]), .int .i64 0, .slice none 0 0, .slice none 0 0]] w fun en w' => (∃ cs : Array Value, en = .returned (.tuple #[.agg cs, .int .i64 (pq.rest kind corr L e).2]) ∧ (cs.size = 13 ∧ cs.all (fun v => v.oneCell') = true) ∧
      ((pq.rest kind corr L e).2 = 0 → ∃ An cn Ad cd, cs = (pq.rest kind corr L e).1.cells An cn Ad cd ∧ ReqV w' An cn Ad cd (pq.rest kind corr L e).1 ∧ (∀ b off, An = some ⟨b, off, none⟩ → w.heap.size ≤ b) ∧ ∀ b off, Ad = some ⟨b, off, none⟩ → w.heap.size ≤ b)) ∧ Chg w w' (rdT r) := by
  obtain ⟨R, hR⟩ : ∃ R, R = pq.rest kind corr L e := ⟨_, rfl⟩
  rw [← hR]
  have hrw : r < w.heap.size := by obtain ⟨cs, hb⟩ := h.blk; exact hb.lt
  obtain ⟨b0, hb0⟩ : ∃ b, b = w.heap.size := ⟨_, rfl⟩
  obtain ⟨w3, hw3⟩ : ∃ w3, w3 = ((w.alloc (.cells #[.pointer (some ⟨r, 0, none⟩)] 73)).alloc (.cells #[.int .i64 kind, .int .i64 corr, .string (ByteArray.mk #[]), .string (ByteArray.mk #[]), .int .i64 0, .int .i64 0, .int .i64 0, .int .i64 0, .string (ByteArray.mk #[]), .string (ByteArray.mk #[]), .int .i64 0, .slice none 0 0, .slice none 0 0] 25)).alloc (.cells pq.zero 25) := ⟨_, rfl⟩
  have hst : pq.Dst w w3 r b0 (b0 + 1) (b0 + 2) #[.int .i64 kind, .int .i64 corr, .string (ByteArray.mk #[]), .string (ByteArray.mk #[]), .int .i64 0, .int .i64 0, .int .i64 0, .int .i64 0, .string (ByteArray.mk #[]), .string (ByteArray.mk #[]), .int .i64 0, .slice none 0 0, .slice none 0 0] L e := by
    rw [hw3, hb0]
    have a1 := Blk.new w 73 #[.pointer (some ⟨r, 0, none⟩)]
    have a2 := Blk.new (w.alloc (.cells #[.pointer (some ⟨r, 0, none⟩)] 73)) 25 #[.int .i64 kind, .int .i64 corr, .string (ByteArray.mk #[]), .string (ByteArray.mk #[]), .int .i64 0, .int .i64 0, .int .i64 0, .int .i64 0, .string (ByteArray.mk #[]), .string (ByteArray.mk #[]), .int .i64 0, .slice none 0 0, .slice none 0 0]
    have a3 := Blk.new ((w.alloc (.cells #[.pointer (some ⟨r, 0, none⟩)] 73)).alloc (.cells #[.int .i64 kind, .int .i64 corr, .string (ByteArray.mk #[]), .string (ByteArray.mk #[]), .int .i64 0, .int .i64 0, .int .i64 0, .int .i64 0, .string (ByteArray.mk #[]), .string (ByteArray.mk #[]), .int .i64 0, .slice none 0 0, .slice none 0 0] 25)) 25 pq.zero
    rw [World.size_alloc] at a2 a3
    rw [World.size_alloc] at a3
    have c1 := Chg.alloc w (.cells #[.pointer (some ⟨r, 0, none⟩)] 73) (fun _ => False)
    have c2 := Chg.alloc (w.alloc (.cells #[.pointer (some ⟨r, 0, none⟩)] 73)) (.cells #[.int .i64 kind, .int .i64 corr, .string (ByteArray.mk #[]), .string (ByteArray.mk #[]), .int .i64 0, .int .i64 0, .int .i64 0, .int .i64 0, .string (ByteArray.mk #[]), .string (ByteArray.mk #[]), .int .i64 0, .slice none 0 0, .slice none 0 0] 25) (fun _ => False)
    have c3 := Chg.alloc ((w.alloc (.cells #[.pointer (some ⟨r, 0, none⟩)] 73)).alloc (.cells #[.int .i64 kind, .int .i64 corr, .string (ByteArray.mk #[]), .string (ByteArray.mk #[]), .int .i64 0, .int .i64 0, .int .i64 0, .int .i64 0, .string (ByteArray.mk #[]), .string (ByteArray.mk #[]), .int .i64 0, .slice none 0 0, .slice none 0 0] 25)) (.cells pq.zero 25) (fun _ => False)
    have c123 := (c1.trans c2 fun _ _ q => q).trans c3 fun _ _ q => q
    exact ⟨c3.blk (c2.blk a1 fun q => q) fun q => q, c3.blk a2 fun q => q, a3, h.chg c123 (fun q => q) fun _ _ q => q, c123.mono fun _ _ q => q.elim, by omega, by omega, by omega, by omega, by omega, by omega, by omega⟩
  have HLL := Lib.hid hL; clear hL
  have HR := Lib.hid hR; clear hR
  have HKC := Lib.hid (And.intro hk (And.intro hc h)); clear hk hc h
  have hmf : ∀ (fn : Fn) (first cap : Array Value) (w : World), (Instr.makeFunc fn first cap).run Try.prog w = .ok (.func fn first cap) w := fun _ _ _ _ => rfl
  go_enter Try.func41, Try.ntmps41
  go_upto_region 1 with fail
  unfold pq.zero at hw3
  rw [← hw3, ← hb0]
  have D0 := Lib.hid hst; clear hst hw3 hb0
  have hcall0 := rdq.text _ r L e 100 w3 D0.out.rd
  obtain ⟨⟨X0, L0, e0⟩, hq0⟩ : ∃ q, rd.piece L e 100 = q := ⟨_, rfl⟩
  rw [hq0] at hcall0
  dsimp only at hcall0
  unfold TextQ at hcall0
  obtain ⟨x0, hx0⟩ : ∃ x, x = strOf X0 := ⟨_, rfl⟩
  rw [← hx0] at hcall0
  have hlen0 : x0.size ≤ 100 := by
    rw [hx0, strOf_size]
    have h1 := rd.piece_len (L := L) (e := e) (most := 100) (by omega)
    rw [hq0] at h1
    dsimp only at h1
    omega
  have HC0 := Lib.hid (And.intro hcall0 (And.intro hq0 (And.intro hx0 hlen0))); clear hcall0 hq0 hx0 hlen0
  have k0 := D0.out.p.cell 0 (v := .pointer (some ⟨r, 0, none⟩)) rfl
  have kl := D0.out.p.lt
  go_upto_region 2 with (go_at_call 63; refine HC0.out.1.mono ?_; rintro en u0 ⟨rfl, h1, h2⟩; have C0 := Lib.hid (D0.out.call h1 h2); clear h1 h2; have m0 := C0.out.q.cell 2 (v := .string (ByteArray.mk #[])) rfl; have m1 := C0.out.q.frozen 2; have m2 := C0.out.q.lt)
  clear k0 kl m0 m1 m2
  obtain ⟨v0, hv0⟩ : ∃ v, v = u0.setCell ⟨b0 + 1, 2, none⟩ (.string x0) := ⟨_, rfl⟩
  rw [← hv0]
  have hd0 : pq.Dst w v0 r b0 (b0 + 1) (b0 + 2) #[.int .i64 kind, .int .i64 corr, .string x0, .string (ByteArray.mk #[]), .int .i64 0, .int .i64 0, .int .i64 0, .int .i64 0, .string (ByteArray.mk #[]), .string (ByteArray.mk #[]), .int .i64 0, .slice none 0 0, .slice none 0 0] L0 e0 := by rw [hv0]; exact C0.out.store 2 _
  have D1 := Lib.hid hd0; clear hd0 hv0 C0 D0
  have hcall1 := rdq.text _ r L0 e0 100 v0 D1.out.rd
  obtain ⟨⟨X1, L1, e1⟩, hq1⟩ : ∃ q, rd.piece L0 e0 100 = q := ⟨_, rfl⟩
  rw [hq1] at hcall1
  dsimp only at hcall1
  unfold TextQ at hcall1
  obtain ⟨x1, hx1⟩ : ∃ x, x = strOf X1 := ⟨_, rfl⟩
  rw [← hx1] at hcall1
  have hlen1 : x1.size ≤ 100 := by
    rw [hx1, strOf_size]
    have h1 := rd.piece_len (L := L0) (e := e0) (most := 100) (by omega)
    rw [hq1] at h1
    dsimp only at h1
    omega
  have HC1 := Lib.hid (And.intro hcall1 (And.intro hq1 (And.intro hx1 hlen1))); clear hcall1 hq1 hx1 hlen1
  have k0 := D1.out.p.cell 0 (v := .pointer (some ⟨r, 0, none⟩)) rfl
  have kl := D1.out.p.lt
  go_upto_region 3 with (go_at_call 63; refine HC1.out.1.mono ?_; rintro en u1 ⟨rfl, h1, h2⟩; have C1 := Lib.hid (D1.out.call h1 h2); clear h1 h2; have m0 := C1.out.q.cell 3 (v := .string (ByteArray.mk #[])) rfl; have m1 := C1.out.q.frozen 3; have m2 := C1.out.q.lt)
  clear k0 kl m0 m1 m2
  obtain ⟨v1, hv1⟩ : ∃ v, v = u1.setCell ⟨b0 + 1, 3, none⟩ (.string x1) := ⟨_, rfl⟩
  rw [← hv1]
  have hd1 : pq.Dst w v1 r b0 (b0 + 1) (b0 + 2) #[.int .i64 kind, .int .i64 corr, .string x0, .string x1, .int .i64 0, .int .i64 0, .int .i64 0, .int .i64 0, .string (ByteArray.mk #[]), .string (ByteArray.mk #[]), .int .i64 0, .slice none 0 0, .slice none 0 0] L1 e1 := by rw [hv1]; exact C1.out.store 3 _
  have D2 := Lib.hid hd1; clear hd1 hv1 C1 D1
  have hcall2 := rdq.num _ r L1 e1 v1 D2.out.rd
  have hbd2 := rd.num_bd L1 e1
  obtain ⟨⟨x2, L2, e2⟩, hq2⟩ : ∃ q, rd.num L1 e1 = q := ⟨_, rfl⟩
  rw [hq2] at hcall2 hbd2
  dsimp only at hcall2 hbd2
  unfold RqPost at hcall2
  have HC2 := Lib.hid (And.intro hcall2 (And.intro hq2 hbd2)); clear hcall2 hq2 hbd2
  have k0 := D2.out.p.cell 0 (v := .pointer (some ⟨r, 0, none⟩)) rfl
  have kl := D2.out.p.lt
  go_upto_region 4 with (go_at_call 64; refine HC2.out.1.mono ?_; rintro en u2 ⟨rfl, h1, h2⟩; have C2 := Lib.hid (D2.out.call h1 h2); clear h1 h2; have m0 := C2.out.q.cell 4 (v := .int .i64 0) rfl; have m1 := C2.out.q.frozen 4; have m2 := C2.out.q.lt)
  clear k0 kl m0 m1 m2
  obtain ⟨v2, hv2⟩ : ∃ v, v = u2.setCell ⟨b0 + 1, 4, none⟩ (.int .i64 x2) := ⟨_, rfl⟩
  rw [← hv2]
  have hd2 : pq.Dst w v2 r b0 (b0 + 1) (b0 + 2) #[.int .i64 kind, .int .i64 corr, .string x0, .string x1, .int .i64 x2, .int .i64 0, .int .i64 0, .int .i64 0, .string (ByteArray.mk #[]), .string (ByteArray.mk #[]), .int .i64 0, .slice none 0 0, .slice none 0 0] L2 e2 := by rw [hv2]; exact C2.out.store 4 _
  have D3 := Lib.hid hd2; clear hd2 hv2 C2 D2
  have hcall3 := rdq.num _ r L2 e2 v2 D3.out.rd
  have hbd3 := rd.num_bd L2 e2
  obtain ⟨⟨x3, L3, e3⟩, hq3⟩ : ∃ q, rd.num L2 e2 = q := ⟨_, rfl⟩
  rw [hq3] at hcall3 hbd3
  dsimp only at hcall3 hbd3
  unfold RqPost at hcall3
  have HC3 := Lib.hid (And.intro hcall3 (And.intro hq3 hbd3)); clear hcall3 hq3 hbd3
  have k0 := D3.out.p.cell 0 (v := .pointer (some ⟨r, 0, none⟩)) rfl
  have kl := D3.out.p.lt
  go_upto_region 5 with (go_at_call 64; refine HC3.out.1.mono ?_; rintro en u3 ⟨rfl, h1, h2⟩; have C3 := Lib.hid (D3.out.call h1 h2); clear h1 h2; have m0 := C3.out.q.cell 5 (v := .int .i64 0) rfl; have m1 := C3.out.q.frozen 5; have m2 := C3.out.q.lt)
  clear k0 kl m0 m1 m2
  obtain ⟨v3, hv3⟩ : ∃ v, v = u3.setCell ⟨b0 + 1, 5, none⟩ (.int .i64 x3) := ⟨_, rfl⟩
  rw [← hv3]
  have hd3 : pq.Dst w v3 r b0 (b0 + 1) (b0 + 2) #[.int .i64 kind, .int .i64 corr, .string x0, .string x1, .int .i64 x2, .int .i64 x3, .int .i64 0, .int .i64 0, .string (ByteArray.mk #[]), .string (ByteArray.mk #[]), .int .i64 0, .slice none 0 0, .slice none 0 0] L3 e3 := by rw [hv3]; exact C3.out.store 5 _
  have D4 := Lib.hid hd3; clear hd3 hv3 C3 D3
  have hcall4 := rdq.num _ r L3 e3 v3 D4.out.rd
  have hbd4 := rd.num_bd L3 e3
  obtain ⟨⟨x4, L4, e4⟩, hq4⟩ : ∃ q, rd.num L3 e3 = q := ⟨_, rfl⟩
  rw [hq4] at hcall4 hbd4
  dsimp only at hcall4 hbd4
  unfold RqPost at hcall4
  have HC4 := Lib.hid (And.intro hcall4 (And.intro hq4 hbd4)); clear hcall4 hq4 hbd4
  have k0 := D4.out.p.cell 0 (v := .pointer (some ⟨r, 0, none⟩)) rfl
  have kl := D4.out.p.lt
  go_upto_region 6 with (go_at_call 64; refine HC4.out.1.mono ?_; rintro en u4 ⟨rfl, h1, h2⟩; have C4 := Lib.hid (D4.out.call h1 h2); clear h1 h2; have m0 := C4.out.q.cell 6 (v := .int .i64 0) rfl; have m1 := C4.out.q.frozen 6; have m2 := C4.out.q.lt)
  clear k0 kl m0 m1 m2
  obtain ⟨v4, hv4⟩ : ∃ v, v = u4.setCell ⟨b0 + 1, 6, none⟩ (.int .i64 x4) := ⟨_, rfl⟩
  rw [← hv4]
  have hd4 : pq.Dst w v4 r b0 (b0 + 1) (b0 + 2) #[.int .i64 kind, .int .i64 corr, .string x0, .string x1, .int .i64 x2, .int .i64 x3, .int .i64 x4, .int .i64 0, .string (ByteArray.mk #[]), .string (ByteArray.mk #[]), .int .i64 0, .slice none 0 0, .slice none 0 0] L4 e4 := by rw [hv4]; exact C4.out.store 6 _
  have D5 := Lib.hid hd4; clear hd4 hv4 C4 D4
  have hcall5 := rdq.num _ r L4 e4 v4 D5.out.rd
  have hbd5 := rd.num_bd L4 e4
  obtain ⟨⟨x5, L5, e5⟩, hq5⟩ : ∃ q, rd.num L4 e4 = q := ⟨_, rfl⟩
  rw [hq5] at hcall5 hbd5
  dsimp only at hcall5 hbd5
  unfold RqPost at hcall5
  have HC5 := Lib.hid (And.intro hcall5 (And.intro hq5 hbd5)); clear hcall5 hq5 hbd5
  have k0 := D5.out.p.cell 0 (v := .pointer (some ⟨r, 0, none⟩)) rfl
  have kl := D5.out.p.lt
  go_upto_region 7 with (go_at_call 64; refine HC5.out.1.mono ?_; rintro en u5 ⟨rfl, h1, h2⟩; have C5 := Lib.hid (D5.out.call h1 h2); clear h1 h2; have m0 := C5.out.q.cell 7 (v := .int .i64 0) rfl; have m1 := C5.out.q.frozen 7; have m2 := C5.out.q.lt)
  clear k0 kl m0 m1 m2
  obtain ⟨v5, hv5⟩ : ∃ v, v = u5.setCell ⟨b0 + 1, 7, none⟩ (.int .i64 x5) := ⟨_, rfl⟩
  rw [← hv5]
  have hd5 : pq.Dst w v5 r b0 (b0 + 1) (b0 + 2) #[.int .i64 kind, .int .i64 corr, .string x0, .string x1, .int .i64 x2, .int .i64 x3, .int .i64 x4, .int .i64 x5, .string (ByteArray.mk #[]), .string (ByteArray.mk #[]), .int .i64 0, .slice none 0 0, .slice none 0 0] L5 e5 := by rw [hv5]; exact C5.out.store 7 _
  have D6 := Lib.hid hd5; clear hd5 hv5 C5 D5
  have hcall6 := rdq.text _ r L5 e5 100 v5 D6.out.rd
  obtain ⟨⟨X6, L6, e6⟩, hq6⟩ : ∃ q, rd.piece L5 e5 100 = q := ⟨_, rfl⟩
  rw [hq6] at hcall6
  dsimp only at hcall6
  unfold TextQ at hcall6
  obtain ⟨x6, hx6⟩ : ∃ x, x = strOf X6 := ⟨_, rfl⟩
  rw [← hx6] at hcall6
  have hlen6 : x6.size ≤ 100 := by
    rw [hx6, strOf_size]
    have h1 := rd.piece_len (L := L5) (e := e5) (most := 100) (by omega)
    rw [hq6] at h1
    dsimp only at h1
    omega
  have HC6 := Lib.hid (And.intro hcall6 (And.intro hq6 (And.intro hx6 hlen6))); clear hcall6 hq6 hx6 hlen6
  have k0 := D6.out.p.cell 0 (v := .pointer (some ⟨r, 0, none⟩)) rfl
  have kl := D6.out.p.lt
  go_upto_region 8 with (go_at_call 63; refine HC6.out.1.mono ?_; rintro en u6 ⟨rfl, h1, h2⟩; have C6 := Lib.hid (D6.out.call h1 h2); clear h1 h2; have m0 := C6.out.q.cell 8 (v := .string (ByteArray.mk #[])) rfl; have m1 := C6.out.q.frozen 8; have m2 := C6.out.q.lt)
  clear k0 kl m0 m1 m2
  obtain ⟨v6, hv6⟩ : ∃ v, v = u6.setCell ⟨b0 + 1, 8, none⟩ (.string x6) := ⟨_, rfl⟩
  rw [← hv6]
  have hd6 : pq.Dst w v6 r b0 (b0 + 1) (b0 + 2) #[.int .i64 kind, .int .i64 corr, .string x0, .string x1, .int .i64 x2, .int .i64 x3, .int .i64 x4, .int .i64 x5, .string x6, .string (ByteArray.mk #[]), .int .i64 0, .slice none 0 0, .slice none 0 0] L6 e6 := by rw [hv6]; exact C6.out.store 8 _
  have D7 := Lib.hid hd6; clear hd6 hv6 C6 D6
  have hcall7 := rdq.text _ r L6 e6 100 v6 D7.out.rd
  obtain ⟨⟨X7, L7, e7⟩, hq7⟩ : ∃ q, rd.piece L6 e6 100 = q := ⟨_, rfl⟩
  rw [hq7] at hcall7
  dsimp only at hcall7
  unfold TextQ at hcall7
  obtain ⟨x7, hx7⟩ : ∃ x, x = strOf X7 := ⟨_, rfl⟩
  rw [← hx7] at hcall7
  have hlen7 : x7.size ≤ 100 := by
    rw [hx7, strOf_size]
    have h1 := rd.piece_len (L := L6) (e := e6) (most := 100) (by omega)
    rw [hq7] at h1
    dsimp only at h1
    omega
  have HC7 := Lib.hid (And.intro hcall7 (And.intro hq7 (And.intro hx7 hlen7))); clear hcall7 hq7 hx7 hlen7
  have k0 := D7.out.p.cell 0 (v := .pointer (some ⟨r, 0, none⟩)) rfl
  have kl := D7.out.p.lt
  go_upto_region 9 with (go_at_call 63; refine HC7.out.1.mono ?_; rintro en u7 ⟨rfl, h1, h2⟩; have C7 := Lib.hid (D7.out.call h1 h2); clear h1 h2; have m0 := C7.out.q.cell 9 (v := .string (ByteArray.mk #[])) rfl; have m1 := C7.out.q.frozen 9; have m2 := C7.out.q.lt)
  clear k0 kl m0 m1 m2
  obtain ⟨v7, hv7⟩ : ∃ v, v = u7.setCell ⟨b0 + 1, 9, none⟩ (.string x7) := ⟨_, rfl⟩
  rw [← hv7]
  have hd7 : pq.Dst w v7 r b0 (b0 + 1) (b0 + 2) #[.int .i64 kind, .int .i64 corr, .string x0, .string x1, .int .i64 x2, .int .i64 x3, .int .i64 x4, .int .i64 x5, .string x6, .string x7, .int .i64 0, .slice none 0 0, .slice none 0 0] L7 e7 := by rw [hv7]; exact C7.out.store 9 _
  have D8 := Lib.hid hd7; clear hd7 hv7 C7 D7
  have hcall8 := rdq.num _ r L7 e7 v7 D8.out.rd
  have hbd8 := rd.num_bd L7 e7
  obtain ⟨⟨x8, L8, e8⟩, hq8⟩ : ∃ q, rd.num L7 e7 = q := ⟨_, rfl⟩
  rw [hq8] at hcall8 hbd8
  dsimp only at hcall8 hbd8
  unfold RqPost at hcall8
  have HC8 := Lib.hid (And.intro hcall8 (And.intro hq8 hbd8)); clear hcall8 hq8 hbd8
  have k0 := D8.out.p.cell 0 (v := .pointer (some ⟨r, 0, none⟩)) rfl
  have kl := D8.out.p.lt
  go_upto_region 10 with (go_at_call 64; refine HC8.out.1.mono ?_; rintro en u8 ⟨rfl, h1, h2⟩; have C8 := Lib.hid (D8.out.call h1 h2); clear h1 h2; have m0 := C8.out.q.cell 10 (v := .int .i64 0) rfl; have m1 := C8.out.q.frozen 10; have m2 := C8.out.q.lt)
  clear k0 kl m0 m1 m2
  obtain ⟨v8, hv8⟩ : ∃ v, v = u8.setCell ⟨b0 + 1, 10, none⟩ (.int .i64 x8) := ⟨_, rfl⟩
  rw [← hv8]
  have hd8 : pq.Dst w v8 r b0 (b0 + 1) (b0 + 2) #[.int .i64 kind, .int .i64 corr, .string x0, .string x1, .int .i64 x2, .int .i64 x3, .int .i64 x4, .int .i64 x5, .string x6, .string x7, .int .i64 x8, .slice none 0 0, .slice none 0 0] L8 e8 := by rw [hv8]; exact C8.out.store 10 _
  have D9 := Lib.hid hd8; clear hd8 hv8 C8 D8
  have hlist := pq.list_any (fun k => k < w.heap.size) 30 b0 r L8 e8 v8 (by omega) D9.out.p D9.out.rd (fun k hk => Nat.lt_of_lt_of_le hk D9.out.chg.size)
  obtain ⟨⟨ns, L9, e9⟩, hq9⟩ : ∃ q, pq.list 30 L8 e8 = q := ⟨_, rfl⟩
  rw [hq9] at hlist
  dsimp only at hlist
  have HL := Lib.hid (And.intro hlist hq9); clear hlist hq9
  have k0 := D9.out.p.cell 0 (v := .pointer (some ⟨r, 0, none⟩)) rfl
  have kl := D9.out.p.lt
  go_upto_region 11 with (go_at_call 65; refine HL.out.1.mono ?_; rintro en u9 ⟨⟨vn, rfl, h1⟩, h2, h3⟩; have C9 := Lib.hid (And.intro h1 (And.intro h2 h3)); clear h1 h2 h3)

  clear k0 kl hmf
  have hb2r : ¬ rdT r (b0 + 2) := fun e => by have e : b0 + 2 = r := e; have := D9.out.low; omega
  have hb1r : ¬ rdT r (b0 + 1) := fun e => by have e : b0 + 1 = r := e; have := D9.out.low; omega
  have hRx : ∀ (l : List Nat × List Nat × Int), l = rd.piece L9 0 65536 → R = if e9 ≠ 0 then (⟨0, 0, ByteArray.mk #[], ByteArray.mk #[], 0, 0, 0, 0, ByteArray.mk #[], ByteArray.mk #[], 0, [], []⟩, e9) else (⟨kind, corr, x0, x1, x2, x3, x4, x5, x6, x7, x8, ns, l.1⟩, if 0 < l.2.1.length then 2 else l.2.2) := fun l hl => by
    rw [HR.out, hl, HC0.out.2.2.1, HC1.out.2.2.1, HC6.out.2.2.1, HC7.out.2.2.1]
    unfold pq.rest
    simp only [HC0.out.2.1, HC1.out.2.1, HC2.out.2.1, HC3.out.2.1, HC4.out.2.1, HC5.out.2.1, HC6.out.2.1, HC7.out.2.1, HC8.out.2.1, HL.out.2]
  have HRX := Lib.hid hRx; clear hRx
  have hL9 : L9.length ≤ 140737488351232 := by
    have l0 := rd.piece_rest L e 100
    have l1 := rd.piece_rest L0 e0 100
    have l2 := rd.num_le L1 e1
    have l3 := rd.num_le L2 e2
    have l4 := rd.num_le L3 e3
    have l5 := rd.num_le L4 e4
    have l6 := rd.piece_rest L5 e5 100
    have l7 := rd.piece_rest L6 e6 100
    have l8 := rd.num_le L7 e7
    have l9 := pq.list_rest 30 L8 e8
    rw [HC0.out.2.1] at l0
    rw [HC1.out.2.1] at l1
    rw [HC2.out.2.1] at l2
    rw [HC3.out.2.1] at l3
    rw [HC4.out.2.1] at l4
    rw [HC5.out.2.1] at l5
    rw [HC6.out.2.1] at l6
    rw [HC7.out.2.1] at l7
    rw [HC8.out.2.1] at l8
    rw [HL.out.2] at l9
    dsimp only at l0 l1 l2 l3 l4 l5 l6 l7 l8 l9
    have := HLL.out
    omega
  have HL9 := Lib.hid hL9; clear hL9
  by_cases h9 : e9 = 0
  case neg =>
    have hR2 : R.2 = e9 := by rw [HRX.out _ rfl, if_pos h9]
    have d1 : (e9 == 0) = false := by simp [h9]
    have d2 : (e9 != 0) = true := by simp [h9]
    have hz := C9.out.2.2.blk D9.out.z hb2r
    have HZ := Lib.hid (And.intro hz (And.intro hR2 (And.intro h9 hb2r))); clear hz hR2 h9 hb2r hb1r
    go_wp2_with (refine wpList_store_row rfl 25 (.tmp 4) (.tmp 43) rfl (b0 + 2) pq.zero rfl rfl 25 _ HZ.out.1 pq.infoReq rfl (by simp [Value.oneCell', pq.zero]) ?_)
    have hz9 := pq.blk_row HZ.out.1 pq.zero
    have hc9 := pq.chg_row u9 (b0 + 2) pq.zero
    generalize u9.setRow (b0 + 2) pq.zero = w9 at *
    refine bodyPost_ret (res_cell2 rfl _ _ (b0 + 2) pq.zero _ rfl hz9 Try.underlying25 rfl pq.infoReq) rfl ?_
    exact ⟨⟨pq.zero, by rw [HZ.out.2.1]; rfl, ⟨rfl, by simp [Value.oneCell', pq.zero]⟩, fun h => absurd (HZ.out.2.1.symm.trans h) HZ.out.2.2.1⟩, (D9.out.chg.trans C9.out.2.2 fun _ _ q => q).trans hc9 fun k hk q => by have q : k = b0 + 2 := q; have := D9.out.low; omega⟩
  subst h9
  obtain ⟨nn, hnn⟩ : ∃ n, n = ns.length := ⟨_, rfl⟩
  have hown := C9.out.1
  rw [← hnn] at hown
  obtain ⟨An, cn, rfl, hnc, -⟩ := own_at hown
  have hd10 := D9.out.call (C9.out.2.1 rfl) C9.out.2.2
  have D8x := Lib.hid D9.out.chg.size
  have D10 := Lib.hid (And.intro hd10 (And.intro hown hnn)); clear hd10 hown hnn D9 C9
  have m0 := D10.out.1.q.cell 11 (v := .slice none 0 0) rfl
  have m1 := D10.out.1.q.frozen 11
  have m2 := D10.out.1.q.lt
  have k0 := D10.out.1.p.cell 0 (v := .pointer (some ⟨r, 0, none⟩)) rfl
  have kl := D10.out.1.p.lt
  go_upto_region 14 with fail
  clear m0 m1 m2 k0 kl
  obtain ⟨v9, hv9⟩ : ∃ v, v = u9.setCell ⟨b0 + 1, 11, none⟩ (.slice An nn cn) := ⟨_, rfl⟩
  rw [← hv9]
  have hd11 : pq.Dst w v9 r b0 (b0 + 1) (b0 + 2) #[.int .i64 kind, .int .i64 corr, .string x0, .string x1, .int .i64 x2, .int .i64 x3, .int .i64 x4, .int .i64 x5, .string x6, .string x7, .int .i64 x8, .slice An nn cn, .slice none 0 0] L9 0 := by rw [hv9]; exact D10.out.1.store 11 _
  have hne : ∀ {T e : TypeId} {cs : Array Value} {v : World} {b : Nat} {n c base : Nat} {A : Option Addr} {xs : List Value}, Blk v b T cs → T ≠ e → v.ownsRow base e 1 (.slice A n c) n xs → ∀ k, (Value.slice A n c).ownBlock = some k → k ≠ b := fun hb hT ho k hk e => by subst e; exact hb.not_row hT ho hk
  have hown : v9.ownsRow w.heap.size 9 1 (.slice An nn cn) nn (ns.map fun s => .string s) := by
    rw [hv9]
    exact (Chg.setCell u9 (b0 + 1) 11 _).own (ownsRow_base D10.out.2.1 D8x.out) fun k hk e => hne D10.out.1.q (by decide) D10.out.2.1 k hk e
  have D11 := Lib.hid (And.intro hd11 hown); clear hd11 hown hv9
  have hby := rdq.bytes _ r L9 0 65536 v9 D11.out.1.rd HL9.out
  obtain ⟨⟨Xd, Ld, ed⟩, hqd⟩ : ∃ q, rd.piece L9 0 65536 = q := ⟨_, rfl⟩
  have hpm : ∀ x ∈ Xd, x < 256 := fun x hx => by
    obtain ⟨A, c, h, -⟩ := D11.out.1.rd
    exact h.byte x (by have := rd.piece_mem (L := L9) (e := 0) (most := 65536) x; rw [hqd] at this; exact this hx)
  have hR2 := HRX.out _ rfl
  rw [hqd] at hby hR2
  dsimp only at hby hR2
  rw [if_neg (by simp)] at hR2
  unfold BytesQ at hby
  obtain ⟨E, hE⟩ : ∃ E : Int, E = if 0 < Ld.length then 2 else ed := ⟨_, rfl⟩
  rw [← hE] at hR2
  have HEE := Lib.hid hE; clear hE
  have HBY := Lib.hid (And.intro hby (And.intro hpm hR2)); clear hby hpm hR2 hqd
  have k0 := D11.out.1.p.cell 0 (v := .pointer (some ⟨r, 0, none⟩)) rfl
  have kl := D11.out.1.p.lt
  go_upto_region 15 with (go_at_call 67; refine HBY.out.1.mono ?_; rintro en u10 ⟨⟨vd, rfl, h1⟩, h2, h3⟩; obtain ⟨Ad, cd, rfl, -, -⟩ := own_at h1; have C10 := Lib.hid (And.intro h1 (And.intro (D11.out.1.call h2 h3) h3)); clear h1 h2 h3; have m0 := C10.out.2.1.q.cell 12 (v := .slice none 0 0) rfl; have m1 := C10.out.2.1.q.frozen 12; have m2 := C10.out.2.1.q.lt)
  clear k0 kl m0 m1 m2
  obtain ⟨v10, hv10⟩ : ∃ v, v = u10.setCell ⟨b0 + 1, 12, none⟩ (.slice Ad Xd.length cd) := ⟨_, rfl⟩
  rw [← hv10]
  have hd12 : pq.Dst w v10 r b0 (b0 + 1) (b0 + 2) #[.int .i64 kind, .int .i64 corr, .string x0, .string x1, .int .i64 x2, .int .i64 x3, .int .i64 x4, .int .i64 x5, .string x6, .string x7, .int .i64 x8, .slice An nn cn, .slice Ad Xd.length cd] Ld ed := by rw [hv10]; exact C10.out.2.1.store 12 _
  have hown1 : v10.ownsRow w.heap.size 9 1 (.slice An nn cn) nn (ns.map fun s => .string s) := by
    have h1 : u10.ownsRow w.heap.size 9 1 (.slice An nn cn) nn (ns.map fun s => .string s) := C10.out.2.2.own D11.out.2 fun k hk e => by
      obtain ⟨cs, hb⟩ := D11.out.1.rd.blk
      exact hne hb (by decide) D11.out.2 k hk e
    rw [hv10]
    exact (Chg.setCell u10 (b0 + 1) 12 _).own h1 fun k hk e => hne C10.out.2.1.q (by decide) h1 k hk e
  have hown2 : v10.ownsRow w.heap.size 5 1 (.slice Ad Xd.length cd) Xd.length (u8s Xd) := by
    have h1 := ownsRow_base C10.out.1 D11.out.1.chg.size
    rw [hv10]
    exact (Chg.setCell u10 (b0 + 1) 12 _).own h1 fun k hk e => hne C10.out.2.1.q (by decide) h1 k hk e
  have hdr : Chg v10 v10.drew (fun _ => False) := (Chg.refl _ _).drew
  have D12 := Lib.hid (And.intro hd12 (And.intro hown1 (And.intro hown2 hdr))); clear hd12 hown1 hown2 hdr hv10 C10
  have z0 : ∀ x : Later v10 (fun k => k = b0 + 2), x.1.cell? ⟨b0 + 1, 0, none⟩ = some (.int .i64 kind) := fun x => (x.2.blk D12.out.1.q (by omega)).cell 0 rfl
  have z1 : ∀ x : Later v10 (fun k => k = b0 + 2), x.1.cell? ⟨b0 + 1, 1, none⟩ = some (.int .i64 corr) := fun x => (x.2.blk D12.out.1.q (by omega)).cell 1 rfl
  have z2 : ∀ x : Later v10 (fun k => k = b0 + 2), x.1.cell? ⟨b0 + 1, 2, none⟩ = some (.string x0) := fun x => (x.2.blk D12.out.1.q (by omega)).cell 2 rfl
  have z3 : ∀ x : Later v10 (fun k => k = b0 + 2), x.1.cell? ⟨b0 + 1, 3, none⟩ = some (.string x1) := fun x => (x.2.blk D12.out.1.q (by omega)).cell 3 rfl
  have z4 : ∀ x : Later v10 (fun k => k = b0 + 2), x.1.cell? ⟨b0 + 1, 4, none⟩ = some (.int .i64 x2) := fun x => (x.2.blk D12.out.1.q (by omega)).cell 4 rfl
  have z5 : ∀ x : Later v10 (fun k => k = b0 + 2), x.1.cell? ⟨b0 + 1, 5, none⟩ = some (.int .i64 x3) := fun x => (x.2.blk D12.out.1.q (by omega)).cell 5 rfl
  have z6 : ∀ x : Later v10 (fun k => k = b0 + 2), x.1.cell? ⟨b0 + 1, 6, none⟩ = some (.int .i64 x4) := fun x => (x.2.blk D12.out.1.q (by omega)).cell 6 rfl
  have z7 : ∀ x : Later v10 (fun k => k = b0 + 2), x.1.cell? ⟨b0 + 1, 7, none⟩ = some (.int .i64 x5) := fun x => (x.2.blk D12.out.1.q (by omega)).cell 7 rfl
  have z8 : ∀ x : Later v10 (fun k => k = b0 + 2), x.1.cell? ⟨b0 + 1, 8, none⟩ = some (.string x6) := fun x => (x.2.blk D12.out.1.q (by omega)).cell 8 rfl
  have z9 : ∀ x : Later v10 (fun k => k = b0 + 2), x.1.cell? ⟨b0 + 1, 9, none⟩ = some (.string x7) := fun x => (x.2.blk D12.out.1.q (by omega)).cell 9 rfl
  have z10 : ∀ x : Later v10 (fun k => k = b0 + 2), x.1.cell? ⟨b0 + 1, 10, none⟩ = some (.int .i64 x8) := fun x => (x.2.blk D12.out.1.q (by omega)).cell 10 rfl
  have z11 : ∀ x : Later v10 (fun k => k = b0 + 2), x.1.cell? ⟨b0 + 1, 11, none⟩ = some (.slice An nn cn) := fun x => (x.2.blk D12.out.1.q (by omega)).cell 11 rfl
  have z12 : ∀ x : Later v10 (fun k => k = b0 + 2), x.1.cell? ⟨b0 + 1, 12, none⟩ = some (.slice Ad Xd.length cd) := fun x => (x.2.blk D12.out.1.q (by omega)).cell 12 rfl
  have kd0 : v10.drew.cell? ⟨b0, 0, none⟩ = some (.pointer (some ⟨r, 0, none⟩)) := (D12.out.2.2.2.blk D12.out.1.p fun q => q).cell 0 rfl
  have kdl : b0 < v10.drew.heap.size := (D12.out.2.2.2.blk D12.out.1.p fun q => q).lt
  have zl : ∀ x : Later v10 (fun k => k = b0 + 2), b0 + 1 < x.1.heap.size := fun x => (x.2.blk D12.out.1.q (by omega)).lt
  have hrd : RdQ (fun k => k < w.heap.size) v10.drew r Ld ed := D12.out.1.rd.chg D12.out.2.2.2 (fun q => q) fun _ _ q => q
  have hz12 := D12.out.2.2.2.blk D12.out.1.z fun q => q
  have hend := pq.ended_any hrd
  rw [← HEE.out] at hend
  have HE := Lib.hid (And.intro hend hz12); clear hrd hz12 hend
  have hS0 : later v10 (fun k => k = b0 + 2) v10.drew := later_of ((Chg.refl _ _).drew)
  refine wp_plan (S := fun w0 => ∃ x : Later v10 (fun k => k = b0 + 2), w0 = x.1) (by kernel_rfl) hS0 ?_
  intro hS' K5 hK5
  have HS := Lib.hid hS'; clear hS' hS0
  refine plan_group [true] [0] 4 (by dsimp only [sel]) (by rfl) rfl (by kernel_rfl) (by kernel_rfl) HS.out ?_
  (repeat go_big_quiet_step (fail)); refine wpQuiet_nil ?_
  clear z0 z1 z2 z3 z4 z5 z6 z7 z8 z9 z10 z11 z12
  refine plan_one [false, true] 1 3 (by dsimp only [sel]) (by rfl) rfl (by kernel_rfl) ?_; intro K1 hK1; go_wp2_with fail
  refine ⟨by first | exact HS.out | exact fun _ => HS.out, ?_⟩
  refine plan_one [false, false, true] 2 2 (by dsimp only [sel]) (by rfl) rfl (by kernel_rfl) ?_; intro K2 hK2
  go_wp2_with (go_at_call 68; refine HE.out.1.mono ?_; rintro en wq ⟨rfl, h3⟩; subst h3)
  refine ⟨by first | exact HS.out | exact fun _ => HS.out, ?_⟩
  refine plan_one [false, false, false, true] 3 1 (by dsimp only [sel]) (by rfl) rfl (by kernel_rfl) ?_; intro K3 hK3
  go_wp2_with (show Go.wpList _ _ _ (⟨_, .store _ (.tmp 4) (.tmp 50), _, _, _, _⟩ :: _) _ _; go_loud (refine wpList_store_row rfl 25 (.tmp 4) (.tmp 50) rfl (b0 + 2) #[.int .i64 kind, .int .i64 corr, .string x0, .string x1, .int .i64 x2, .int .i64 x3, .int .i64 x4, .int .i64 x5, .string x6, .string x7, .int .i64 x8, .slice An nn cn, .slice Ad Xd.length cd] rfl rfl 25 pq.zero HE.out.2 pq.infoReq rfl (by simp [Value.oneCell']) ?_))
  obtain ⟨wz, hwz⟩ : ∃ wz, wz = v10.drew.setRow (b0 + 2) #[.int .i64 kind, .int .i64 corr, .string x0, .string x1, .int .i64 x2, .int .i64 x3, .int .i64 x4, .int .i64 x5, .string x6, .string x7, .int .i64 x8, .slice An nn cn, .slice Ad Xd.length cd] := ⟨_, rfl⟩
  rw [← hwz]
  have hcz : Chg v10 wz (fun k => k = b0 + 2) := by rw [hwz]; exact (D12.out.2.2.2.mono fun _ _ q => q.elim).trans (pq.chg_row _ _ _) fun _ _ q => q
  have hbz : Blk wz (b0 + 2) 25 #[.int .i64 kind, .int .i64 corr, .string x0, .string x1, .int .i64 x2, .int .i64 x3, .int .i64 x4, .int .i64 x5, .string x6, .string x7, .int .i64 x8, .slice An nn cn, .slice Ad Xd.length cd] := by rw [hwz]; exact pq.blk_row HE.out.2 _
  have HZ := Lib.hid (And.intro hcz hbz); clear hcz hbz hwz
  have hSz := later_of HZ.out.1
  refine ⟨by first | exact hSz | exact fun _ => hSz, ?_⟩
  go_simp
  refine plan_group [false, false, false, false, true] [4] 0 (by dsimp only [sel]) (by rfl) rfl (by kernel_rfl) (by kernel_rfl) hSz ?_
  (repeat go_big_quiet_step (fail)); refine wpQuiet_nil ?_
  refine wp_plan_end (by kernel_rfl) ?_
  refine hK5 _ _ ?_
  clear HS hSz
  go_wp2_with fail
  refine bodyPost_ret (res_cell2 rfl _ _ (b0 + 2) #[.int .i64 kind, .int .i64 corr, .string x0, .string x1, .int .i64 x2, .int .i64 x3, .int .i64 x4, .int .i64 x5, .string x6, .string x7, .int .i64 x8, .slice An nn cn, .slice Ad Xd.length cd] _ rfl HZ.out.2 Try.underlying25 rfl pq.infoReq) rfl ?_
  have hn1 := HZ.out.1.own D12.out.2.1 fun k hk e => hne D12.out.1.z (by decide) D12.out.2.1 k hk e
  have hn2 := HZ.out.1.own D12.out.2.2.1 fun k hk e => hne D12.out.1.z (by decide) D12.out.2.2.1 k hk e
  have hcw : Chg w wz (rdT r) := D12.out.1.chg.trans HZ.out.1 fun k hk q => by have q : k = b0 + 2 := q; have := D12.out.1.low; omega
  have hRR := HBY.out.2.2
  refine ⟨⟨_, by rw [hRR]; rfl, ⟨rfl, by simp [Value.oneCell']⟩, fun _ => ⟨An, cn, Ad, cd, ?_, ?_, fun b off h => (hn1.lt b (by rw [h]; rfl)).1, fun b off h => (hn2.lt b (by rw [h]; rfl)).1⟩⟩, hcw⟩
  · rw [hRR]
    unfold PReq.cells
    dsimp only
    rw [← D10.out.2.2]
  · rw [hRR]
    refine ⟨⟨⟨HKC.out.1, HKC.out.2.1, HC2.out.2.2, HC3.out.2.2, HC4.out.2.2, HC5.out.2.2, HC8.out.2.2⟩, ?_, ?_, ?_, ?_⟩, ?_, ?_⟩
    · have := HC0.out.2.2.2; unfold maxLen; dsimp only; omega
    · have := HC1.out.2.2.2; unfold maxLen; dsimp only; omega
    · have := HC6.out.2.2.2; unfold maxLen; dsimp only; omega
    · have := HC7.out.2.2.2; unfold maxLen; dsimp only; omega
    · refine pq.strsV hn1 D10.out.2.2.symm fun s hs => ?_
      have h1 := pq.list_size (most := 30) (L := L8) (e := e8) s (by rw [HL.out.2]; exact hs)
      unfold maxLen
      omega
    · obtain ⟨A9, c9, e9, h1, -, h2⟩ := own_bytes hn2
      obtain ⟨rfl, rfl⟩ : Ad = A9 ∧ cd = c9 := by injection e9 with e1 e2 e3; exact ⟨e1, e3⟩
      exact ⟨Ad, cd, rfl, h2, h1, own_cap hn2, HBY.out.2.1⟩
end
section
open Go.RowKit Go.Maps
set_option maxRecDepth 20000

def pq.noReq : PReq := ⟨0, 0, ByteArray.mk #[], ByteArray.mk #[], 0, 0, 0, 0, ByteArray.mk #[], ByteArray.mk #[], 0, [], []⟩
/-- What bytes are as a request: the request, its number, an error. -/
def pq.dec (L : List Nat) : PReq × Int × Int :=
  let k := rd.fixed L 0 2
  let c := rd.fixed k.2.1 k.2.2 4
  let C := if 2147483647 < c.1 then 0 else c.1
  if 131072 < L.length then (pq.noReq, C, 3) else if L.length < 6 then (pq.noReq, 0, 2) else if k.1 < 1 ∨ 14 < k.1 then (pq.noReq, C, 16) else if 2147483647 < c.1 then (pq.noReq, 0, 2) else
  let r := pq.rest k.1 c.1 c.2.1 c.2.2
  if r.2 ≠ 0 then (pq.noReq, C, r.2) else (r.1, C, 0)
theorem RdQ.mono {Q P : Nat → Prop} {w : World} {r : Nat} {L : List Nat} {e : Int} (h : RdQ Q w r L e) (hq : ∀ k, Q k → P k) : RdQ P w r L e := by
  obtain ⟨A, c, h1, h2⟩ := h
  exact ⟨A, c, h1, fun a ha => hq _ (h2 a ha)⟩
theorem RdQ.len {Q : Nat → Prop} {w : World} {r : Nat} {L : List Nat} {e : Int} (h : RdQ Q w r L e) : L.length ≤ maxLen := by
  obtain ⟨A, c, h1, -⟩ := h
  exact Nat.le_trans h1.len h1.cap
theorem rd.fixed_bd {Q : Nat → Prop} {w : World} {r : Nat} {L : List Nat} {e : Int} (h : RdQ Q w r L e) (size : Nat) (hs : size ≤ 4) : 0 ≤ (rd.fixed L e size).1 ∧ (rd.fixed L e size).1 ≤ 4294967295 := by
  obtain ⟨A, c, h1, -⟩ := h
  unfold rd.fixed
  split
  · simp
  · split
    · simp
    · dsimp only
      have h2 := wire.val_lt (L.take size) fun x hx => h1.byte x (List.mem_of_mem_take hx)
      have h3 : (L.take size).length ≤ 4 := by rw [List.length_take]; omega
      have h4 : 256 ^ (L.take size).length ≤ 256 ^ 4 := Nat.pow_le_pow_right (by omega) h3
      rw [show ((size : Int)).toNat = size from rfl]
      omega
theorem rd.fixed_le (L : List Nat) (e size : Int) : (rd.fixed L e size).2.1.length ≤ L.length := by
  unfold rd.fixed
  split
  · exact Nat.le_refl _
  · split
    · exact Nat.zero_le _
    · rw [List.length_drop]
      omega
theorem pq.zero_one : pq.zero.size = 13 ∧ pq.zero.all (fun v => v.oneCell') = true := ⟨rfl, by simp [Value.oneCell', pq.zero]⟩
/-- What Decode answers. -/
def pq.DecPost (L : List Nat) (w : World) (en : Ending) (w' : World) : Prop :=
  (∃ cs : Array Value, en = .returned (.tuple #[.agg cs, .int .i64 (pq.dec L).2.1, .int .i64 (pq.dec L).2.2]) ∧ (cs.size = 13 ∧ cs.all (fun v => v.oneCell') = true) ∧ ((pq.dec L).2.2 ≠ 0 → cs = pq.zero) ∧
    ((pq.dec L).2.2 = 0 → ∃ An cn Ad cd, cs = (pq.dec L).1.cells An cn Ad cd ∧ ReqV w' An cn Ad cd (pq.dec L).1 ∧ (∀ b off, An = some ⟨b, off, none⟩ → w.heap.size ≤ b) ∧ ∀ b off, Ad = some ⟨b, off, none⟩ → w.heap.size ≤ b)) ∧ Below w.heap.size w w'
set_option maxHeartbeats 8000000 in
theorem pq.decode_any (A : Option Addr) (c : Nat) (L : List Nat) (w : World) (hat : At w A L.length (byteAt L)) (h1 : L.length ≤ c) (h2 : c ≤ maxLen) (hb : ∀ x ∈ L, x < 256) (hL : L.length ≤ 140737488351232) :
    Calls Try.prog 12 #[.slice A L.length c] w (pq.DecPost L w) := by
  unfold pq.DecPost
  obtain ⟨R, hR⟩ : ∃ R, R = pq.dec L := ⟨_, rfl⟩
  rw [← hR]
  obtain ⟨b0, hb0⟩ : ∃ b, b = w.heap.size := ⟨_, rfl⟩
  obtain ⟨w0, hw0⟩ : ∃ w0, w0 = w.alloc (.cells pq.zero 25) := ⟨_, rfl⟩
  have hk0 : Blk w0 b0 25 pq.zero := by rw [hw0, hb0]; exact Blk.new _ _ _
  have hb00 : Below w.heap.size w w0 := by rw [hw0]; exact (Below.refl _ _).alloc (Nat.le_refl _) _
  have hbor := wire.borrow_at A c L w0 (hat.below hb00 (Nat.le_refl _)) h1 h2 hb
  have hQ : ∀ a, A = some a → (0 < L.length → a.block < w.heap.size) := fun a ha h0 => by
    obtain ⟨b, off, e, hl, -⟩ := hat h0
    rw [ha] at e
    obtain rfl := Option.some.inj e
    exact hl
  obtain ⟨n, hn⟩ : ∃ n, n = L.length := ⟨_, rfl⟩
  have hbor2 : Calls Try.prog 39 #[.slice A n c] w0 fun en w' => ∃ r, en = .returned (.pointer (some ⟨r, 0, none⟩)) ∧ RdQ (fun k => 0 < L.length → k < w.heap.size) w' r L 0 ∧ w0.heap.size ≤ r ∧ Below w0.heap.size w0 w' := by
    rw [hn]
    refine hbor.mono ?_
    rintro en w' ⟨r, e, q1, q2, q3⟩
    exact ⟨r, e, ⟨A, c, q1, hQ⟩, q2, q3⟩
  rw [← hn]
  have H0 := Lib.hid (And.intro hbor2 (And.intro hk0 (And.intro hb00 (And.intro hn (And.intro hR hL))))); clear hbor hbor2 hk0 hb00 hR hL hat hb hQ
  have hnl : n ≤ 9223372036854775807 := by unfold maxLen at h2; omega
  clear h1 h2 hn
  go_enter Try.func12, Try.ntmps12
  go_upto_region 1 with fail
  unfold pq.zero at hw0
  rw [← hw0, ← hb0]
  have hb0' := hb0
  clear hw0 hb0
  have HB0 := Lib.hid hb0'; clear hb0'
  go_upto_region 2 with (go_at_call 39; refine H0.out.1.mono ?_; rintro en w1 ⟨r, rfl, q1, q2, q3⟩; have H1 := Lib.hid (And.intro q1 (And.intro q2 q3)); clear q1 q2 q3)
  have hf1 := rdq.fixed _ r L 0 2 w1 H1.out.1
  have hbd1 := rd.fixed_bd H1.out.1 2 (by omega)
  have hle1 := rd.fixed_le L 0 2
  obtain ⟨⟨kd, L1, e1⟩, hq1⟩ : ∃ q, rd.fixed L 0 2 = q := ⟨_, rfl⟩
  rw [show ((2 : Nat) : Int) = 2 from rfl] at hbd1
  rw [hq1] at hf1 hbd1 hle1
  dsimp only at hf1 hbd1 hle1
  unfold RqPost at hf1
  have HF1 := Lib.hid (And.intro hf1 (And.intro hq1 hle1)); clear hf1 hq1 hle1
  go_upto_region 3 with (go_at_call 40; refine HF1.out.1.mono ?_; rintro en w2 ⟨rfl, q1, q2⟩; have H2 := Lib.hid (And.intro q1 q2); clear q1 q2)
  have hf2 := rdq.fixed _ r L1 e1 4 w2 H2.out.1
  have hbd2 := rd.fixed_bd H2.out.1 4 (by omega)
  have hle2 := rd.fixed_le L1 e1 4
  obtain ⟨⟨co, L2, e2⟩, hq2⟩ : ∃ q, rd.fixed L1 e1 4 = q := ⟨_, rfl⟩
  rw [show ((4 : Nat) : Int) = 4 from rfl] at hbd2
  rw [hq2] at hf2 hbd2 hle2
  dsimp only at hf2 hbd2 hle2
  unfold RqPost at hf2
  have HF2 := Lib.hid (And.intro hf2 (And.intro hq2 hle2)); clear hf2 hq2 hle2
  go_upto_if 19 with (go_at_call 40; refine HF2.out.1.mono ?_; rintro en w3 ⟨rfl, q1, q2⟩; have H3 := Lib.hid (And.intro q1 q2); clear q1 q2)
  obtain ⟨C, hC⟩ : ∃ C : Int, C = if 2147483647 < co then 0 else co := ⟨_, rfl⟩
  have HC := Lib.hid hC; clear hC
  have hrb : ¬ rdT r b0 := fun e => by
    have e : b0 = r := e
    have h1 := H1.out.2.1
    have h2 := H0.out.2.1.lt
    omega
  have hc13 : Chg w1 w3 (rdT r) := H2.out.2.trans H3.out.2 fun _ _ q => q
  have hk3 := hc13.blk ((chg_of (P := fun _ => False) H1.out.2.2).blk H0.out.2.1 fun q => q) hrb
  have hb3 : Below w.heap.size w w3 := by
    have h0 := H0.out.2.2.1.size
    have h1 := H1.out.2.2.size
    exact (H0.out.2.2.1.trans (H1.out.2.2.mono h0)).trans (hc13.below (by omega) fun k hk => by have hk : k = r := hk; have := H1.out.2.1; omega)
  have hRR : R = if 131072 < n then (pq.noReq, C, 3) else if n < 6 then (pq.noReq, 0, 2) else if kd < 1 ∨ 14 < kd then (pq.noReq, C, 16) else if 2147483647 < co then (pq.noReq, 0, 2) else if (pq.rest kd co L2 e2).2 ≠ 0 then (pq.noReq, C, (pq.rest kd co L2 e2).2) else ((pq.rest kd co L2 e2).1, C, 0) := by
    rw [H0.out.2.2.2.2.1, HC.out, H0.out.2.2.2.1]
    unfold pq.dec
    simp only [HF1.out.2.1, HF2.out.2.1]
  have HK := Lib.hid (And.intro hk3 (And.intro hb3 (And.intro hRR hrb))); clear hk3 hb3 hRR hrb hc13
  go_cut [7, 8] from 11 (fun s7 s8 wx => s7 = .int .i64 C ∧ s8 = .bool (decide (2147483647 < co)) ∧ w3 = wx)
  case first =>
    by_cases hfar : 2147483647 < co
    · have d0 : decide (2147483647 < co) = true := decide_eq_true hfar
      have hC : C = 0 := by rw [HC.out, if_pos hfar]
      have HCC := Lib.hid hC; clear hC
      go_wp2_with fail
      go_meet
      case rel => exact ⟨by rw [HCC.out], by first | rfl | rw [d0], rfl⟩
    · have d0 : decide (2147483647 < co) = false := decide_eq_false hfar
      have hC : C = co := by rw [HC.out, if_neg hfar]
      have HCC := Lib.hid hC; clear hC
      go_wp2_with fail
      go_meet
      case rel => exact ⟨by rw [HCC.out], by first | rfl | rw [d0], rfl⟩
  case rest =>
    obtain ⟨rfl, rfl, rfl⟩ := hcut
    have hzero : ∀ (wz : World) (x y : Int), R = (pq.noReq, x, y) → y ≠ 0 → Blk w3 b0 25 pq.zero ∧ (Below w.heap.size w (w3.setRow b0 pq.zero) ∧ (R.2.1 = x ∧ R.2.2 = y)) := fun _ x y h _ =>
      ⟨HK.out.1, HK.out.2.1.trans ((pq.chg_row w3 b0 pq.zero).below HK.out.2.1.size fun k hk => by have hk : k = b0 := hk; have := HB0.out; omega), by rw [h], by rw [h]⟩
    clear hzero
    by_cases hbig : 131072 < n
    · have d0 : decide (131072 < n) = true := decide_eq_true hbig
      have d0' : decide (131072 < (n : Int)) = true := decide_eq_true (by omega)
      have hR2 : R = (pq.noReq, C, 3) := by rw [HK.out.2.2.1, if_pos hbig]
      have HR2 := Lib.hid hR2; clear hR2
      go_wp2_with (show Go.wpList _ _ _ (⟨_, .store _ (.tmp 2) (.tmp 24), _, _, _, _⟩ :: _) _ _; go_loud (refine wpList_store_row rfl 25 (.tmp 2) (.tmp 24) rfl b0 pq.zero rfl rfl 25 _ HK.out.1 pq.infoReq rfl pq.zero_one.2 ?_))
      have hz9 := pq.blk_row HK.out.1 pq.zero
      have hb9 : Below w.heap.size w (w3.setRow b0 pq.zero) := HK.out.2.1.trans ((pq.chg_row w3 b0 pq.zero).below HK.out.2.1.size fun k hk => by have hk : k = b0 := hk; have := HB0.out; omega)
      generalize w3.setRow b0 pq.zero = w9 at *
      refine bodyPost_ret (res_cell3 rfl _ _ b0 pq.zero _ rfl hz9 Try.underlying25 rfl pq.infoReq) rfl ?_
      exact ⟨⟨pq.zero, by rw [HR2.out]; rfl, (by first | exact pq.zero_one | simpa using pq.zero_one), fun _ => rfl, fun h => by rw [HR2.out] at h; exact absurd h (by show ¬ ((3 : Int) = 0); decide)⟩, hb9⟩
    have d0 : decide (131072 < n) = false := decide_eq_false hbig
    have d0' : decide (131072 < (n : Int)) = false := decide_eq_false (by omega)
    by_cases hsm : n < 6
    · have d1 : decide (n < 6) = true := decide_eq_true hsm
      have d1' : decide ((n : Int) < 6) = true := decide_eq_true (by omega)
      have hR2 : R = (pq.noReq, 0, 2) := by rw [HK.out.2.2.1, if_neg hbig, if_pos hsm]
      have HR2 := Lib.hid hR2; clear hR2
      go_wp2_with (show Go.wpList _ _ _ (⟨_, .store _ (.tmp 2) (.tmp 30), _, _, _, _⟩ :: _) _ _; go_loud (refine wpList_store_row rfl 25 (.tmp 2) (.tmp 30) rfl b0 pq.zero rfl rfl 25 _ HK.out.1 pq.infoReq rfl pq.zero_one.2 ?_))
      have hz9 := pq.blk_row HK.out.1 pq.zero
      have hb9 : Below w.heap.size w (w3.setRow b0 pq.zero) := HK.out.2.1.trans ((pq.chg_row w3 b0 pq.zero).below HK.out.2.1.size fun k hk => by have hk : k = b0 := hk; have := HB0.out; omega)
      generalize w3.setRow b0 pq.zero = w9 at *
      refine bodyPost_ret (res_cell3 rfl _ _ b0 pq.zero _ rfl hz9 Try.underlying25 rfl pq.infoReq) rfl ?_
      exact ⟨⟨pq.zero, by rw [HR2.out]; rfl, (by first | exact pq.zero_one | simpa using pq.zero_one), fun _ => rfl, fun h => by rw [HR2.out] at h; exact absurd h (by show ¬ ((2 : Int) = 0); decide)⟩, hb9⟩
    have d1 : decide (n < 6) = false := decide_eq_false hsm
    have d1' : decide ((n : Int) < 6) = false := decide_eq_false (by omega)
    by_cases hkd : kd < 1
    · have d2 : decide (kd < 1) = true := decide_eq_true hkd
      have hR2 : R = (pq.noReq, C, 16) := by rw [HK.out.2.2.1, if_neg hbig, if_neg hsm, if_pos (.inl hkd)]
      have HR2 := Lib.hid hR2; clear hR2
      go_wp2_with (show Go.wpList _ _ _ (⟨_, .store _ (.tmp 2) (.tmp 38), _, _, _, _⟩ :: _) _ _; go_loud (refine wpList_store_row rfl 25 (.tmp 2) (.tmp 38) rfl b0 pq.zero rfl rfl 25 _ HK.out.1 pq.infoReq rfl pq.zero_one.2 ?_))
      have hz9 := pq.blk_row HK.out.1 pq.zero
      have hb9 : Below w.heap.size w (w3.setRow b0 pq.zero) := HK.out.2.1.trans ((pq.chg_row w3 b0 pq.zero).below HK.out.2.1.size fun k hk => by have hk : k = b0 := hk; have := HB0.out; omega)
      generalize w3.setRow b0 pq.zero = w9 at *
      refine bodyPost_ret (res_cell3 rfl _ _ b0 pq.zero _ rfl hz9 Try.underlying25 rfl pq.infoReq) rfl ?_
      exact ⟨⟨pq.zero, by rw [HR2.out]; rfl, (by first | exact pq.zero_one | simpa using pq.zero_one), fun _ => rfl, fun h => by rw [HR2.out] at h; exact absurd h (by show ¬ ((16 : Int) = 0); decide)⟩, hb9⟩
    have d2 : decide (kd < 1) = false := decide_eq_false hkd
    by_cases hkd2 : 14 < kd
    · have d3 : decide (14 < kd) = true := decide_eq_true hkd2
      have hR2 : R = (pq.noReq, C, 16) := by rw [HK.out.2.2.1, if_neg hbig, if_neg hsm, if_pos (.inr hkd2)]
      have HR2 := Lib.hid hR2; clear hR2
      go_wp2_with (show Go.wpList _ _ _ (⟨_, .store _ (.tmp 2) (.tmp 38), _, _, _, _⟩ :: _) _ _; go_loud (refine wpList_store_row rfl 25 (.tmp 2) (.tmp 38) rfl b0 pq.zero rfl rfl 25 _ HK.out.1 pq.infoReq rfl pq.zero_one.2 ?_))
      have hz9 := pq.blk_row HK.out.1 pq.zero
      have hb9 : Below w.heap.size w (w3.setRow b0 pq.zero) := HK.out.2.1.trans ((pq.chg_row w3 b0 pq.zero).below HK.out.2.1.size fun k hk => by have hk : k = b0 := hk; have := HB0.out; omega)
      generalize w3.setRow b0 pq.zero = w9 at *
      refine bodyPost_ret (res_cell3 rfl _ _ b0 pq.zero _ rfl hz9 Try.underlying25 rfl pq.infoReq) rfl ?_
      exact ⟨⟨pq.zero, by rw [HR2.out]; rfl, (by first | exact pq.zero_one | simpa using pq.zero_one), fun _ => rfl, fun h => by rw [HR2.out] at h; exact absurd h (by show ¬ ((16 : Int) = 0); decide)⟩, hb9⟩
    have d3 : decide (14 < kd) = false := decide_eq_false hkd2
    by_cases hfar : 2147483647 < co
    · have d4 : decide (2147483647 < co) = true := decide_eq_true hfar
      have hR2 : R = (pq.noReq, 0, 2) := by rw [HK.out.2.2.1, if_neg hbig, if_neg hsm, if_neg (by omega), if_pos hfar]
      have HR2 := Lib.hid hR2; clear hR2
      go_wp2_with (show Go.wpList _ _ _ (⟨_, .store _ (.tmp 2) (.tmp 42), _, _, _, _⟩ :: _) _ _; go_loud (refine wpList_store_row rfl 25 (.tmp 2) (.tmp 42) rfl b0 pq.zero rfl rfl 25 _ HK.out.1 pq.infoReq rfl pq.zero_one.2 ?_))
      have hz9 := pq.blk_row HK.out.1 pq.zero
      have hb9 : Below w.heap.size w (w3.setRow b0 pq.zero) := HK.out.2.1.trans ((pq.chg_row w3 b0 pq.zero).below HK.out.2.1.size fun k hk => by have hk : k = b0 := hk; have := HB0.out; omega)
      generalize w3.setRow b0 pq.zero = w9 at *
      refine bodyPost_ret (res_cell3 rfl _ _ b0 pq.zero _ rfl hz9 Try.underlying25 rfl pq.infoReq) rfl ?_
      exact ⟨⟨pq.zero, by rw [HR2.out]; rfl, (by first | exact pq.zero_one | simpa using pq.zero_one), fun _ => rfl, fun h => by rw [HR2.out] at h; exact absurd h (by show ¬ ((2 : Int) = 0); decide)⟩, hb9⟩
    have d4 : decide (2147483647 < co) = false := decide_eq_false hfar
    have hRR : R = if (pq.rest kd co L2 e2).2 ≠ 0 then (pq.noReq, C, (pq.rest kd co L2 e2).2) else ((pq.rest kd co L2 e2).1, C, 0) := by rw [HK.out.2.2.1, if_neg hbig, if_neg hsm, if_neg (by omega), if_neg hfar]
    have hCo : C = co := by rw [HC.out, if_neg hfar]
    have hq3 : RdQ (fun k => k < w3.heap.size) w3 r L2 e2 := H3.out.1.mono fun k hk => Nat.lt_of_lt_of_le (hk (by have := H0.out.2.2.2.1; omega)) HK.out.2.1.size
    have hrest := pq.rest_any kd co r L2 e2 w3 hq3 (by unfold pq.int; omega) (by unfold pq.int; omega) (by have h1 := HF1.out.2.2; have h2 := HF2.out.2.2; have h3 := H0.out.2.2.2.2.2; omega)
    obtain ⟨RR, hRRe⟩ : ∃ q, q = pq.rest kd co L2 e2 := ⟨_, rfl⟩
    rw [← hRRe] at hrest hRR
    rw [← hCo] at hrest
    have HREST := Lib.hid (And.intro hrest (And.intro hRR hCo)); clear hrest hRR hRRe hq3 hCo
    by_cases hr0 : RR.2 = 0
    · have d5 : (RR.2 == 0) = true := by simp [hr0]
      have d6 : (RR.2 != 0) = false := by simp [hr0]
      have hR2 : R = (RR.1, C, 0) := by rw [HREST.out.2.1, if_neg (fun h => h hr0)]
      have hrest := HREST.out.1
      rw [hr0] at hrest
      have HR2 := Lib.hid (And.intro hR2 (And.intro hrest hr0)); clear hR2 hrest hr0
      go_upto_region 16 with (first
        | (show Go.wpList _ _ _ (⟨_, .store _ (.tmp 9) (.tmp 49), _, _, _, _⟩ :: _) _ _; go_loud (refine wpList_store_row rfl 25 (.tmp 9) (.tmp 49) rfl w5.heap.size #[.int .i64 RR.1.kind, .int .i64 RR.1.corr, .string RR.1.client, .string RR.1.topic, .int .i64 RR.1.part, .int .i64 RR.1.off, .int .i64 RR.1.time, .int .i64 RR.1.most, .string RR.1.group, .string RR.1.member, .int .i64 RR.1.gen, .slice An RR.1.names.length cn, .slice Ad RR.1.data.length cd] rfl rfl 25 pq.zero (Blk.new w5 25 pq.zero) pq.infoReq rfl (by simp [Value.oneCell']) ?_))
        | (go_at_call 41; refine HR2.out.2.1.mono ?_; rintro en w5 ⟨⟨cs, rfl, q1, q2⟩, q3⟩; obtain ⟨An, cn, Ad, cd, rfl, q4, q5, q6⟩ := q2 rfl; unfold PReq.cells; have H5 := Lib.hid (And.intro q4 q3); have HLOW := Lib.hid (And.intro q5 q6); clear q1 q2 q3 q4 q5 q6))
      obtain ⟨b9, hb9⟩ : ∃ b, b = w5.heap.size := ⟨_, rfl⟩
      obtain ⟨w6, hw6⟩ : ∃ w6, w6 = (w5.alloc (.cells #[.int .i64 0, .int .i64 0, .string (ByteArray.mk #[]), .string (ByteArray.mk #[]), .int .i64 0, .int .i64 0, .int .i64 0, .int .i64 0, .string (ByteArray.mk #[]), .string (ByteArray.mk #[]), .int .i64 0, .slice none 0 0, .slice none 0 0] 25)).setRow w5.heap.size #[.int .i64 RR.1.kind, .int .i64 RR.1.corr, .string RR.1.client, .string RR.1.topic, .int .i64 RR.1.part, .int .i64 RR.1.off, .int .i64 RR.1.time, .int .i64 RR.1.most, .string RR.1.group, .string RR.1.member, .int .i64 RR.1.gen, .slice An RR.1.names.length cn, .slice Ad RR.1.data.length cd] := ⟨_, rfl⟩
      rw [← hw6, ← hb9]
      have hk9 : Blk w6 b9 25 #[.int .i64 RR.1.kind, .int .i64 RR.1.corr, .string RR.1.client, .string RR.1.topic, .int .i64 RR.1.part, .int .i64 RR.1.off, .int .i64 RR.1.time, .int .i64 RR.1.most, .string RR.1.group, .string RR.1.member, .int .i64 RR.1.gen, .slice An RR.1.names.length cn, .slice Ad RR.1.data.length cd] := by rw [hw6, hb9]; exact pq.blk_row (Blk.new w5 25 pq.zero) _
      have hc56 : Chg w5 w6 (fun _ => False) := by
        rw [hw6]
        exact (Chg.alloc w5 _ (fun _ => False)).trans (pq.chg_row _ _ _) fun k hk q => absurd hk (by rw [show k = w5.heap.size from q]; exact Nat.lt_irrefl _)
      have hk0 := hc56.blk (H5.out.2.blk HK.out.1 HK.out.2.2.2) fun q => q
      have hv := H5.out.1.below (hc56.below (Nat.le_refl _) fun _ q => q.elim) (Nat.le_refl _)
      have hb06 : Below w.heap.size w w6 := (HK.out.2.1.trans (H5.out.2.below HK.out.2.1.size fun k hk => by have hk : k = r := hk; have h1 := H1.out.2.1; have h2 := H0.out.2.2.1.size; omega)).trans (hc56.below (Nat.le_trans HK.out.2.1.size H5.out.2.size) fun _ q => q.elim)
      have y0 := hk9.cell 0 (v := .int .i64 RR.1.kind) rfl
      have y1 := hk9.cell 1 (v := .int .i64 RR.1.corr) rfl
      have y2 := hk9.cell 2 (v := .string RR.1.client) rfl
      have y3 := hk9.cell 3 (v := .string RR.1.topic) rfl
      have y4 := hk9.cell 4 (v := .int .i64 RR.1.part) rfl
      have y5 := hk9.cell 5 (v := .int .i64 RR.1.off) rfl
      have y6 := hk9.cell 6 (v := .int .i64 RR.1.time) rfl
      have y7 := hk9.cell 7 (v := .int .i64 RR.1.most) rfl
      have y8 := hk9.cell 8 (v := .string RR.1.group) rfl
      have y9 := hk9.cell 9 (v := .string RR.1.member) rfl
      have y10 := hk9.cell 10 (v := .int .i64 RR.1.gen) rfl
      have y11 := hk9.cell 11 (v := .slice An RR.1.names.length cn) rfl
      have y12 := hk9.cell 12 (v := .slice Ad RR.1.data.length cd) rfl
      have yl := hk9.lt
      have H6 := Lib.hid (And.intro hk0 (And.intro hv hb06)); clear hk9 hc56 hk0 hv hb06 hw6 hb9
      go_wp2_with (show Go.wpList _ _ _ (⟨_, .store _ (.tmp 2) (.tmp 56), _, _, _, _⟩ :: _) _ _; go_loud (refine wpList_store_row rfl 25 (.tmp 2) (.tmp 56) rfl b0 #[.int .i64 RR.1.kind, .int .i64 RR.1.corr, .string RR.1.client, .string RR.1.topic, .int .i64 RR.1.part, .int .i64 RR.1.off, .int .i64 RR.1.time, .int .i64 RR.1.most, .string RR.1.group, .string RR.1.member, .int .i64 RR.1.gen, .slice An RR.1.names.length cn, .slice Ad RR.1.data.length cd] rfl rfl 25 _ H6.out.1 pq.infoReq rfl (by simp [Value.oneCell']) ?_))
      have hz9 := pq.blk_row H6.out.1 #[.int .i64 RR.1.kind, .int .i64 RR.1.corr, .string RR.1.client, .string RR.1.topic, .int .i64 RR.1.part, .int .i64 RR.1.off, .int .i64 RR.1.time, .int .i64 RR.1.most, .string RR.1.group, .string RR.1.member, .int .i64 RR.1.gen, .slice An RR.1.names.length cn, .slice Ad RR.1.data.length cd]
      have hc9 := pq.chg_row w6 b0 #[.int .i64 RR.1.kind, .int .i64 RR.1.corr, .string RR.1.client, .string RR.1.topic, .int .i64 RR.1.part, .int .i64 RR.1.off, .int .i64 RR.1.time, .int .i64 RR.1.most, .string RR.1.group, .string RR.1.member, .int .i64 RR.1.gen, .slice An RR.1.names.length cn, .slice Ad RR.1.data.length cd]
      have hb9 : Below w.heap.size w (w6.setRow b0 #[.int .i64 RR.1.kind, .int .i64 RR.1.corr, .string RR.1.client, .string RR.1.topic, .int .i64 RR.1.part, .int .i64 RR.1.off, .int .i64 RR.1.time, .int .i64 RR.1.most, .string RR.1.group, .string RR.1.member, .int .i64 RR.1.gen, .slice An RR.1.names.length cn, .slice Ad RR.1.data.length cd]) := H6.out.2.2.trans (hc9.below H6.out.2.2.size fun k hk => by have hk : k = b0 := hk; have := HB0.out; omega)
      have hv9 : ReqV (w6.setRow b0 #[.int .i64 RR.1.kind, .int .i64 RR.1.corr, .string RR.1.client, .string RR.1.topic, .int .i64 RR.1.part, .int .i64 RR.1.off, .int .i64 RR.1.time, .int .i64 RR.1.most, .string RR.1.group, .string RR.1.member, .int .i64 RR.1.gen, .slice An RR.1.names.length cn, .slice Ad RR.1.data.length cd]) An cn Ad cd RR.1 := by
        obtain ⟨q1, ⟨A1, c1, q2, q3, q4⟩, ⟨A2, c2, q5, q6, q7⟩⟩ := H6.out.2.1
        obtain ⟨rfl, rfl⟩ : An = A1 ∧ cn = c1 := by injection q2 with e1 e2 e3; exact ⟨e1, e3⟩
        obtain ⟨rfl, rfl⟩ : Ad = A2 ∧ cd = c2 := by injection q5 with e1 e2 e3; exact ⟨e1, e3⟩
        refine ⟨q1, ⟨An, cn, q2, hc9.at' q3 fun hn b off hA hB => ?_, q4⟩, ⟨Ad, cd, q5, hc9.at' q6 fun hn b off hA hB => ?_, q7⟩⟩
        · have hB : b = b0 := hB
          have h1 := HLOW.out.1 b off hA
          have h2 := HK.out.1.lt
          omega
        · have hB : b = b0 := hB
          have h1 := HLOW.out.2 b off hA
          have h2 := HK.out.1.lt
          omega
      have HV9 := Lib.hid (And.intro hv9 hb9); clear hv9 hb9 hc9
      generalize w6.setRow b0 #[.int .i64 RR.1.kind, .int .i64 RR.1.corr, .string RR.1.client, .string RR.1.topic, .int .i64 RR.1.part, .int .i64 RR.1.off, .int .i64 RR.1.time, .int .i64 RR.1.most, .string RR.1.group, .string RR.1.member, .int .i64 RR.1.gen, .slice An RR.1.names.length cn, .slice Ad RR.1.data.length cd] = w9 at *
      refine bodyPost_ret (res_cell3 rfl _ _ b0 #[.int .i64 RR.1.kind, .int .i64 RR.1.corr, .string RR.1.client, .string RR.1.topic, .int .i64 RR.1.part, .int .i64 RR.1.off, .int .i64 RR.1.time, .int .i64 RR.1.most, .string RR.1.group, .string RR.1.member, .int .i64 RR.1.gen, .slice An RR.1.names.length cn, .slice Ad RR.1.data.length cd] _ rfl hz9 Try.underlying25 rfl pq.infoReq) rfl ?_
      exact ⟨⟨_, by rw [HR2.out.1]; rfl, ⟨rfl, by simp [Value.oneCell']⟩, fun h => absurd (by rw [HR2.out.1]) h, fun _ => by rw [HR2.out.1]; exact ⟨An, cn, Ad, cd, rfl, HV9.out.1, fun b off h => Nat.le_trans HK.out.2.1.size (HLOW.out.1 b off h), fun b off h => Nat.le_trans HK.out.2.1.size (HLOW.out.2 b off h)⟩⟩, HV9.out.2⟩
    · have d5 : (RR.2 == 0) = false := by simp [hr0]
      have d6 : (RR.2 != 0) = true := by simp [hr0]
      have hR2 : R = (pq.noReq, C, RR.2) := by rw [HREST.out.2.1, if_pos hr0]
      have HR2 := Lib.hid (And.intro hR2 (And.intro HREST.out.1 hr0)); clear hR2 hr0
      go_upto_region 16 with (first
        | (show Go.wpList _ _ _ (⟨_, .store _ (.tmp 9) (.tmp 49), _, _, _, _⟩ :: _) _ _; go_loud (refine wpList_store_row rfl 25 (.tmp 9) (.tmp 49) rfl w5.heap.size cs rfl rfl 25 pq.zero (Blk.new w5 25 pq.zero) (by rw [H5.out.1.1]; exact pq.infoReq) (by rw [H5.out.1.1]; rfl) H5.out.1.2 ?_))
        | (go_at_call 41; refine HR2.out.2.1.mono ?_; rintro en w5 ⟨⟨cs, rfl, q1, q2⟩, q3⟩; have H5 := Lib.hid (And.intro q1 q3); clear q1 q2 q3))
      obtain ⟨w6, hw6⟩ : ∃ w6, w6 = (w5.alloc (.cells #[.int .i64 0, .int .i64 0, .string (ByteArray.mk #[]), .string (ByteArray.mk #[]), .int .i64 0, .int .i64 0, .int .i64 0, .int .i64 0, .string (ByteArray.mk #[]), .string (ByteArray.mk #[]), .int .i64 0, .slice none 0 0, .slice none 0 0] 25)).setRow w5.heap.size cs := ⟨_, rfl⟩
      rw [← hw6]
      have hc56 : Chg w5 w6 (fun _ => False) := by
        rw [hw6]
        exact (Chg.alloc w5 _ (fun _ => False)).trans (pq.chg_row _ _ _) fun k hk q => absurd hk (by rw [show k = w5.heap.size from q]; exact Nat.lt_irrefl _)
      have hk0 := hc56.blk (H5.out.2.blk HK.out.1 HK.out.2.2.2) fun q => q
      have hb06 : Below w.heap.size w w6 := (HK.out.2.1.trans (H5.out.2.below HK.out.2.1.size fun k hk => by have hk : k = r := hk; have h1 := H1.out.2.1; have h2 := H0.out.2.2.1.size; omega)).trans (hc56.below (Nat.le_trans HK.out.2.1.size H5.out.2.size) fun _ q => q.elim)
      have H6 := Lib.hid (And.intro hk0 hb06); clear hc56 hk0 hb06 hw6
      go_wp2_with (show Go.wpList _ _ _ (⟨_, .store _ (.tmp 2) (.tmp 53), _, _, _, _⟩ :: _) _ _; go_loud (refine wpList_store_row rfl 25 (.tmp 2) (.tmp 53) rfl b0 pq.zero rfl rfl 25 _ H6.out.1 pq.infoReq rfl pq.zero_one.2 ?_))
      have hz9 := pq.blk_row H6.out.1 pq.zero
      have hb9 : Below w.heap.size w (w6.setRow b0 pq.zero) := H6.out.2.trans ((pq.chg_row w6 b0 pq.zero).below H6.out.2.size fun k hk => by have hk : k = b0 := hk; have := HB0.out; omega)
      generalize w6.setRow b0 pq.zero = w9 at *
      refine bodyPost_ret (res_cell3 rfl _ _ b0 pq.zero _ rfl hz9 Try.underlying25 rfl pq.infoReq) rfl ?_
      exact ⟨⟨pq.zero, by rw [HR2.out.1]; rfl, (by first | exact pq.zero_one | simpa using pq.zero_one), fun _ => rfl, fun h => by rw [HR2.out.1] at h; exact absurd h HR2.out.2.2⟩, hb9⟩
end
section
open Go.RowKit

theorem rd.piece_text (s : ByteArray) (Z : List Nat) (most : Int) (hs : (s.size : Int) ≤ most) (hs2 : s.size ≤ 1000000) : rd.piece (pq.text s ++ Z) 0 most = (strNats s, Z, 0) := by
  have h := rd.piece_put (strNats s) Z most (by rw [strNats_len]; omega) (by rw [strNats_len]; exact hs)
  rw [strNats_len] at h
  unfold pq.text
  rw [List.append_assoc]
  exact h
theorem rd.texts_put : ∀ (l : List ByteArray) (Z : List Nat), (∀ s ∈ l, s.size ≤ 100) → rd.texts l.length (pq.texts l ++ Z) 0 = (l, Z, 0)
  | [], Z, _ => rfl
  | s :: l, Z, h => by
    have h1 := h s (by simp)
    have h2 := rd.texts_put l Z fun x hx => h x (by simp [hx])
    have e : pq.texts (s :: l) ++ Z = pq.text s ++ (pq.texts l ++ Z) := by
      show (pq.text s ++ pq.texts l) ++ Z = _
      rw [List.append_assoc]
    rw [List.length_cons, rd.texts, e, rd.piece_text s _ 100 (by omega) (by omega)]
    dsimp only
    rw [h2, strOf_strNats]
theorem pq.list_put (l : List ByteArray) (Z : List Nat) (most : Int) (hl : (l.length : Int) ≤ most) (hl2 : l.length ≤ 1000000) (hs : ∀ s ∈ l, s.size ≤ 100) : pq.list most (num.put l.length ++ (pq.texts l ++ Z)) 0 = (l, Z, 0) := by
  unfold pq.list
  rw [rd.num_put (l.length : Int) (pq.texts l ++ Z) (by omega) (by omega)]
  dsimp only
  rw [if_neg (by omega), Int.toNat_natCast]
  exact rd.texts_put l Z hs
/-- A request behind its kind and its number. -/
def pq.tail (r : PReq) : List Nat := pq.text r.client ++ (pq.text r.topic ++ (num.put r.part ++ (num.put r.off ++ (num.put r.time ++ (num.put r.most ++ (pq.text r.group ++ (pq.text r.member ++ (num.put r.gen ++ (num.put r.names.length ++ (pq.texts r.names ++ (num.put r.data.length ++ r.data)))))))))))
theorem pq.bytes_eq (r : PReq) : pq.bytes r = wire.be r.kind.toNat 2 ++ (wire.be r.corr.toNat 4 ++ pq.tail r) := by
  unfold pq.bytes pq.tail
  simp only [List.nil_append, List.append_assoc]
theorem pq.rest_put (r : PReq) (Z : List Nat) (hf : r.fit) (hc : pq.check r = 0) : pq.rest r.kind r.corr (pq.tail r ++ Z) 0 = (r, if 0 < Z.length then 2 else 0) := by
  obtain ⟨-, -, hl4, hn30, hln, hd6⟩ := pq.check_ok hc
  obtain ⟨⟨-, -, ip, io, it, im, ig⟩, -⟩ := hf
  unfold pq.int at ip io it im ig
  have hs4 := pq.long_no hl4
  have hsn := pq.long_no hln
  have s2 := hs4 r.client (by simp)
  have s3 := hs4 r.topic (by simp)
  have s8 := hs4 r.group (by simp)
  have s9 := hs4 r.member (by simp)
  unfold pq.rest pq.tail
  simp only [List.append_assoc]
  rw [rd.piece_text r.client _ 100 (by omega) (by omega)]
  dsimp only
  rw [rd.piece_text r.topic _ 100 (by omega) (by omega)]
  dsimp only
  rw [rd.num_put r.part _ ip.1 ip.2]
  dsimp only
  rw [rd.num_put r.off _ io.1 io.2]
  dsimp only
  rw [rd.num_put r.time _ it.1 it.2]
  dsimp only
  rw [rd.num_put r.most _ im.1 im.2]
  dsimp only
  rw [rd.piece_text r.group _ 100 (by omega) (by omega)]
  dsimp only
  rw [rd.piece_text r.member _ 100 (by omega) (by omega)]
  dsimp only
  rw [rd.num_put r.gen _ ig.1 ig.2]
  dsimp only
  rw [pq.list_put r.names _ 30 (by omega) (by omega) hsn]
  dsimp only
  rw [if_neg (by simp), rd.piece_put r.data Z 65536 (by omega) (by omega)]
  dsimp only
  rw [strOf_strNats, strOf_strNats, strOf_strNats, strOf_strNats]
theorem pq.bytes_len {r : PReq} (hc : pq.check r = 0) : 6 ≤ (pq.bytes r).length ∧ (pq.bytes r).length ≤ 131072 := by
  obtain ⟨-, -, hl4, hn30, hln, hd6⟩ := pq.check_ok hc
  have hs4 := pq.long_no hl4
  have hsn := pq.long_no hln
  have s2 := hs4 r.client (by simp)
  have s3 := hs4 r.topic (by simp)
  have s8 := hs4 r.group (by simp)
  have s9 := hs4 r.member (by simp)
  have t2 := pq.text_len r.client
  have t3 := pq.text_len r.topic
  have t8 := pq.text_len r.group
  have t9 := pq.text_len r.member
  have n4 := num.put_bd r.part
  have n5 := num.put_bd r.off
  have n6 := num.put_bd r.time
  have n7 := num.put_bd r.most
  have n10 := num.put_bd r.gen
  have n11 := num.put_bd (r.names.length : Int)
  have n12 := num.put_bd (r.data.length : Int)
  have ht : ∀ l : List ByteArray, (∀ s ∈ l, s.size ≤ 100) → (pq.texts l).length ≤ l.length * 110 := fun l => by
    induction l with
    | nil => intro _; simp [pq.texts]
    | cons s l ih =>
      intro h
      have h1 := ih fun x hx => h x (by simp [hx])
      have h2 := (pq.text_len s).2
      have h3 := h s (by simp)
      show (pq.text s ++ pq.texts l).length ≤ _
      rw [List.length_append, List.length_cons]
      omega
  have h11 := ht r.names hsn
  rw [pq.bytes_eq]
  unfold pq.tail
  simp only [List.length_append, wire.be_len]
  omega
/-- What was written, whatever stands behind it. -/
theorem pq.dec_put (r : PReq) (Z : List Nat) (hf : r.fit) (hc : pq.check r = 0) (hz : (pq.bytes r ++ Z).length ≤ 131072) : pq.dec (pq.bytes r ++ Z) = if 0 < Z.length then (pq.noReq, r.corr, 2) else (r, r.corr, 0) := by
  obtain ⟨⟨hk1, hk2⟩, ⟨hr1, hr2⟩, -⟩ := pq.check_ok hc
  have hlen := pq.bytes_len hc
  have f1 := rd.fixed_be r.kind.toNat 2 (wire.be r.corr.toNat 4 ++ (pq.tail r ++ Z)) (by unfold wire.fit; simp; omega) (by omega)
  have f2 := rd.fixed_be r.corr.toNat 4 (pq.tail r ++ Z) (by unfold wire.fit; simp; omega) (by omega)
  rw [Int.toNat_of_nonneg (by omega)] at f1
  rw [Int.toNat_of_nonneg (by omega)] at f2
  have hl : (pq.bytes r ++ Z).length = (pq.bytes r).length + Z.length := List.length_append
  have e : pq.bytes r ++ Z = wire.be r.kind.toNat 2 ++ (wire.be r.corr.toNat 4 ++ (pq.tail r ++ Z)) := by
    rw [pq.bytes_eq]
    simp only [List.append_assoc]
  unfold pq.dec
  rw [if_neg (by omega), if_neg (by omega), e]
  rw [show ((2 : Nat) : Int) = 2 from rfl] at f1
  rw [show ((4 : Nat) : Int) = 4 from rfl] at f2
  rw [f1]
  dsimp only
  rw [f2]
  dsimp only
  have hC : (if 2147483647 < r.corr then (0:Int) else r.corr) = r.corr := if_neg (by omega)
  simp only [hC]
  rw [if_neg (by omega), if_neg (by omega), pq.rest_put r Z hf hc]
  dsimp only
  by_cases h0 : 0 < Z.length
  · rw [if_pos h0, if_pos h0, if_pos (by decide)]
  · rw [if_neg h0, if_neg h0, if_neg (by simp)]
end
end Go.Proofs.Ytimcpbbcealkiaa

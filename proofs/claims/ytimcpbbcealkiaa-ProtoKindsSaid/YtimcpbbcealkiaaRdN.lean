/- Contracts of wire.Reader once more: the bytes stay in the blocks of Q. -/
import Derived.Test.YtimcpbbcealkiaaRdB
import Derived.Test.YtimcpbbcealkiaaRdY
namespace Go.Proofs.Ytimcpbbcealkiaa
open Go.RowKit
set_option maxRecDepth 20000

/-- The reader at r has L left, in a block of Q. -/
def RdQ (Q : Nat → Prop) (w : World) (r : Nat) (L : List Nat) (e : Int) : Prop := ∃ A c, Rd w r A c L e ∧ ∀ a, A = some a → Q a.block
theorem RdQ.chg {Q P : Nat → Prop} {w w' : World} {r : Nat} {L : List Nat} {e : Int} (h : RdQ Q w r L e) (hc : Chg w w' P) (hr : ¬ P r) (hq : ∀ k, Q k → ¬ P k) : RdQ Q w' r L e := by
  obtain ⟨A, c, h1, h2⟩ := h
  exact ⟨A, c, ⟨hc.blk h1.blk hr, hc.at' h1.lie fun _ b off hA hB => hq b (h2 _ hA) hB, h1.len, h1.cap, h1.byte⟩, h2⟩
theorem RdQ.keep {Q : Nat → Prop} {w w' : World} {r : Nat} {L : List Nat} {e : Int} (h : RdQ Q w r L e) (hb : Below w.heap.size w w') : RdQ Q w' r L e := h.chg (chg_of (P := fun _ => False) hb) (fun q => q) fun _ _ q => q
theorem RdQ.blk {Q : Nat → Prop} {w : World} {r : Nat} {L : List Nat} {e : Int} (h : RdQ Q w r L e) : ∃ cs, Blk w r 98 cs := by
  obtain ⟨A, c, h1, -⟩ := h
  exact ⟨_, h1.blk⟩
theorem RdNear.q {Q : Nat → Prop} {w : World} {r : Nat} {A : Option Addr} {L : List Nat} {e : Int} (h : RdNear w r A L e) (hQ : ∀ a, A = some a → Q a.block) : RdQ Q w r L e := by
  obtain ⟨A2, c2, h1, h2⟩ := h
  refine ⟨A2, c2, h1, fun a ha => ?_⟩
  obtain ⟨b, hb, e⟩ := h2 a ha
  rw [← e]
  exact hQ b hb
def RqPost (Q : Nat → Prop) (w : World) (r : Nat) (v : Value) (L : List Nat) (e : Int) (en : Ending) (w' : World) : Prop := en = .returned v ∧ RdQ Q w' r L e ∧ Chg w w' (rdT r)
theorem rdq.fail (Q : Nat → Prop) (r : Nat) (A : Option Addr) (c : Nat) (L : List Nat) (e x : Int) (w : World) (h : Rd w r A c L e) :
    Calls Try.prog 61 #[.pointer (some ⟨r, 0, none⟩), .int .i64 x] w (RqPost Q w r (.int .i64 0) [] x) := by
  have hc0 := h.blk.cell 0 (v := .slice A L.length c) rfl
  have hc1 := h.blk.cell 1 (v := .int .i64 e) rfl
  have hf0 := h.blk.frozen 0
  have hf1 := h.blk.frozen 1
  have hb1 := h.blk.set 1 (.int .i64 x)
  have hq0 := hb1.cell 0 (v := .slice A L.length c) rfl
  have hg0 := hb1.frozen 0
  have H := Lib.hid hb1; clear hb1 h
  go_enter Try.func61, Try.ntmps61
  go_wp2
  go_ret
  refine ⟨rfl, ⟨none, 0, ⟨H.out.set 0 (.slice none 0 0), At.none0 rfl, Nat.le_refl _, Nat.zero_le _, fun x hx => by cases hx⟩, fun a ha => by cases ha⟩, ?_⟩
  exact (Chg.setCell w r 1 _).trans (Chg.setCell _ r 0 _) fun _ _ hk => hk
set_option maxHeartbeats 800000 in
theorem rdq.num (Q : Nat → Prop) (r : Nat) (L : List Nat) (e : Int) (w : World) (h : RdQ Q w r L e) :
    Calls Try.prog 64 #[.pointer (some ⟨r, 0, none⟩)] w (RqPost Q w r (.int .i64 (rd.num L e).1) (rd.num L e).2.1 (rd.num L e).2.2) := by
  obtain ⟨A, c, h, hQ⟩ := h
  have HQQ := Lib.hid hQ; clear hQ
  have hc0 := h.blk.cell 0 (v := .slice A L.length c) rfl
  have hlen := h.len
  have hcap := h.cap
  unfold maxLen at hcap
  have H := Lib.hid h; clear h
  by_cases he : e = 0
  · subst he
    cases hg : num.getL L with
    | none =>
      have hres : num.res (num.get (fun j => L.getD j 0) L.length) = .tuple #[.int .i64 0, .int .i64 0, .int .i64 2] := by
        rw [show num.get (fun j => L.getD j 0) L.length = num.getL L from rfl, hg]; rfl
      have hr : rd.num L 0 = (0, [], 2) := by unfold rd.num; rw [if_neg (by simp), hg]
      have HRES := Lib.hid hres; clear hres
      have HR := Lib.hid hr; clear hr hg
      go_enter Try.func64, Try.ntmps64
      go_wp2_with fail
      refine (wire.err_any r A c L 0 w H.out).mono ?_
      rintro en w' ⟨rfl, rfl⟩
      go_wp2_with fail
      refine (num.get_any A L.length c (fun j => L.getD j 0) w (by omega) H.out.lie (fun j hj => getD_all H.out.byte j hj)).mono ?_
      rintro en w' ⟨rfl, rfl⟩
      rw [HRES.out]
      go_wp2_with fail
      refine (rdq.fail Q r A c L 0 2 w H.out).mono ?_
      rintro en w' ⟨rfl, hrd, hch⟩
      have HRD := Lib.hid hrd; clear hrd
      have HCH := Lib.hid hch; clear hch
      go_wp2
      go_ret
      rw [HR.out]
      exact ⟨rfl, HRD.out, HCH.out⟩
    | some p =>
      obtain ⟨u, k⟩ := p
      obtain ⟨hk, hk1⟩ := num.getL_le hg
      have hres : num.res (num.get (fun j => L.getD j 0) L.length) = .tuple #[.int .i64 (num.zag u), .int .i64 (k : Int), .int .i64 0] := by
        rw [show num.get (fun j => L.getD j 0) L.length = num.getL L from rfl, hg]; rfl
      have hr : rd.num L 0 = (num.zag u, L.drop k, 0) := by unfold rd.num; rw [if_neg (by simp), hg]
      have HRES := Lib.hid hres; clear hres
      have HR := Lib.hid hr; clear hr hg
      go_enter Try.func64, Try.ntmps64
      go_wp2_with fail
      refine (wire.err_any r A c L 0 w H.out).mono ?_
      rintro en w' ⟨rfl, rfl⟩
      go_wp2_with fail
      refine (num.get_any A L.length c (fun j => L.getD j 0) w (by omega) H.out.lie (fun j hj => getD_all H.out.byte j hj)).mono ?_
      rintro en w' ⟨rfl, rfl⟩
      rw [HRES.out]
      go_wp2_with fail
      refine (wire.take_near r A c L 0 k w H.out hk).mono ?_
      rintro en w' ⟨rfl, -, hrd, hch⟩
      have HRD := Lib.hid hrd; clear hrd
      have HCH := Lib.hid hch; clear hch
      go_wp2
      go_ret
      rw [HR.out]
      exact ⟨rfl, HRD.out.q HQQ.out, HCH.out⟩
  · have he' : (e == 0) = false := by simpa using he
    have hr := rd.num_err (L := L) he
    have HR := Lib.hid hr; clear hr
    clear he
    go_enter Try.func64, Try.ntmps64
    go_wp2_with fail
    refine (wire.err_any r A c L e w H.out).mono ?_
    rintro en w' ⟨rfl, rfl⟩
    go_wp2
    go_ret
    rw [HR.out]
    exact ⟨rfl, ⟨A, c, H.out, HQQ.out⟩, Chg.refl _ _⟩
def PieceQ (Q : Nat → Prop) (w : World) (r : Nat) (P L : List Nat) (e : Int) (en : Ending) (w' : World) : Prop :=
  (∃ A c, en = .returned (.slice A P.length c) ∧ At w' A P.length (byteAt P) ∧ P.length ≤ maxLen ∧ ∀ x ∈ P, x < 256) ∧ RdQ Q w' r L e ∧ Chg w w' (rdT r)

set_option maxRecDepth 20000 in
set_option maxHeartbeats 800000 in
theorem rdq.piece (Q : Nat → Prop) (r : Nat) (L : List Nat) (e most : Int) (w : World) (h : RdQ Q w r L e) :
    Calls Try.prog 77 #[.pointer (some ⟨r, 0, none⟩), .int .i64 most] w (PieceQ Q w r (rd.piece L e most).1 (rd.piece L e most).2.1 (rd.piece L e most).2.2) := by
  unfold rd.piece
  have H := Lib.hid h; clear h
  have hnum := rdq.num Q r L e w H.out
  obtain ⟨⟨n, L1, e1⟩, hq⟩ : ∃ q, rd.num L e = q := ⟨_, rfl⟩
  rw [hq] at hnum ⊢
  dsimp only at hnum ⊢
  have HNUM := Lib.hid hnum; clear hnum hq
  by_cases he : e1 = 0
  · subst he
    by_cases hbad : n < 0 ∨ (L1.length : Int) < n
    · have hr : rd.cut n L1 0 most = ([], [], 2) := by unfold rd.cut; rw [if_neg (by simp), if_pos hbad]
      rw [hr]
      clear hr
      have HBAD := Lib.hid hbad; clear hbad
      by_cases hneg : n < 0
      all_goals
        have hgt : ¬ n < 0 → (L1.length : Int) < n := fun h => by have := HBAD.out; omega
        have HGT := Lib.hid hgt; clear hgt
        go_enter Try.func77, Try.ntmps77
        go_wp2_with fail
        refine HNUM.out.mono ?_
        rintro en w1 ⟨rfl, ⟨A1, c1, h1, hq1⟩, hch⟩
        have hc0 := h1.blk.cell 0 (v := .slice A1 L1.length c1) rfl
        have H1 := Lib.hid h1; clear h1
        have HQ1 := Lib.hid hq1; clear hq1
        have HCH := Lib.hid hch; clear hch
        go_wp2_with fail
        refine (wire.err_any r A1 c1 L1 0 w1 H1.out).mono ?_
        rintro en w' ⟨rfl, rfl⟩
        try have hl : (L1.length : Int) < n := HGT.out hneg
        go_wp2_with fail
        refine (rdq.fail Q r A1 c1 L1 0 2 w1 H1.out).mono ?_
        rintro en w2 ⟨rfl, hrd, hch2⟩
        have HRD := Lib.hid hrd; clear hrd
        have HCH2 := Lib.hid hch2; clear hch2
        go_wp2
        go_ret
        exact ⟨⟨none, 0, rfl, At.none0 rfl, Nat.zero_le _, fun x hx => by cases hx⟩, HRD.out, HCH.out.trans HCH2.out fun _ _ hk => hk⟩
    · have h0 : ¬ n < 0 := by omega
      have hl : ¬ (L1.length : Int) < n := by omega
      by_cases hm : most < n
      · have hr : rd.cut n L1 0 most = ([], [], 3) := by unfold rd.cut; rw [if_neg (by simp), if_neg hbad, if_pos hm]
        rw [hr]
        clear hr hbad
        go_enter Try.func77, Try.ntmps77
        go_wp2_with fail
        refine HNUM.out.mono ?_
        rintro en w1 ⟨rfl, ⟨A1, c1, h1, hq1⟩, hch⟩
        have hc0 := h1.blk.cell 0 (v := .slice A1 L1.length c1) rfl
        have H1 := Lib.hid h1; clear h1
        have HQ1 := Lib.hid hq1; clear hq1
        have HCH := Lib.hid hch; clear hch
        go_wp2_with fail
        refine (wire.err_any r A1 c1 L1 0 w1 H1.out).mono ?_
        rintro en w' ⟨rfl, rfl⟩
        go_wp2_with fail
        refine (rdq.fail Q r A1 c1 L1 0 3 w1 H1.out).mono ?_
        rintro en w2 ⟨rfl, hrd, hch2⟩
        have HRD := Lib.hid hrd; clear hrd
        have HCH2 := Lib.hid hch2; clear hch2
        go_wp2
        go_ret
        exact ⟨⟨none, 0, rfl, At.none0 rfl, Nat.zero_le _, fun x hx => by cases hx⟩, HRD.out, HCH.out.trans HCH2.out fun _ _ hk => hk⟩
      · obtain ⟨k, rfl⟩ := Int.eq_ofNat_of_zero_le (show 0 ≤ n by omega)
        have hr : rd.cut k L1 0 most = (L1.take k, L1.drop k, 0) := by unfold rd.cut; rw [if_neg (by simp), if_neg hbad, if_neg hm, Int.toNat_natCast]
        rw [hr]
        clear hr hbad
        have hkl : k ≤ L1.length := by omega
        have hl2 : ¬ L1.length < k := by omega
        go_enter Try.func77, Try.ntmps77
        go_wp2_with fail
        refine HNUM.out.mono ?_
        rintro en w1 ⟨rfl, ⟨A1, c1, h1, hq1⟩, hch⟩
        have hc0 := h1.blk.cell 0 (v := .slice A1 L1.length c1) rfl
        have H1 := Lib.hid h1; clear h1
        have HQ1 := Lib.hid hq1; clear hq1
        have HCH := Lib.hid hch; clear hch
        go_wp2_with fail
        refine (wire.err_any r A1 c1 L1 0 w1 H1.out).mono ?_
        rintro en w' ⟨rfl, rfl⟩
        go_wp2_with fail
        refine (wire.take_near r A1 c1 L1 0 k w1 H1.out hkl).mono ?_
        rintro en w2 ⟨rfl, hat, hrd, hch2⟩
        have HAT := Lib.hid hat; clear hat
        have HRD := Lib.hid hrd; clear hrd
        have HCH2 := Lib.hid hch2; clear hch2
        go_wp2
        go_ret
        have hk2 : (L1.take k).length = k := by rw [List.length_take]; omega
        exact ⟨⟨A1, c1, by rw [hk2]; rfl, by rw [hk2]; exact HAT.out, by have := H1.out.len; have := H1.out.cap; omega, fun x hx => H1.out.byte x (List.mem_of_mem_take hx)⟩, HRD.out.q HQ1.out, HCH.out.trans HCH2.out fun _ _ hk => hk⟩
  · have he' : (e1 == 0) = false := by simpa using he
    have hr : rd.cut n L1 e1 most = ([], L1, e1) := by unfold rd.cut; rw [if_pos he]
    rw [hr]
    clear hr he
    go_enter Try.func77, Try.ntmps77
    go_wp2_with fail
    refine HNUM.out.mono ?_
    rintro en w1 ⟨rfl, ⟨A1, c1, h1, hq1⟩, hch⟩
    have H1 := Lib.hid h1; clear h1
    have HQ1 := Lib.hid hq1; clear hq1
    have HCH := Lib.hid hch; clear hch
    go_wp2_with fail
    refine (wire.err_any r A1 c1 L1 e1 w1 H1.out).mono ?_
    rintro en w' ⟨rfl, rfl⟩
    go_wp2
    go_ret
    exact ⟨⟨none, 0, rfl, At.none0 rfl, Nat.zero_le _, fun x hx => by cases hx⟩, ⟨A1, c1, H1.out, HQ1.out⟩, HCH.out⟩

/-- Bytes: a copy of the piece. -/
def BytesQ (Q : Nat → Prop) (w : World) (r : Nat) (P L : List Nat) (e : Int) (en : Ending) (w' : World) : Prop :=
  (∃ v, en = .returned v ∧ w'.ownsRow w.heap.size 5 1 v P.length (u8s P)) ∧ RdQ Q w' r L e ∧ Chg w w' (rdT r)
set_option maxHeartbeats 800000 in
theorem rdq.bytes (Q : Nat → Prop) (r : Nat) (L : List Nat) (e most : Int) (w : World) (h : RdQ Q w r L e) (hL : L.length ≤ 140737488351232) :
    Calls Try.prog 67 #[.pointer (some ⟨r, 0, none⟩), .int .i64 most] w (BytesQ Q w r (rd.piece L e most).1 (rd.piece L e most).2.1 (rd.piece L e most).2.2) := by
  have hp := rdq.piece Q r L e most w h
  have hle := rd.piece_le L e most
  obtain ⟨⟨M, L1, e1⟩, hq⟩ : ∃ q, rd.piece L e most = q := ⟨_, rfl⟩
  rw [hq] at hp hle ⊢
  dsimp only at hp hle ⊢
  have HP := Lib.hid hp; clear hp hq h
  go_enter Try.func67, Try.ntmps67
  go_wp2_with fail
  refine HP.out.mono ?_
  rintro en w1 ⟨⟨A1, c1, rfl, hat, -, -⟩, hrd, hch⟩
  have HAT := Lib.hid hat; clear hat
  have HRD := Lib.hid hrd; clear hrd
  have HCH := Lib.hid hch; clear hch
  go_wp2_with fail
  refine (clone_any A1 M.length c1 M w1 rfl (by omega) HAT.out).mono ?_
  rintro en w2 ⟨⟨v, rfl, hown⟩, hb⟩
  have HO := Lib.hid hown; clear hown
  have HB := Lib.hid hb; clear hb
  go_wp2
  go_ret
  exact ⟨⟨_, rfl, ownsRow_base HO.out HCH.out.size⟩, HRD.out.keep HB.out, HCH.out.trans (chg_of (P := fun _ => False) HB.out) fun _ _ hk => hk.elim⟩

def TextQ (Q : Nat → Prop) (w : World) (r : Nat) (P L : List Nat) (e : Int) (en : Ending) (w' : World) : Prop :=
  en = .returned (.string (strOf P)) ∧ RdQ Q w' r L e ∧ Chg w w' (rdT r)
set_option maxHeartbeats 800000 in
theorem rdq.text (Q : Nat → Prop) (r : Nat) (L : List Nat) (e most : Int) (w : World) (h : RdQ Q w r L e) :
    Calls Try.prog 63 #[.pointer (some ⟨r, 0, none⟩), .int .i64 most] w (TextQ Q w r (rd.piece L e most).1 (rd.piece L e most).2.1 (rd.piece L e most).2.2) := by
  have hp := rdq.piece Q r L e most w h
  obtain ⟨⟨M, L1, e1⟩, hq⟩ : ∃ q, rd.piece L e most = q := ⟨_, rfl⟩
  rw [hq] at hp ⊢
  dsimp only at hp ⊢
  have HP := Lib.hid hp; clear hp hq h
  go_enter Try.func63, Try.ntmps63
  go_wp2_with fail
  refine HP.out.mono ?_
  rintro en w1 ⟨⟨A1, c1, rfl, hat, -, -⟩, hrd, hch⟩
  have hcv := conv_any (c := c1) Try.underlying23 Try.underlying5 Try.underlying9 M rfl hat
  clear hat
  have HRD := Lib.hid hrd; clear hrd
  have HCH := Lib.hid hch; clear hch
  go_wp2
  go_ret
  exact ⟨rfl, HRD.out, HCH.out⟩


set_option maxHeartbeats 1600000 in
theorem rdq.fixed_bad (Q : Nat → Prop) (r : Nat) (A : Option Addr) (c : Nat) (L : List Nat) (size : Int) (w : World) (h : Rd w r A c L 0) (hbad : rd.fbad L size) :
    Calls Try.prog 40 #[.pointer (some ⟨r, 0, none⟩), .int .i64 size] w (RqPost Q w r (.int .i64 0) [] 2) := by
  have hc0 := h.blk.cell 0 (v := .slice A L.length c) rfl
  have H := Lib.hid h; clear h
  have hcase : size < 1 ∨ (¬ size < 1 ∧ 8 < size) ∨ (¬ size < 1 ∧ ¬ 8 < size ∧ (L.length : Int) < size) ∨ (size = 8 ∧ ¬ (L.length : Int) < size ∧ 128 ≤ L.getD 0 0) := by unfold rd.fbad at hbad; omega
  clear hbad
  rcases hcase with n1 | ⟨n1, n2⟩ | ⟨n1, n2, n3⟩ | ⟨n1, n3, n4⟩
  · go_enter Try.func40, Try.ntmps40
    go_wp2_with fail
    refine (wire.err_any r A c L 0 w H.out).mono ?_
    rintro en w' ⟨rfl, rfl⟩
    go_wp2_with fail
    refine (rdq.fail Q r A c L 0 2 w H.out).mono ?_
    rintro en w1 ⟨rfl, hrd, hch⟩
    have HRD := Lib.hid hrd; clear hrd
    have HCH := Lib.hid hch; clear hch
    go_wp2
    go_ret
    exact ⟨rfl, HRD.out, HCH.out⟩
  · go_enter Try.func40, Try.ntmps40
    go_wp2_with fail
    refine (wire.err_any r A c L 0 w H.out).mono ?_
    rintro en w' ⟨rfl, rfl⟩
    go_wp2_with fail
    refine (rdq.fail Q r A c L 0 2 w H.out).mono ?_
    rintro en w1 ⟨rfl, hrd, hch⟩
    have HRD := Lib.hid hrd; clear hrd
    have HCH := Lib.hid hch; clear hch
    go_wp2
    go_ret
    exact ⟨rfl, HRD.out, HCH.out⟩
  · go_enter Try.func40, Try.ntmps40
    go_wp2_with fail
    refine (wire.err_any r A c L 0 w H.out).mono ?_
    rintro en w' ⟨rfl, rfl⟩
    go_wp2_with fail
    refine (rdq.fail Q r A c L 0 2 w H.out).mono ?_
    rintro en w1 ⟨rfl, hrd, hch⟩
    have HRD := Lib.hid hrd; clear hrd
    have HCH := Lib.hid hch; clear hch
    go_wp2
    go_ret
    exact ⟨rfl, HRD.out, HCH.out⟩
  · subst n1
    obtain ⟨b, off, rfl, hbb, hc⟩ := H.out.lie (by omega)
    obtain ⟨y, hy2⟩ : ∃ y, y = L.getD 0 0 := ⟨_, rfl⟩
    have hy : w.cell? ⟨b, off, none⟩ = some (.int .u8 (y : Int)) := by rw [hy2]; exact hc 0 (by omega)
    have hyb : (128 : Int) ≤ y := by omega
    have n3' : ¬ (L.length < 8) := by omega
    clear hc hy2 n4
    go_enter Try.func40, Try.ntmps40
    go_wp2_with fail
    refine (wire.err_any r _ c L 0 w H.out).mono ?_
    rintro en w' ⟨rfl, rfl⟩
    go_wp2_with fail
    refine (rdq.fail Q r _ c L 0 2 w H.out).mono ?_
    rintro en w1 ⟨rfl, hrd, hch⟩
    have HRD := Lib.hid hrd; clear hrd
    have HCH := Lib.hid hch; clear hch
    go_wp2
    go_ret
    exact ⟨rfl, HRD.out, HCH.out⟩
set_option maxHeartbeats 800000 in
theorem rdq.fixed (Q : Nat → Prop) (r : Nat) (L : List Nat) (e size : Int) (w : World) (h : RdQ Q w r L e) :
    Calls Try.prog 40 #[.pointer (some ⟨r, 0, none⟩), .int .i64 size] w (RqPost Q w r (.int .i64 (rd.fixed L e size).1) (rd.fixed L e size).2.1 (rd.fixed L e size).2.2) := by
  obtain ⟨A, c, h, hQ⟩ := h
  unfold rd.fixed
  by_cases he : e = 0
  · subst he
    rw [if_neg (by simp)]
    by_cases hbad : rd.fbad L size
    · rw [if_pos hbad]
      exact rdq.fixed_bad Q r A c L size w h hbad
    · rw [if_neg hbad]
      obtain ⟨n, rfl⟩ := Int.eq_ofNat_of_zero_le (show 0 ≤ size by unfold rd.fbad at hbad; omega)
      exact (wire.rfixed_near r A c L n w h hbad).mono fun _ _ ⟨h1, h2, h3⟩ => ⟨h1, h2.q hQ, h3⟩
  · rw [if_pos he]
    have he' : (e == 0) = false := by simpa using he
    have H := Lib.hid h; clear h he
    go_enter Try.func40, Try.ntmps40
    go_wp2_with fail
    refine (wire.err_any r A c L e w H.out).mono ?_
    rintro en w' ⟨rfl, rfl⟩
    go_wp2
    go_ret
    exact ⟨rfl, ⟨A, c, H.out, hQ⟩, Chg.refl _ _⟩

end Go.Proofs.Ytimcpbbcealkiaa

/- Contracts of wire.Reader: piece, Bytes, Text; NewReader, Borrow. -/
import Derived.Test.YtkkpbnhagobhmaaRdA
import Derived.Test.YtkkpbnhagobhmaaNumP
import Derived.Test.YtkkpbnhagobhmaaClone
import Derived.Test.YtkkpbnhagobhmaaConv
namespace Go.Proofs.Ytkkpbnhagobhmaa
open Go.RowKit

/-- What Num answers, what is left, the error. -/
def rd.num (L : List Nat) (e : Int) : Int × List Nat × Int :=
  if e ≠ 0 then (0, L, e) else match num.getL L with
    | none => (0, [], 2)
    | some (u, k) => (num.zag u, L.drop k, 0)
theorem rd.num_err {L : List Nat} {e : Int} (h : e ≠ 0) : rd.num L e = (0, L, e) := if_pos h
theorem num.getL_le {L : List Nat} {u k : Nat} (h : num.getL L = some (u, k)) : k ≤ L.length ∧ 1 ≤ k := by
  have : ∀ (bs : Nat → Nat) (n : Nat), ∀ q i x, num.gt bs n q i x = some (u, k) → k ≤ n ∧ 1 ≤ k := by
    intro bs n q
    induction q with
    | zero => intro i x h; simp [num.gt] at h
    | succ q ih =>
      intro i x h
      rw [num.gt] at h
      split at h
      · cases h
      split at h
      · cases h
      split at h
      · exact ih _ _ h
      split at h
      · cases h
      simp only [Option.some.injEq, Prod.mk.injEq] at h
      omega
  exact this _ _ _ _ _ h

set_option maxRecDepth 20000 in
set_option maxHeartbeats 800000 in
theorem wire.rnum_any (r : Nat) (A : Option Addr) (c : Nat) (L : List Nat) (e : Int) (w : World) (h : Rd w r A c L e) :
    Calls Try.prog 56 #[.pointer (some ⟨r, 0, none⟩)] w (RdPost w r (.int .i64 (rd.num L e).1) (rd.num L e).2.1 (rd.num L e).2.2) := by
  have hc0 := h.blk.cell 0 (v := .slice A L.length c) rfl
  have hlen := h.len
  have hcap := h.cap
  unfold maxLen at hcap
  have H := Lib.hid h; clear h
  by_cases he : e = 0
  · subst he
    cases hg : num.getL L with
    | none =>
      have hres : num.res (num.get (fun j => L.getD j 0) L.length) = .tuple #[.int .i64 0, .int .i64 0, .int .i64 2] := by
        rw [show num.get (fun j => L.getD j 0) L.length = num.getL L from rfl, hg]; rfl
      have hr : rd.num L 0 = (0, [], 2) := by unfold rd.num; rw [if_neg (by simp), hg]
      have HRES := Lib.hid hres; clear hres
      have HR := Lib.hid hr; clear hr hg
      go_enter Try.func56, Try.ntmps56
      go_wp2_with fail
      refine (wire.err_any r A c L 0 w H.out).mono ?_
      rintro en w' ⟨rfl, rfl⟩
      go_wp2_with fail
      refine (num.get_any A L.length c (fun j => L.getD j 0) w (by omega) H.out.lie (fun j hj => getD_all H.out.byte j hj)).mono ?_
      rintro en w' ⟨rfl, rfl⟩
      rw [HRES.out]
      go_wp2_with fail
      refine (wire.fail_any r A c L 0 2 w H.out).mono ?_
      rintro en w' ⟨rfl, hrd, hch⟩
      have HRD := Lib.hid hrd; clear hrd
      have HCH := Lib.hid hch; clear hch
      go_wp2
      go_ret
      rw [HR.out]
      exact ⟨rfl, HRD.out, HCH.out⟩
    | some p =>
      obtain ⟨u, k⟩ := p
      obtain ⟨hk, hk1⟩ := num.getL_le hg
      have hres : num.res (num.get (fun j => L.getD j 0) L.length) = .tuple #[.int .i64 (num.zag u), .int .i64 (k : Int), .int .i64 0] := by
        rw [show num.get (fun j => L.getD j 0) L.length = num.getL L from rfl, hg]; rfl
      have hr : rd.num L 0 = (num.zag u, L.drop k, 0) := by unfold rd.num; rw [if_neg (by simp), hg]
      have HRES := Lib.hid hres; clear hres
      have HR := Lib.hid hr; clear hr hg
      go_enter Try.func56, Try.ntmps56
      go_wp2_with fail
      refine (wire.err_any r A c L 0 w H.out).mono ?_
      rintro en w' ⟨rfl, rfl⟩
      go_wp2_with fail
      refine (num.get_any A L.length c (fun j => L.getD j 0) w (by omega) H.out.lie (fun j hj => getD_all H.out.byte j hj)).mono ?_
      rintro en w' ⟨rfl, rfl⟩
      rw [HRES.out]
      go_wp2_with fail
      refine (wire.take_any r A c L 0 k w H.out hk).mono ?_
      rintro en w' ⟨rfl, -, hrd, hch⟩
      have HRD := Lib.hid hrd; clear hrd
      have HCH := Lib.hid hch; clear hch
      go_wp2
      go_ret
      rw [HR.out]
      exact ⟨rfl, HRD.out, HCH.out⟩
  · have he' : (e == 0) = false := by simpa using he
    have hr := rd.num_err (L := L) he
    have HR := Lib.hid hr; clear hr
    clear he
    go_enter Try.func56, Try.ntmps56
    go_wp2_with fail
    refine (wire.err_any r A c L e w H.out).mono ?_
    rintro en w' ⟨rfl, rfl⟩
    go_wp2
    go_ret
    rw [HR.out]
    exact ⟨rfl, ⟨A, c, H.out⟩, Chg.refl _ _⟩
theorem wire.rnum_nil (w : World) :
    Calls Try.prog 56 #[.pointer none] w fun en w' => en = .returned (.int .i64 0) ∧ w = w' := by
  go_enter Try.func56, Try.ntmps56
  go_wp2_with fail
  refine (wire.err_nil w).mono ?_
  rintro en w' ⟨rfl, rfl⟩
  go_wp2
  go_ret
  exact ⟨rfl, rfl⟩

theorem RdIs.keep {w w' : World} {r : Nat} {L : List Nat} {e : Int} (h : RdIs w r L e) (hb : Below w.heap.size w w') : RdIs w' r L e := by
  obtain ⟨A, c, h⟩ := h
  exact ⟨A, c, (chg_of (P := fun _ => False) hb).blk h.blk id, h.lie.below hb (Nat.le_refl _), h.len, h.cap, h.byte⟩

/-- Another Reader stays as it was. -/
theorem RdIs.other {w w' : World} {r s : Nat} {L M : List Nat} {e f : Int} (hr : RdIs w r L e) (hs : RdIs w s M f) (hc : Chg w w' (rdT r)) (hne : s ≠ r) : RdIs w' s M f := by
  obtain ⟨A, c, hr⟩ := hr
  obtain ⟨B, d, hs⟩ := hs
  exact ⟨B, d, hc.blk hs.blk hne, hc.at' hs.lie fun hm b off hb => hr.apart hs.lie hm b off hb, hs.len, hs.cap, hs.byte⟩
/-- A Reader of a copy, in blocks of its own. -/
def NewPost (w : World) (L : List Nat) (en : Ending) (w' : World) : Prop := ∃ r, en = .returned (.pointer (some ⟨r, 0, none⟩)) ∧ RdIs w' r L 0 ∧ w.heap.size ≤ r ∧ Below w.heap.size w w'
theorem wire.borrow_at (A : Option Addr) (c : Nat) (L : List Nat) (w : World) (hat : At w A L.length (byteAt L)) (h1 : L.length ≤ c) (h2 : c ≤ maxLen) (hb : ∀ x ∈ L, x < 256) :
    Calls Try.prog 36 #[.slice A L.length c] w fun en w' => ∃ r, en = .returned (.pointer (some ⟨r, 0, none⟩)) ∧ Rd w' r A c L 0 ∧ w.heap.size ≤ r ∧ Below w.heap.size w w' := by
  have HAT := Lib.hid hat; clear hat
  go_enter Try.func36, Try.ntmps36
  go_wp2
  go_ret
  exact ⟨w.heap.size, rfl, ⟨Blk.new w _ _, HAT.out.alloc _, h1, h2, hb⟩, Nat.le_refl _, (Below.refl _ _).alloc (Nat.le_refl _) _⟩
theorem wire.borrow_any (A : Option Addr) (c : Nat) (L : List Nat) (w : World) (hat : At w A L.length (byteAt L)) (h1 : L.length ≤ c) (h2 : c ≤ maxLen) (hb : ∀ x ∈ L, x < 256) :
    Calls Try.prog 36 #[.slice A L.length c] w (NewPost w L) :=
  (wire.borrow_at A c L w hat h1 h2 hb).mono fun _ _ ⟨r, h1, h2, h3, h4⟩ => ⟨r, h1, ⟨A, c, h2⟩, h3, h4⟩

/-- What piece answers, what is left, the error. -/
def rd.cut (n : Int) (L : List Nat) (e most : Int) : List Nat × List Nat × Int :=
  if e ≠ 0 then ([], L, e) else if n < 0 ∨ (L.length : Int) < n then ([], [], 2) else if most < n then ([], [], 3) else (L.take n.toNat, L.drop n.toNat, 0)
def rd.piece (L : List Nat) (e most : Int) : List Nat × List Nat × Int := rd.cut (rd.num L e).1 (rd.num L e).2.1 (rd.num L e).2.2 most

theorem rd.num_le (L : List Nat) (e : Int) : (rd.num L e).2.1.length ≤ L.length := by
  unfold rd.num
  split
  · exact Nat.le_refl _
  · split
    · exact Nat.zero_le _
    · rw [List.length_drop]; omega
theorem rd.piece_le (L : List Nat) (e most : Int) : (rd.piece L e most).1.length ≤ L.length := by
  have h := rd.num_le L e
  unfold rd.piece rd.cut
  split
  · exact Nat.zero_le _
  split
  · exact Nat.zero_le _
  split
  · exact Nat.zero_le _
  · rw [List.length_take]; omega
def PiecePost (w : World) (r : Nat) (P L : List Nat) (e : Int) (en : Ending) (w' : World) : Prop :=
  (∃ A c, en = .returned (.slice A P.length c) ∧ At w' A P.length (byteAt P) ∧ P.length ≤ maxLen ∧ ∀ x ∈ P, x < 256) ∧ RdIs w' r L e ∧ Chg w w' (rdT r)

set_option maxRecDepth 20000 in
set_option maxHeartbeats 800000 in
theorem wire.piece_any (r : Nat) (A : Option Addr) (c : Nat) (L : List Nat) (e most : Int) (w : World) (h : Rd w r A c L e) :
    Calls Try.prog 55 #[.pointer (some ⟨r, 0, none⟩), .int .i64 most] w (PiecePost w r (rd.piece L e most).1 (rd.piece L e most).2.1 (rd.piece L e most).2.2) := by
  unfold rd.piece
  have H := Lib.hid h; clear h
  have hnum := wire.rnum_any r A c L e w H.out
  obtain ⟨⟨n, L1, e1⟩, hq⟩ : ∃ q, rd.num L e = q := ⟨_, rfl⟩
  rw [hq] at hnum ⊢
  dsimp only at hnum ⊢
  have HNUM := Lib.hid hnum; clear hnum hq
  by_cases he : e1 = 0
  · subst he
    by_cases hbad : n < 0 ∨ (L1.length : Int) < n
    · have hr : rd.cut n L1 0 most = ([], [], 2) := by unfold rd.cut; rw [if_neg (by simp), if_pos hbad]
      rw [hr]
      clear hr
      have HBAD := Lib.hid hbad; clear hbad
      by_cases hneg : n < 0
      all_goals
        have hgt : ¬ n < 0 → (L1.length : Int) < n := fun h => by have := HBAD.out; omega
        have HGT := Lib.hid hgt; clear hgt
        go_enter Try.func55, Try.ntmps55
        go_wp2_with fail
        refine HNUM.out.mono ?_
        rintro en w1 ⟨rfl, ⟨A1, c1, h1⟩, hch⟩
        have hc0 := h1.blk.cell 0 (v := .slice A1 L1.length c1) rfl
        have H1 := Lib.hid h1; clear h1
        have HCH := Lib.hid hch; clear hch
        go_wp2_with fail
        refine (wire.err_any r A1 c1 L1 0 w1 H1.out).mono ?_
        rintro en w' ⟨rfl, rfl⟩
        try have hl : (L1.length : Int) < n := HGT.out hneg
        go_wp2_with fail
        refine (wire.fail_any r A1 c1 L1 0 2 w1 H1.out).mono ?_
        rintro en w2 ⟨rfl, hrd, hch2⟩
        have HRD := Lib.hid hrd; clear hrd
        have HCH2 := Lib.hid hch2; clear hch2
        go_wp2
        go_ret
        exact ⟨⟨none, 0, rfl, At.none0 rfl, Nat.zero_le _, fun x hx => by cases hx⟩, HRD.out, HCH.out.trans HCH2.out fun _ _ hk => hk⟩
    · have h0 : ¬ n < 0 := by omega
      have hl : ¬ (L1.length : Int) < n := by omega
      by_cases hm : most < n
      · have hr : rd.cut n L1 0 most = ([], [], 3) := by unfold rd.cut; rw [if_neg (by simp), if_neg hbad, if_pos hm]
        rw [hr]
        clear hr hbad
        go_enter Try.func55, Try.ntmps55
        go_wp2_with fail
        refine HNUM.out.mono ?_
        rintro en w1 ⟨rfl, ⟨A1, c1, h1⟩, hch⟩
        have hc0 := h1.blk.cell 0 (v := .slice A1 L1.length c1) rfl
        have H1 := Lib.hid h1; clear h1
        have HCH := Lib.hid hch; clear hch
        go_wp2_with fail
        refine (wire.err_any r A1 c1 L1 0 w1 H1.out).mono ?_
        rintro en w' ⟨rfl, rfl⟩
        go_wp2_with fail
        refine (wire.fail_any r A1 c1 L1 0 3 w1 H1.out).mono ?_
        rintro en w2 ⟨rfl, hrd, hch2⟩
        have HRD := Lib.hid hrd; clear hrd
        have HCH2 := Lib.hid hch2; clear hch2
        go_wp2
        go_ret
        exact ⟨⟨none, 0, rfl, At.none0 rfl, Nat.zero_le _, fun x hx => by cases hx⟩, HRD.out, HCH.out.trans HCH2.out fun _ _ hk => hk⟩
      · obtain ⟨k, rfl⟩ := Int.eq_ofNat_of_zero_le (show 0 ≤ n by omega)
        have hr : rd.cut k L1 0 most = (L1.take k, L1.drop k, 0) := by unfold rd.cut; rw [if_neg (by simp), if_neg hbad, if_neg hm, Int.toNat_natCast]
        rw [hr]
        clear hr hbad
        have hkl : k ≤ L1.length := by omega
        have hl2 : ¬ L1.length < k := by omega
        go_enter Try.func55, Try.ntmps55
        go_wp2_with fail
        refine HNUM.out.mono ?_
        rintro en w1 ⟨rfl, ⟨A1, c1, h1⟩, hch⟩
        have hc0 := h1.blk.cell 0 (v := .slice A1 L1.length c1) rfl
        have H1 := Lib.hid h1; clear h1
        have HCH := Lib.hid hch; clear hch
        go_wp2_with fail
        refine (wire.err_any r A1 c1 L1 0 w1 H1.out).mono ?_
        rintro en w' ⟨rfl, rfl⟩
        go_wp2_with fail
        refine (wire.take_any r A1 c1 L1 0 k w1 H1.out hkl).mono ?_
        rintro en w2 ⟨rfl, hat, hrd, hch2⟩
        have HAT := Lib.hid hat; clear hat
        have HRD := Lib.hid hrd; clear hrd
        have HCH2 := Lib.hid hch2; clear hch2
        go_wp2
        go_ret
        have hk2 : (L1.take k).length = k := by rw [List.length_take]; omega
        exact ⟨⟨A1, c1, by rw [hk2]; rfl, by rw [hk2]; exact HAT.out, by have := H1.out.len; have := H1.out.cap; omega, fun x hx => H1.out.byte x (List.mem_of_mem_take hx)⟩, HRD.out, HCH.out.trans HCH2.out fun _ _ hk => hk⟩
  · have he' : (e1 == 0) = false := by simpa using he
    have hr : rd.cut n L1 e1 most = ([], L1, e1) := by unfold rd.cut; rw [if_pos he]
    rw [hr]
    clear hr he
    go_enter Try.func55, Try.ntmps55
    go_wp2_with fail
    refine HNUM.out.mono ?_
    rintro en w1 ⟨rfl, ⟨A1, c1, h1⟩, hch⟩
    have H1 := Lib.hid h1; clear h1
    have HCH := Lib.hid hch; clear hch
    go_wp2_with fail
    refine (wire.err_any r A1 c1 L1 e1 w1 H1.out).mono ?_
    rintro en w' ⟨rfl, rfl⟩
    go_wp2
    go_ret
    exact ⟨⟨none, 0, rfl, At.none0 rfl, Nat.zero_le _, fun x hx => by cases hx⟩, ⟨A1, c1, H1.out⟩, HCH.out⟩

/-- Bytes: a copy of the piece. -/
def BytesPost (w : World) (r : Nat) (P L : List Nat) (e : Int) (en : Ending) (w' : World) : Prop :=
  (∃ v, en = .returned v ∧ w'.ownsRow w.heap.size 5 1 v P.length (u8s P)) ∧ RdIs w' r L e ∧ Chg w w' (rdT r)
def TextPost (w : World) (r : Nat) (P L : List Nat) (e : Int) (en : Ending) (w' : World) : Prop :=
  en = .returned (.string (strOf P)) ∧ RdIs w' r L e ∧ Chg w w' (rdT r)
set_option maxHeartbeats 800000 in
theorem wire.rtext_any (r : Nat) (A : Option Addr) (c : Nat) (L : List Nat) (e most : Int) (w : World) (h : Rd w r A c L e) :
    Calls Try.prog 37 #[.pointer (some ⟨r, 0, none⟩), .int .i64 most] w (TextPost w r (rd.piece L e most).1 (rd.piece L e most).2.1 (rd.piece L e most).2.2) := by
  have hp := wire.piece_any r A c L e most w h
  obtain ⟨⟨M, L1, e1⟩, hq⟩ : ∃ q, rd.piece L e most = q := ⟨_, rfl⟩
  rw [hq] at hp ⊢
  dsimp only at hp ⊢
  have HP := Lib.hid hp; clear hp hq h
  go_enter Try.func37, Try.ntmps37
  go_wp2_with fail
  refine HP.out.mono ?_
  rintro en w1 ⟨⟨A1, c1, rfl, hat, -, -⟩, hrd, hch⟩
  have hcv := conv_any (c := c1) Try.underlying35 Try.underlying5 Try.underlying9 M rfl hat
  clear hat
  have HRD := Lib.hid hrd; clear hrd
  have HCH := Lib.hid hch; clear hch
  go_wp2
  go_ret
  exact ⟨rfl, HRD.out, HCH.out⟩

end Go.Proofs.Ytkkpbnhagobhmaa

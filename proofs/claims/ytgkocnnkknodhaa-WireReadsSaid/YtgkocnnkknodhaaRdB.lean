/- Contracts of wire.Reader: piece, Bytes, Text; NewReader, Borrow. -/
import Derived.Test.YtgkocnnkknodhaaRd
import Derived.Test.YtgkocnnkknodhaaRdK
import Derived.Test.YtgkocnnkknodhaaClone
import Derived.Test.YtgkocnnkknodhaaConv
namespace Go.Proofs.Ytgkocnnkknodhaa
open Go.RowKit

/-- What piece answers, what is left, the error. -/
def rd.cut (n : Int) (L : List Nat) (e most : Int) : List Nat × List Nat × Int :=
  if e ≠ 0 then ([], L, e) else if n < 0 ∨ (L.length : Int) < n then ([], [], 2) else if most < n then ([], [], 3) else (L.take n.toNat, L.drop n.toNat, 0)
def rd.piece (L : List Nat) (e most : Int) : List Nat × List Nat × Int := rd.cut (rd.num L e).1 (rd.num L e).2.1 (rd.num L e).2.2 most

theorem rd.num_le (L : List Nat) (e : Int) : (rd.num L e).2.1.length ≤ L.length := by
  unfold rd.num
  split
  · exact Nat.le_refl _
  · split
    · exact Nat.zero_le _
    · rw [List.length_drop]; omega
theorem rd.piece_le (L : List Nat) (e most : Int) : (rd.piece L e most).1.length ≤ L.length := by
  have h := rd.num_le L e
  unfold rd.piece rd.cut
  split
  · exact Nat.zero_le _
  split
  · exact Nat.zero_le _
  split
  · exact Nat.zero_le _
  · rw [List.length_take]; omega
def PiecePost (w : World) (r : Nat) (P L : List Nat) (e : Int) (en : Ending) (w' : World) : Prop :=
  (∃ A c, en = .returned (.slice A P.length c) ∧ At w' A P.length (byteAt P) ∧ P.length ≤ maxLen ∧ ∀ x ∈ P, x < 256) ∧ RdIs w' r L e ∧ Chg w w' (rdT r)

set_option maxRecDepth 20000 in
set_option maxHeartbeats 800000 in
theorem wire.piece_any (r : Nat) (A : Option Addr) (c : Nat) (L : List Nat) (e most : Int) (w : World) (h : Rd w r A c L e) :
    Calls Try.prog 79 #[.pointer (some ⟨r, 0, none⟩), .int .i64 most] w (PiecePost w r (rd.piece L e most).1 (rd.piece L e most).2.1 (rd.piece L e most).2.2) := by
  unfold rd.piece
  have H := Lib.hid h; clear h
  have hnum := wire.rnum_any r A c L e w H.out
  obtain ⟨⟨n, L1, e1⟩, hq⟩ : ∃ q, rd.num L e = q := ⟨_, rfl⟩
  rw [hq] at hnum ⊢
  dsimp only at hnum ⊢
  have HNUM := Lib.hid hnum; clear hnum hq
  by_cases he : e1 = 0
  · subst he
    by_cases hbad : n < 0 ∨ (L1.length : Int) < n
    · have hr : rd.cut n L1 0 most = ([], [], 2) := by unfold rd.cut; rw [if_neg (by simp), if_pos hbad]
      rw [hr]
      clear hr
      have HBAD := Lib.hid hbad; clear hbad
      by_cases hneg : n < 0
      all_goals
        have hgt : ¬ n < 0 → (L1.length : Int) < n := fun h => by have := HBAD.out; omega
        have HGT := Lib.hid hgt; clear hgt
        go_enter Try.func79, Try.ntmps79
        go_wp2_with fail
        refine HNUM.out.mono ?_
        rintro en w1 ⟨rfl, ⟨A1, c1, h1⟩, hch⟩
        have hc0 := h1.blk.cell 0 (v := .slice A1 L1.length c1) rfl
        have H1 := Lib.hid h1; clear h1
        have HCH := Lib.hid hch; clear hch
        go_wp2_with fail
        refine (wire.err_any r A1 c1 L1 0 w1 H1.out).mono ?_
        rintro en w' ⟨rfl, rfl⟩
        try have hl : (L1.length : Int) < n := HGT.out hneg
        go_wp2_with fail
        refine (wire.fail_any r A1 c1 L1 0 2 w1 H1.out).mono ?_
        rintro en w2 ⟨rfl, hrd, hch2⟩
        have HRD := Lib.hid hrd; clear hrd
        have HCH2 := Lib.hid hch2; clear hch2
        go_wp2
        go_ret
        exact ⟨⟨none, 0, rfl, At.none0 rfl, Nat.zero_le _, fun x hx => by cases hx⟩, HRD.out, HCH.out.trans HCH2.out fun _ _ hk => hk⟩
    · have h0 : ¬ n < 0 := by omega
      have hl : ¬ (L1.length : Int) < n := by omega
      by_cases hm : most < n
      · have hr : rd.cut n L1 0 most = ([], [], 3) := by unfold rd.cut; rw [if_neg (by simp), if_neg hbad, if_pos hm]
        rw [hr]
        clear hr hbad
        go_enter Try.func79, Try.ntmps79
        go_wp2_with fail
        refine HNUM.out.mono ?_
        rintro en w1 ⟨rfl, ⟨A1, c1, h1⟩, hch⟩
        have hc0 := h1.blk.cell 0 (v := .slice A1 L1.length c1) rfl
        have H1 := Lib.hid h1; clear h1
        have HCH := Lib.hid hch; clear hch
        go_wp2_with fail
        refine (wire.err_any r A1 c1 L1 0 w1 H1.out).mono ?_
        rintro en w' ⟨rfl, rfl⟩
        go_wp2_with fail
        refine (wire.fail_any r A1 c1 L1 0 3 w1 H1.out).mono ?_
        rintro en w2 ⟨rfl, hrd, hch2⟩
        have HRD := Lib.hid hrd; clear hrd
        have HCH2 := Lib.hid hch2; clear hch2
        go_wp2
        go_ret
        exact ⟨⟨none, 0, rfl, At.none0 rfl, Nat.zero_le _, fun x hx => by cases hx⟩, HRD.out, HCH.out.trans HCH2.out fun _ _ hk => hk⟩
      · obtain ⟨k, rfl⟩ := Int.eq_ofNat_of_zero_le (show 0 ≤ n by omega)
        have hr : rd.cut k L1 0 most = (L1.take k, L1.drop k, 0) := by unfold rd.cut; rw [if_neg (by simp), if_neg hbad, if_neg hm, Int.toNat_natCast]
        rw [hr]
        clear hr hbad
        have hkl : k ≤ L1.length := by omega
        have hl2 : ¬ L1.length < k := by omega
        go_enter Try.func79, Try.ntmps79
        go_wp2_with fail
        refine HNUM.out.mono ?_
        rintro en w1 ⟨rfl, ⟨A1, c1, h1⟩, hch⟩
        have hc0 := h1.blk.cell 0 (v := .slice A1 L1.length c1) rfl
        have H1 := Lib.hid h1; clear h1
        have HCH := Lib.hid hch; clear hch
        go_wp2_with fail
        refine (wire.err_any r A1 c1 L1 0 w1 H1.out).mono ?_
        rintro en w' ⟨rfl, rfl⟩
        go_wp2_with fail
        refine (wire.take_any r A1 c1 L1 0 k w1 H1.out hkl).mono ?_
        rintro en w2 ⟨rfl, hat, hrd, hch2⟩
        have HAT := Lib.hid hat; clear hat
        have HRD := Lib.hid hrd; clear hrd
        have HCH2 := Lib.hid hch2; clear hch2
        go_wp2
        go_ret
        have hk2 : (L1.take k).length = k := by rw [List.length_take]; omega
        exact ⟨⟨A1, c1, by rw [hk2]; rfl, by rw [hk2]; exact HAT.out, by have := H1.out.len; have := H1.out.cap; omega, fun x hx => H1.out.byte x (List.mem_of_mem_take hx)⟩, HRD.out, HCH.out.trans HCH2.out fun _ _ hk => hk⟩
  · have he' : (e1 == 0) = false := by simpa using he
    have hr : rd.cut n L1 e1 most = ([], L1, e1) := by unfold rd.cut; rw [if_pos he]
    rw [hr]
    clear hr he
    go_enter Try.func79, Try.ntmps79
    go_wp2_with fail
    refine HNUM.out.mono ?_
    rintro en w1 ⟨rfl, ⟨A1, c1, h1⟩, hch⟩
    have H1 := Lib.hid h1; clear h1
    have HCH := Lib.hid hch; clear hch
    go_wp2_with fail
    refine (wire.err_any r A1 c1 L1 e1 w1 H1.out).mono ?_
    rintro en w' ⟨rfl, rfl⟩
    go_wp2
    go_ret
    exact ⟨⟨none, 0, rfl, At.none0 rfl, Nat.zero_le _, fun x hx => by cases hx⟩, ⟨A1, c1, H1.out⟩, HCH.out⟩

/-- Bytes: a copy of the piece. -/
def BytesPost (w : World) (r : Nat) (P L : List Nat) (e : Int) (en : Ending) (w' : World) : Prop :=
  (∃ v, en = .returned v ∧ w'.ownsRow w.heap.size 5 1 v P.length (u8s P)) ∧ RdIs w' r L e ∧ Chg w w' (rdT r)
set_option maxHeartbeats 800000 in
theorem wire.rbytes_any (r : Nat) (A : Option Addr) (c : Nat) (L : List Nat) (e most : Int) (w : World) (h : Rd w r A c L e) (hL : L.length ≤ 140737488351232) :
    Calls Try.prog 23 #[.pointer (some ⟨r, 0, none⟩), .int .i64 most] w (BytesPost w r (rd.piece L e most).1 (rd.piece L e most).2.1 (rd.piece L e most).2.2) := by
  have hp := wire.piece_any r A c L e most w h
  have hle := rd.piece_le L e most
  obtain ⟨⟨M, L1, e1⟩, hq⟩ : ∃ q, rd.piece L e most = q := ⟨_, rfl⟩
  rw [hq] at hp hle ⊢
  dsimp only at hp hle ⊢
  have HP := Lib.hid hp; clear hp hq h
  go_enter Try.func23, Try.ntmps23
  go_wp2_with fail
  refine HP.out.mono ?_
  rintro en w1 ⟨⟨A1, c1, rfl, hat, -, -⟩, hrd, hch⟩
  have HAT := Lib.hid hat; clear hat
  have HRD := Lib.hid hrd; clear hrd
  have HCH := Lib.hid hch; clear hch
  go_wp2_with fail
  refine (clone_any A1 M.length c1 M w1 rfl (by omega) HAT.out).mono ?_
  rintro en w2 ⟨⟨v, rfl, hown⟩, hb⟩
  have HO := Lib.hid hown; clear hown
  have HB := Lib.hid hb; clear hb
  go_wp2
  go_ret
  exact ⟨⟨_, rfl, ownsRow_base HO.out HCH.out.size⟩, HRD.out.keep HB.out, HCH.out.trans (chg_of (P := fun _ => False) HB.out) fun _ _ hk => hk.elim⟩

def TextPost (w : World) (r : Nat) (P L : List Nat) (e : Int) (en : Ending) (w' : World) : Prop :=
  en = .returned (.string (strOf P)) ∧ RdIs w' r L e ∧ Chg w w' (rdT r)
set_option maxHeartbeats 800000 in
theorem wire.rtext_any (r : Nat) (A : Option Addr) (c : Nat) (L : List Nat) (e most : Int) (w : World) (h : Rd w r A c L e) :
    Calls Try.prog 24 #[.pointer (some ⟨r, 0, none⟩), .int .i64 most] w (TextPost w r (rd.piece L e most).1 (rd.piece L e most).2.1 (rd.piece L e most).2.2) := by
  have hp := wire.piece_any r A c L e most w h
  obtain ⟨⟨M, L1, e1⟩, hq⟩ : ∃ q, rd.piece L e most = q := ⟨_, rfl⟩
  rw [hq] at hp ⊢
  dsimp only at hp ⊢
  have HP := Lib.hid hp; clear hp hq h
  go_enter Try.func24, Try.ntmps24
  go_wp2_with fail
  refine HP.out.mono ?_
  rintro en w1 ⟨⟨A1, c1, rfl, hat, -, -⟩, hrd, hch⟩
  have hcv := conv_any (c := c1) Try.underlying22 Try.underlying5 Try.underlying9 M rfl hat
  clear hat
  have HRD := Lib.hid hrd; clear hrd
  have HCH := Lib.hid hch; clear hch
  go_wp2
  go_ret
  exact ⟨rfl, HRD.out, HCH.out⟩

set_option maxHeartbeats 800000 in
theorem wire.new_any (A : Option Addr) (c : Nat) (L : List Nat) (w : World) (hat : At w A L.length (byteAt L)) (hL : L.length ≤ 140737488351232) (hb : ∀ x ∈ L, x < 256) :
    Calls Try.prog 16 #[.slice A L.length c] w (NewPost w L) := by
  have HAT := Lib.hid hat; clear hat
  go_enter Try.func16, Try.ntmps16
  go_wp2_with fail
  refine (clone_any A L.length c L w rfl hL HAT.out).mono ?_
  rintro en w1 ⟨⟨v, rfl, hown⟩, hb1⟩
  obtain ⟨A1, c1, rfl, hc1, -, hat1⟩ := own_bytes hown
  have hcm := own_cap hown
  have HAT1 := Lib.hid hat1; clear hat1
  have HB1 := Lib.hid hb1; clear hb1
  clear hown
  go_wp2_with fail
  refine (wire.borrow_any A1 c1 L w1 HAT1.out hc1 hcm hb).mono ?_
  rintro en w2 ⟨r, rfl, hrd, hr, hb2⟩
  have HRD := Lib.hid hrd; clear hrd
  have HB2 := Lib.hid hb2; clear hb2
  go_wp2
  go_ret
  exact ⟨r, rfl, HRD.out, Nat.le_trans HB1.out.size hr, HB1.out.trans (HB2.out.mono HB1.out.size)⟩
theorem wire.new_at (A : Option Addr) (m c : Nat) (L : List Nat) (w : World) (hl : L.length = m) (hat : At w A m (byteAt L)) (hL : m ≤ 140737488351232) (hb : ∀ x ∈ L, x < 256) :
    Calls Try.prog 16 #[.slice A m c] w (NewPost w L) := by
  subst hl
  exact wire.new_any A c L w hat hL hb
end Go.Proofs.Ytgkocnnkknodhaa

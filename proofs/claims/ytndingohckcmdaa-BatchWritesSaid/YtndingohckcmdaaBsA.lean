/- batch: Same, record by record. -/
import Derived.Test.YtndingohckcmdaaBtG
import Derived.Test.YtndingohckcmdaaConv
namespace Go.Proofs.Ytndingohckcmdaa
open Go.RowKit

theorem text_ne5 {a b : ByteArray} (h : a ≠ b) : (a.toList == b.toList) = false := by
  rw [Bool.eq_false_iff]
  intro e
  rw [beq_iff_eq, ByteArray.toList_eq, ByteArray.toList_eq] at e
  exact h (ByteArray.ext (Array.ext' e))
set_option maxRecDepth 20000 in
theorem bytes.equal_any (A : Option Addr) (c : Nat) (L : List Nat) (B : Option Addr) (d : Nat) (M : List Nat) (w : World) (ha : At w A L.length (byteAt L)) (hb : At w B M.length (byteAt M)) :
    Calls Try.prog 71 #[.slice A L.length c, .slice B M.length d] w fun e w' => e = .returned (.bool (decide (strOf L = strOf M))) ∧ w = w' := by
  have hc1 := conv_any (P := Try.prog) (c := c) Try.underlying27 Try.underlying5 Try.underlying9 L rfl ha
  have hc2 := conv_any (P := Try.prog) (c := d) Try.underlying27 Try.underlying5 Try.underlying9 M rfl hb
  obtain ⟨s1, hs1⟩ : ∃ s1, s1 = strOf L := ⟨_, rfl⟩
  obtain ⟨s2, hs2⟩ : ∃ s2, s2 = strOf M := ⟨_, rfl⟩
  rw [← hs1] at hc1 ⊢
  rw [← hs2] at hc2 ⊢
  clear hs1 hs2
  by_cases h : s1 = s2
  · rw [decide_eq_true h]
    subst h
    go_enter Try.func71, Try.ntmps71
    go_wp2
    go_ret
    exact ⟨rfl, rfl⟩
  · rw [decide_eq_false h]
    have hs1 : (s1.toList == s2.toList) = false := text_ne5 h
    go_enter Try.func71, Try.ntmps71
    go_wp2
    go_ret
    exact ⟨rfl, rfl⟩

/-- The same record? -/
def Rec.Same (r s : Rec) : Prop := r.off = s.off ∧ r.time = s.time ∧ r.hasKey = s.hasKey ∧ strOf r.key = strOf s.key ∧ r.hasVal = s.hasVal ∧ strOf r.val = strOf s.val
instance (r s : Rec) : Decidable (r.Same s) := by unfold Rec.Same; infer_instance
theorem Rec.Same.symm {r s : Rec} (h : r.Same s) : s.Same r := by
  obtain ⟨h1, h2, h3, h4, h5, h6⟩ := h
  exact ⟨h1.symm, h2.symm, h3.symm, h4.symm, h5.symm, h6.symm⟩
theorem same_no {r s : Rec} (h : ¬ r.Same s) : Ending.returned (.bool false) = Ending.returned (.bool (decide (r.Same s))) := by rw [decide_eq_false h]
theorem same_yes {r s : Rec} (h : r.Same s) : Ending.returned (.bool true) = Ending.returned (.bool (decide (r.Same s))) := by rw [decide_eq_true h]
theorem two_boxes {w : World} (a b : Obj) : Below w.heap.size w ((w.alloc a).alloc b) :=
  have h := (Below.refl w.heap.size w).alloc (Nat.le_refl _) a
  h.alloc h.size b

set_option maxRecDepth 20000 in
set_option maxHeartbeats 4000000 in
theorem bat.samerec_any (r s : Rec) (Ak : Option Addr) (ck : Nat) (Av : Option Addr) (cv : Nat) (Bk : Option Addr) (dk : Nat) (Bv : Option Addr) (dv : Nat) (w : World)
    (h1 : At w Ak r.key.length (byteAt r.key)) (h2 : At w Av r.val.length (byteAt r.val)) (h3 : At w Bk s.key.length (byteAt s.key)) (h4 : At w Bv s.val.length (byteAt s.val)) :
    Calls Try.prog 47 #[r.hval Ak ck Av cv, s.hval Bk dk Bv dv] w fun e w' => e = .returned (.bool (decide (r.Same s))) ∧ Below w.heap.size w w' := by
  have H := Lib.hid (And.intro (And.intro h1 h2) (And.intro h3 h4)); clear h1 h2 h3 h4
  have hno : ¬ r.Same s → Ending.returned (.bool false) = Ending.returned (.bool (decide (r.Same s))) := same_no
  have hyes : r.Same s → Ending.returned (.bool true) = Ending.returned (.bool (decide (r.Same s))) := same_yes
  have HNO := Lib.hid hno; clear hno
  have HYES := Lib.hid hyes; clear hyes
  have hk := fun wx (h : Below w.heap.size w wx) => bytes.equal_any Ak ck r.key Bk dk s.key wx (H.out.1.1.below h (Nat.le_refl _)) (H.out.2.1.below h (Nat.le_refl _))
  have hv := fun wx (h : Below w.heap.size w wx) => bytes.equal_any Av cv r.val Bv dv s.val wx (H.out.1.2.below h (Nat.le_refl _)) (H.out.2.2.below h (Nat.le_refl _))
  have HK := Lib.hid hk; clear hk
  have HV := Lib.hid hv; clear hv
  obtain ⟨ro, rt, rhk, rk, rhv, rv⟩ := r
  obtain ⟨so, st, shk, sk, shv, sv⟩ := s
  unfold Rec.hval at *
  dsimp only at *
  go_enter Try.func47, Try.ntmps47
  by_cases e0 : ro = so
  · by_cases e1 : rt = st
    · by_cases e2 : rhk = shk
      · subst e0 e1 e2
        by_cases e3 : strOf rk = strOf sk
        · by_cases e4 : rhv = shv
          · subst e4
            go_wp2_with fail
            refine (HK.out _ (two_boxes _ _)).mono ?_
            rw [decide_eq_true e3]
            rintro e wx ⟨rfl, rfl⟩
            go_wp2_with fail
            refine (HV.out _ (two_boxes _ _)).mono ?_
            rintro e wx ⟨rfl, rfl⟩
            by_cases e5 : strOf rv = strOf sv
            · rw [decide_eq_true e5]
              go_wp2
              go_ret
              exact ⟨HYES.out ⟨rfl, rfl, rfl, e3, rfl, e5⟩, two_boxes _ _⟩
            · rw [decide_eq_false e5]
              go_wp2
              go_ret
              exact ⟨HNO.out fun h => e5 h.2.2.2.2.2, two_boxes _ _⟩
          · go_wp2_with fail
            refine (HK.out _ (two_boxes _ _)).mono ?_
            rw [decide_eq_true e3]
            rintro e wx ⟨rfl, rfl⟩
            go_wp2
            go_ret
            exact ⟨HNO.out fun h => e4 h.2.2.2.2.1, two_boxes _ _⟩
        · go_wp2_with fail
          refine (HK.out _ (two_boxes _ _)).mono ?_
          rw [decide_eq_false e3]
          rintro e wx ⟨rfl, rfl⟩
          go_wp2
          go_ret
          exact ⟨HNO.out fun h => e3 h.2.2.2.1, two_boxes _ _⟩
      · go_wp2
        go_ret
        exact ⟨HNO.out fun h => e2 h.2.2.1, two_boxes _ _⟩
    · go_wp2
      go_ret
      exact ⟨HNO.out fun h => e1 h.2.1, two_boxes _ _⟩
  · go_wp2
    go_ret
    exact ⟨HNO.out fun h => e0 h.1, two_boxes _ _⟩

set_option maxRecDepth 20000 in
set_option maxHeartbeats 4000000 in
theorem ref.samerec_any (r s : Rec) (Ak : Option Addr) (ck : Nat) (Av : Option Addr) (cv : Nat) (Bk : Option Addr) (dk : Nat) (Bv : Option Addr) (dv : Nat) (w : World)
    (h1 : At w Ak r.key.length (byteAt r.key)) (h2 : At w Av r.val.length (byteAt r.val)) (h3 : At w Bk s.key.length (byteAt s.key)) (h4 : At w Bv s.val.length (byteAt s.val)) :
    Calls Try.prog 76 #[r.hval Ak ck Av cv, s.hval Bk dk Bv dv] w fun e w' => e = .returned (.bool (decide (r.Same s))) ∧ Below w.heap.size w w' := by
  obtain ⟨D, hD⟩ : ∃ D : Bool, D = decide (r.Same s) := ⟨_, rfl⟩
  rw [← hD]
  have hb := two_boxes (w := w) (.cells #[.int .i64 r.off, .int .i64 r.time, .bool r.hasKey, .slice Ak r.key.length ck, .bool r.hasVal, .slice Av r.val.length cv] 62) (.cells #[.int .i64 s.off, .int .i64 s.time, .bool s.hasKey, .slice Bk s.key.length dk, .bool s.hasVal, .slice Bv s.val.length dv] 62)
  have hc1 := conv_any (P := Try.prog) (c := ck) Try.underlying27 Try.underlying5 Try.underlying9 r.key rfl (h1.below hb (Nat.le_refl _))
  have hc2 := conv_any (P := Try.prog) (c := dk) Try.underlying27 Try.underlying5 Try.underlying9 s.key rfl (h3.below hb (Nat.le_refl _))
  have hc3 := conv_any (P := Try.prog) (c := cv) Try.underlying27 Try.underlying5 Try.underlying9 r.val rfl (h2.below hb (Nat.le_refl _))
  have hc4 := conv_any (P := Try.prog) (c := dv) Try.underlying27 Try.underlying5 Try.underlying9 s.val rfl (h4.below hb (Nat.le_refl _))
  clear hb h1 h2 h3 h4
  obtain ⟨ro, rt, rhk, rk, rhv, rv⟩ := r
  obtain ⟨so, st, shk, sk, shv, sv⟩ := s
  unfold Rec.hval at *
  dsimp only at *
  obtain ⟨k1, hk1⟩ : ∃ k1, k1 = strOf rk := ⟨_, rfl⟩
  obtain ⟨k2, hk2⟩ : ∃ k2, k2 = strOf sk := ⟨_, rfl⟩
  obtain ⟨v1, hv1⟩ : ∃ v1, v1 = strOf rv := ⟨_, rfl⟩
  obtain ⟨v2, hv2⟩ : ∃ v2, v2 = strOf sv := ⟨_, rfl⟩
  have hno : ¬ (ro = so ∧ rt = st ∧ rhk = shk ∧ k1 = k2 ∧ rhv = shv ∧ v1 = v2) → Ending.returned (.bool false) = Ending.returned (.bool D) := by
    rw [hD, hk1, hk2, hv1, hv2]; exact fun h => same_no (r := ⟨ro, rt, rhk, rk, rhv, rv⟩) (s := ⟨so, st, shk, sk, shv, sv⟩) h
  have hyes : (ro = so ∧ rt = st ∧ rhk = shk ∧ k1 = k2 ∧ rhv = shv ∧ v1 = v2) → Ending.returned (.bool true) = Ending.returned (.bool D) := by
    rw [hD, hk1, hk2, hv1, hv2]; exact fun h => same_yes (r := ⟨ro, rt, rhk, rk, rhv, rv⟩) (s := ⟨so, st, shk, sk, shv, sv⟩) h
  have HNO := Lib.hid hno; clear hno
  have HYES := Lib.hid hyes; clear hyes
  rw [← hk1] at hc1
  rw [← hk2] at hc2
  rw [← hv1] at hc3
  rw [← hv2] at hc4
  clear hk1 hk2 hv1 hv2 hD
  go_enter Try.func76, Try.ntmps76
  by_cases e0 : ro = so
  · by_cases e1 : rt = st
    · by_cases e2 : rhk = shk
      · by_cases e4 : rhv = shv
        · subst e0 e1 e2 e4
          by_cases e3 : k1 = k2
          · subst e3
            by_cases e5 : v1 = v2
            · subst e5
              go_wp2
              go_ret
              exact ⟨HYES.out (by simp), two_boxes _ _⟩
            · have n5 := text_ne5 e5
              go_wp2
              go_ret
              exact ⟨HNO.out fun h => e5 h.2.2.2.2.2, two_boxes _ _⟩
          · have n3 := text_ne5 e3
            go_wp2
            go_ret
            exact ⟨HNO.out fun h => e3 h.2.2.2.1, two_boxes _ _⟩
        · go_wp2
          go_ret
          exact ⟨HNO.out fun h => e4 h.2.2.2.2.1, two_boxes _ _⟩
      · go_wp2
        go_ret
        exact ⟨HNO.out fun h => e2 h.2.2.1, two_boxes _ _⟩
    · go_wp2
      go_ret
      exact ⟨HNO.out fun h => e1 h.2.1, two_boxes _ _⟩
  · go_wp2
    go_ret
    exact ⟨HNO.out fun h => e0 h.1, two_boxes _ _⟩
end Go.Proofs.Ytndingohckcmdaa

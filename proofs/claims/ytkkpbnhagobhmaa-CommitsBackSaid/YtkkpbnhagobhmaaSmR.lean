/- Records and batches compared: the document's SameRecord, SameRecords and Same (cordwainref1), bytes.Equal. -/
import Derived.BigQuiet
import Derived.Deep.QuietTactic
import Derived.Test.YtkkpbnhagobhmaaBats
import Derived.Test.YtkkpbnhagobhmaaConv
import Derived.Test.YtkkpbnhagobhmaaPlanC
namespace Go.Proofs.Ytkkpbnhagobhmaa
open Go.RowKit

def Rec.sval (r : Rec) (Ak : Option Addr) (ck : Nat) (Av : Option Addr) (cv : Nat) : Value := .agg #[.int .i64 r.off, .int .i64 r.time, .bool r.hasKey, .slice Ak r.key.length ck, .bool r.hasVal, .slice Av r.val.length cv]
def Bat.sval (b : Bat) (A : Option Addr) (n c : Nat) : Value := .agg #[.int .i64 b.base, .int .i64 b.last, .int .i64 b.prod, .int .i64 b.epoch, .int .i64 b.seq, .slice A n c]
theorem text_ne5 {a b : ByteArray} (h : a ≠ b) : (a.toList == b.toList) = false := by
  rw [Bool.eq_false_iff]
  intro e
  rw [beq_iff_eq, ByteArray.toList_eq, ByteArray.toList_eq] at e
  exact h (ByteArray.ext (Array.ext' e))
/-- The same record? -/
def Rec.Same (r s : Rec) : Prop := r.off = s.off ∧ r.time = s.time ∧ r.hasKey = s.hasKey ∧ strOf r.key = strOf s.key ∧ r.hasVal = s.hasVal ∧ strOf r.val = strOf s.val
instance (r s : Rec) : Decidable (r.Same s) := by unfold Rec.Same; infer_instance
theorem Rec.Same.symm {r s : Rec} (h : r.Same s) : s.Same r := by
  obtain ⟨h1, h2, h3, h4, h5, h6⟩ := h
  exact ⟨h1.symm, h2.symm, h3.symm, h4.symm, h5.symm, h6.symm⟩
theorem same_no {r s : Rec} (h : ¬ r.Same s) : Ending.returned (.bool false) = Ending.returned (.bool (decide (r.Same s))) := by rw [decide_eq_false h]
theorem same_yes {r s : Rec} (h : r.Same s) : Ending.returned (.bool true) = Ending.returned (.bool (decide (r.Same s))) := by rw [decide_eq_true h]
theorem two_boxes {w : World} (a b : Obj) : Below w.heap.size w ((w.alloc a).alloc b) :=
  have h := (Below.refl w.heap.size w).alloc (Nat.le_refl _) a
  h.alloc h.size b

set_option maxRecDepth 20000 in
set_option maxHeartbeats 4000000 in
theorem ref.samerec_any (r s : Rec) (Ak : Option Addr) (ck : Nat) (Av : Option Addr) (cv : Nat) (Bk : Option Addr) (dk : Nat) (Bv : Option Addr) (dv : Nat) (w : World)
    (h1 : At w Ak r.key.length (byteAt r.key)) (h2 : At w Av r.val.length (byteAt r.val)) (h3 : At w Bk s.key.length (byteAt s.key)) (h4 : At w Bv s.val.length (byteAt s.val)) :
    Calls Try.prog 27 #[r.sval Ak ck Av cv, s.sval Bk dk Bv dv] w fun e w' => e = .returned (.bool (decide (r.Same s))) ∧ Below w.heap.size w w' := by
  obtain ⟨D, hD⟩ : ∃ D : Bool, D = decide (r.Same s) := ⟨_, rfl⟩
  rw [← hD]
  have hb := two_boxes (w := w) (.cells #[.int .i64 r.off, .int .i64 r.time, .bool r.hasKey, .slice Ak r.key.length ck, .bool r.hasVal, .slice Av r.val.length cv] 37) (.cells #[.int .i64 s.off, .int .i64 s.time, .bool s.hasKey, .slice Bk s.key.length dk, .bool s.hasVal, .slice Bv s.val.length dv] 37)
  have hc1 := conv_any (P := Try.prog) (c := ck) Try.underlying35 Try.underlying5 Try.underlying9 r.key rfl (h1.below hb (Nat.le_refl _))
  have hc2 := conv_any (P := Try.prog) (c := dk) Try.underlying35 Try.underlying5 Try.underlying9 s.key rfl (h3.below hb (Nat.le_refl _))
  have hc3 := conv_any (P := Try.prog) (c := cv) Try.underlying35 Try.underlying5 Try.underlying9 r.val rfl (h2.below hb (Nat.le_refl _))
  have hc4 := conv_any (P := Try.prog) (c := dv) Try.underlying35 Try.underlying5 Try.underlying9 s.val rfl (h4.below hb (Nat.le_refl _))
  clear hb h1 h2 h3 h4
  obtain ⟨ro, rt, rhk, rk, rhv, rv⟩ := r
  obtain ⟨so, st, shk, sk, shv, sv⟩ := s
  unfold Rec.sval at *
  dsimp only at *
  obtain ⟨k1, hk1⟩ : ∃ k1, k1 = strOf rk := ⟨_, rfl⟩
  obtain ⟨k2, hk2⟩ : ∃ k2, k2 = strOf sk := ⟨_, rfl⟩
  obtain ⟨v1, hv1⟩ : ∃ v1, v1 = strOf rv := ⟨_, rfl⟩
  obtain ⟨v2, hv2⟩ : ∃ v2, v2 = strOf sv := ⟨_, rfl⟩
  have hno : ¬ (ro = so ∧ rt = st ∧ rhk = shk ∧ k1 = k2 ∧ rhv = shv ∧ v1 = v2) → Ending.returned (.bool false) = Ending.returned (.bool D) := by
    rw [hD, hk1, hk2, hv1, hv2]; exact fun h => same_no (r := ⟨ro, rt, rhk, rk, rhv, rv⟩) (s := ⟨so, st, shk, sk, shv, sv⟩) h
  have hyes : (ro = so ∧ rt = st ∧ rhk = shk ∧ k1 = k2 ∧ rhv = shv ∧ v1 = v2) → Ending.returned (.bool true) = Ending.returned (.bool D) := by
    rw [hD, hk1, hk2, hv1, hv2]; exact fun h => same_yes (r := ⟨ro, rt, rhk, rk, rhv, rv⟩) (s := ⟨so, st, shk, sk, shv, sv⟩) h
  have HNO := Lib.hid hno; clear hno
  have HYES := Lib.hid hyes; clear hyes
  rw [← hk1] at hc1
  rw [← hk2] at hc2
  rw [← hv1] at hc3
  rw [← hv2] at hc4
  clear hk1 hk2 hv1 hv2 hD
  go_enter Try.func27, Try.ntmps27
  by_cases e0 : ro = so
  · by_cases e1 : rt = st
    · by_cases e2 : rhk = shk
      · by_cases e4 : rhv = shv
        · subst e0 e1 e2 e4
          by_cases e3 : k1 = k2
          · subst e3
            by_cases e5 : v1 = v2
            · subst e5
              go_wp2
              go_ret
              exact ⟨HYES.out (by simp), two_boxes _ _⟩
            · have n5 := text_ne5 e5
              go_wp2
              go_ret
              exact ⟨HNO.out fun h => e5 h.2.2.2.2.2, two_boxes _ _⟩
          · have n3 := text_ne5 e3
            go_wp2
            go_ret
            exact ⟨HNO.out fun h => e3 h.2.2.2.1, two_boxes _ _⟩
        · go_wp2
          go_ret
          exact ⟨HNO.out fun h => e4 h.2.2.2.2.1, two_boxes _ _⟩
      · go_wp2
        go_ret
        exact ⟨HNO.out fun h => e2 h.2.2.1, two_boxes _ _⟩
    · go_wp2
      go_ret
      exact ⟨HNO.out fun h => e1 h.2.1, two_boxes _ _⟩
  · go_wp2
    go_ret
    exact ⟨HNO.out fun h => e0 h.1, two_boxes _ _⟩

def recsSame : List Rec → List Rec → Bool
  | [], [] => true
  | r :: rs, s :: ss => decide (r.Same s) && recsSame rs ss
  | _, _ => false
theorem recsSame_len : ∀ (rs ss : List Rec), rs.length ≠ ss.length → recsSame rs ss = false
  | [], [], h => absurd rfl h
  | [], _ :: _, _ => rfl
  | _ :: _, [], _ => rfl
  | r :: rs, s :: ss, h => by
    have h : rs.length ≠ ss.length := fun e => h (by simp [e])
    show (decide (r.Same s) && recsSame rs ss) = false
    rw [recsSame_len rs ss h, Bool.and_false]
theorem recsSame_comm : ∀ (rs ss : List Rec), recsSame rs ss = recsSame ss rs
  | [], [] => rfl
  | [], _ :: _ => rfl
  | _ :: _, [] => rfl
  | r :: rs, s :: ss => by
    show (decide (r.Same s) && recsSame rs ss) = (decide (s.Same r) && recsSame ss rs)
    rw [recsSame_comm rs ss, show decide (r.Same s) = decide (s.Same r) from decide_eq_decide.2 ⟨Rec.Same.symm, Rec.Same.symm⟩]
theorem recsSame_drop {rs ss : List Rec} {j : Nat} {r s : Rec} (hr : rs[j]? = some r) (hs : ss[j]? = some s) :
    recsSame (rs.drop j) (ss.drop j) = (decide (r.Same s) && recsSame (rs.drop (j + 1)) (ss.drop (j + 1))) := by
  obtain ⟨h1, h2⟩ := List.getElem?_eq_some_iff.1 hr
  obtain ⟨h3, h4⟩ := List.getElem?_eq_some_iff.1 hs
  rw [List.drop_eq_getElem_cons h1, List.drop_eq_getElem_cons h3, h2, h4]
  rfl

def Bat.heads (a b : Bat) : Prop := a.base = b.base ∧ a.last = b.last ∧ a.prod = b.prod ∧ a.epoch = b.epoch ∧ a.seq = b.seq
instance (a b : Bat) : Decidable (a.heads b) := by unfold Bat.heads; infer_instance
def Bat.same (a b : Bat) : Bool := decide (a.heads b) && recsSame a.recs b.recs
theorem Bat.same_comm (a b : Bat) : a.same b = b.same a := by
  unfold Bat.same
  rw [recsSame_comm a.recs b.recs, show decide (a.heads b) = decide (b.heads a) from decide_eq_decide.2 ⟨fun ⟨h1, h2, h3, h4, h5⟩ => ⟨h1.symm, h2.symm, h3.symm, h4.symm, h5.symm⟩, fun ⟨h1, h2, h3, h4, h5⟩ => ⟨h1.symm, h2.symm, h3.symm, h4.symm, h5.symm⟩⟩]

end Go.Proofs.Ytkkpbnhagobhmaa

/- Records and batches compared: the document's SameRecord, SameRecords and Same (cordwainref1), bytes.Equal. -/
import Derived.BigQuiet
import Derived.Deep.QuietTactic
import Derived.Test.YthffkbcjidbdaaaBats
import Derived.Test.YthffkbcjidbdaaaConv
import Derived.Test.YthffkbcjidbdaaaPlanC
namespace Go.Proofs.Ythffkbcjidbdaaa
open Go.RowKit

def Rec.sval (r : Rec) (Ak : Option Addr) (ck : Nat) (Av : Option Addr) (cv : Nat) : Value := .agg #[.int .i64 r.off, .int .i64 r.time, .bool r.hasKey, .slice Ak r.key.length ck, .bool r.hasVal, .slice Av r.val.length cv]
def Bat.sval (b : Bat) (A : Option Addr) (n c : Nat) : Value := .agg #[.int .i64 b.base, .int .i64 b.last, .int .i64 b.prod, .int .i64 b.epoch, .int .i64 b.seq, .slice A n c]
theorem text_ne5 {a b : ByteArray} (h : a ≠ b) : (a.toList == b.toList) = false := by
  rw [Bool.eq_false_iff]
  intro e
  rw [beq_iff_eq, ByteArray.toList_eq, ByteArray.toList_eq] at e
  exact h (ByteArray.ext (Array.ext' e))
/-- The same record? -/
def Rec.Same (r s : Rec) : Prop := r.off = s.off ∧ r.time = s.time ∧ r.hasKey = s.hasKey ∧ strOf r.key = strOf s.key ∧ r.hasVal = s.hasVal ∧ strOf r.val = strOf s.val
instance (r s : Rec) : Decidable (r.Same s) := by unfold Rec.Same; infer_instance
theorem Rec.Same.symm {r s : Rec} (h : r.Same s) : s.Same r := by
  obtain ⟨h1, h2, h3, h4, h5, h6⟩ := h
  exact ⟨h1.symm, h2.symm, h3.symm, h4.symm, h5.symm, h6.symm⟩
theorem same_no {r s : Rec} (h : ¬ r.Same s) : Ending.returned (.bool false) = Ending.returned (.bool (decide (r.Same s))) := by rw [decide_eq_false h]
theorem same_yes {r s : Rec} (h : r.Same s) : Ending.returned (.bool true) = Ending.returned (.bool (decide (r.Same s))) := by rw [decide_eq_true h]
theorem two_boxes {w : World} (a b : Obj) : Below w.heap.size w ((w.alloc a).alloc b) :=
  have h := (Below.refl w.heap.size w).alloc (Nat.le_refl _) a
  h.alloc h.size b

def recsSame : List Rec → List Rec → Bool
  | [], [] => true
  | r :: rs, s :: ss => decide (r.Same s) && recsSame rs ss
  | _, _ => false
theorem recsSame_len : ∀ (rs ss : List Rec), rs.length ≠ ss.length → recsSame rs ss = false
  | [], [], h => absurd rfl h
  | [], _ :: _, _ => rfl
  | _ :: _, [], _ => rfl
  | r :: rs, s :: ss, h => by
    have h : rs.length ≠ ss.length := fun e => h (by simp [e])
    show (decide (r.Same s) && recsSame rs ss) = false
    rw [recsSame_len rs ss h, Bool.and_false]
theorem recsSame_comm : ∀ (rs ss : List Rec), recsSame rs ss = recsSame ss rs
  | [], [] => rfl
  | [], _ :: _ => rfl
  | _ :: _, [] => rfl
  | r :: rs, s :: ss => by
    show (decide (r.Same s) && recsSame rs ss) = (decide (s.Same r) && recsSame ss rs)
    rw [recsSame_comm rs ss, show decide (r.Same s) = decide (s.Same r) from decide_eq_decide.2 ⟨Rec.Same.symm, Rec.Same.symm⟩]
theorem recsSame_drop {rs ss : List Rec} {j : Nat} {r s : Rec} (hr : rs[j]? = some r) (hs : ss[j]? = some s) :
    recsSame (rs.drop j) (ss.drop j) = (decide (r.Same s) && recsSame (rs.drop (j + 1)) (ss.drop (j + 1))) := by
  obtain ⟨h1, h2⟩ := List.getElem?_eq_some_iff.1 hr
  obtain ⟨h3, h4⟩ := List.getElem?_eq_some_iff.1 hs
  rw [List.drop_eq_getElem_cons h1, List.drop_eq_getElem_cons h3, h2, h4]
  rfl

def Bat.heads (a b : Bat) : Prop := a.base = b.base ∧ a.last = b.last ∧ a.prod = b.prod ∧ a.epoch = b.epoch ∧ a.seq = b.seq
instance (a b : Bat) : Decidable (a.heads b) := by unfold Bat.heads; infer_instance
def Bat.same (a b : Bat) : Bool := decide (a.heads b) && recsSame a.recs b.recs
theorem Bat.same_comm (a b : Bat) : a.same b = b.same a := by
  unfold Bat.same
  rw [recsSame_comm a.recs b.recs, show decide (a.heads b) = decide (b.heads a) from decide_eq_decide.2 ⟨fun ⟨h1, h2, h3, h4, h5⟩ => ⟨h1.symm, h2.symm, h3.symm, h4.symm, h5.symm⟩, fun ⟨h1, h2, h3, h4, h5⟩ => ⟨h1.symm, h2.symm, h3.symm, h4.symm, h5.symm⟩⟩]

end Go.Proofs.Ythffkbcjidbdaaa

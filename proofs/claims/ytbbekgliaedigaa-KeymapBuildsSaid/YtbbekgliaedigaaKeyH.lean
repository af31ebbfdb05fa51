/- The walk of the law KeymapGreatest: it answers true, whatever the input. -/
import Derived.Test.YtbbekgliaedigaaKeyG
namespace Go.Proofs.Ytbbekgliaedigaa
open Go.RowKit Go.Maps

theorem text_ne {a b : ByteArray} (h : a ≠ b) : (a.toList == b.toList) = false := by
  rw [Bool.eq_false_iff]
  intro e
  rw [beq_iff_eq, ByteArray.toList_eq, ByteArray.toList_eq] at e
  exact h (ByteArray.ext (Array.ext' e))
def KHRel (w : World) (p b n : Nat) (xs : List KStep) (k : Nat) (wr : World) : Prop := ∃ N, N ≤ n - k ∧ KM wr p b 2000 N (gOf (xs.drop k)) ∧ Below w.heap.size w wr
theorem KHRel.next {w wr w2 : World} {p b n k N : Nat} {xs : List KStep} (hk : k + 1 ≤ n) (hl : xs.length = n) (hN : N ≤ n - (k + 1)) (hn : n ≤ 1000) (hb : Below w.heap.size w wr) (h : KM w2 p b 2000 (key.cnt N 2000 (gOf (xs.drop (k + 1))) (strOf (xs[k]'(by omega)).key)) (key.put N 2000 (gOf (xs.drop (k + 1))) (strOf (xs[k]'(by omega)).key) (xs[k]'(by omega)).off))
    (hc : Chg wr w2 (fun j => j = b)) (hwb : w.heap.size ≤ b) : KHRel w p b n xs k w2 := by
  have hle := key.cnt_le N 2000 (gOf (xs.drop (k + 1))) (strOf (xs[k]'(by omega)).key)
  rw [key.put_max _ _ _ _ _ (by omega), ← gOf_drop] at h
  exact ⟨_, by omega, h, hb.trans (hc.below hb.size fun j hj => by omega)⟩

end Go.Proofs.Ytbbekgliaedigaa

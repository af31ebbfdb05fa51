/- Contract of cordwainalike.Sum, of numbers from 0 on. -/
import Derived.Test.YtchdolcnhopmjaaProg
import Derived.Test.YtchdolcnhopmjaaApp2
import Derived.WalkLawsBesides
import Derived.Outline
namespace Go.Proofs.Ytchdolcnhopmjaa
open Go.RowKit

def alike.sum (n : Int) (xs : List Int) : Int := min (n + xs.sum) 1099511627776
theorem sum_pos {xs : List Int} (h : ∀ x ∈ xs, 0 ≤ x) : 0 ≤ xs.sum := by
  induction xs with
  | nil => simp
  | cons x xs ih =>
    have := ih fun y hy => h y (by simp [hy])
    have := h x (by simp)
    rw [List.sum_cons]; omega
theorem sum_take (xs : List Int) (k : Nat) (h : k < xs.length) : (xs.take (k + 1)).sum = (xs.take k).sum + xs.getD k 0 := by
  rw [List.take_succ_eq_append_getElem h, List.sum_append]; simp [List.getD, List.getElem?_eq_getElem h]
theorem sum_split (xs : List Int) (k : Nat) : xs.sum = (xs.take k).sum + (xs.drop k).sum := by
  rw [← List.sum_append, List.take_append_drop]

end Go.Proofs.Ytchdolcnhopmjaa

/- Contracts of cordwainalike.Batch and Batches: what batches weigh. -/
import Derived.Test.YtchdolcnhopmjaaPlanC
import Derived.Test.YtchdolcnhopmjaaBats
import Derived.Test.YtchdolcnhopmjaaAlikeB
namespace Go.Proofs.Ytchdolcnhopmjaa
open Go.RowKit

def Rec.weight (r : Rec) : Int := 1 + (r.key.length : Int) + r.val.length
/-- A batch's weight. -/
def Bat.weight (b : Bat) : Int := min (1 + (b.recs.map Rec.weight).sum) 1099511627776
theorem Rec.weight_pos (r : Rec) : 1 ≤ r.weight := by unfold Rec.weight; omega
theorem weights_ge (rs : List Rec) : (rs.length : Int) ≤ (rs.map Rec.weight).sum := by
  induction rs with
  | nil => simp
  | cons r rs ih =>
    have := r.weight_pos
    simp only [List.map_cons, List.sum_cons, List.length_cons]
    omega
theorem weights_take (rs : List Rec) (k : Nat) (r : Rec) (h : rs[k]? = some r) : ((rs.take (k + 1)).map Rec.weight).sum = ((rs.take k).map Rec.weight).sum + r.weight := by
  obtain ⟨hk, rfl⟩ := List.getElem?_eq_some_iff.1 h
  rw [List.take_succ_eq_append_getElem hk, List.map_append, List.sum_append]
  simp
theorem weights_take_le (rs : List Rec) (k : Nat) : 0 ≤ ((rs.take k).map Rec.weight).sum := by
  have := weights_ge (rs.take k)
  omega
theorem Bat.weight_le (b : Bat) : b.weight ≤ 1099511627776 := by unfold Bat.weight; omega
theorem Bat.weight_pos (b : Bat) : 1 ≤ b.weight := by
  have := weights_ge b.recs
  unfold Bat.weight
  omega
theorem Bat.weight_small {b : Bat} {n : Int} (h : b.weight ≤ n) (hn : n < 1099511627776) : (b.recs.length : Int) < n := by
  have := weights_ge b.recs
  unfold Bat.weight at h
  omega

theorem alike.sum3 (n a b c : Int) : alike.sum n [a, b, c] = min (n + (a + b + c)) 1099511627776 := by
  unfold alike.sum
  simp only [List.sum_cons, List.sum_nil]
  omega

end Go.Proofs.Ytchdolcnhopmjaa

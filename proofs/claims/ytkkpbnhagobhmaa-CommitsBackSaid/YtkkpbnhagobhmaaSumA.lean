/- cordwainalike.Sum of any numbers from 0 on. -/
import Derived.Test.YtkkpbnhagobhmaaAlikeB
namespace Go.Proofs.Ytkkpbnhagobhmaa
open Go.RowKit
set_option maxRecDepth 20000
theorem alike.at_ints (w : World) (zs : List Int) (t : TypeId) : At (w.alloc (.cells (zs.map fun z => Value.int .i64 z).toArray t)) (some ⟨w.heap.size, 0, none⟩) zs.length (fun j => .int .i64 (zs.getD j 0)) :=
  (At.new w (zs.map fun z => Value.int .i64 z).toArray t (fr := (0, 0)) (n := zs.length) (by simp)).congr fun j hj => by
    simp [List.getD, List.getElem?_map, List.getElem?_eq_getElem hj]
set_option maxHeartbeats 800000 in
theorem alike.sum_over (n : Int) (A : Option Addr) (m c : Nat) (w : World) (hn : 1099511627776 < n) (hm : 0 < m) (hm2 : m ≤ 1000) :
    Calls Try.prog 8 #[.int .i64 n, .slice A m c] w fun e w' => e = .returned (.int .i64 1099511627776) ∧ w = w' := by
  have d0 : decide (1099511627776 < n) = true := decide_eq_true hn
  have hm' : (0 : Int) < (m : Int) := by omega
  go_enter Try.func8, Try.ntmps8
  go_wp2
  go_loopw [0, 5] (fun x i wr => x = .int .i64 n ∧ i = .int .i64 0 ∧ w = wr) (fun _ i _ => m - (intOf i).toNat)
  case atStart => exact ⟨rfl, rfl, rfl⟩
  case round =>
    obtain ⟨rfl, rfl, rfl⟩ := hrel
    go_wp2
    go_ret
    exact ⟨rfl, rfl⟩
theorem alike.sum_all (n : Int) (A : Option Addr) (m c : Nat) (xs : List Int) (w : World) (hn : 0 ≤ n) (hm0 : 0 < m) (hm : m ≤ 1000) (hl : xs.length = m) (hat : At w A m (fun j => .int .i64 (xs.getD j 0))) (hp : ∀ x ∈ xs, 0 ≤ x ∧ x ≤ 9223372036854775807) :
    Calls Try.prog 8 #[.int .i64 n, .slice A m c] w fun e w' => e = .returned (.int .i64 (alike.sum n xs)) ∧ w = w' := by
  by_cases h : n ≤ 1099511627776
  · exact alike.sum_any n A m c xs w hn h hm hl hat hp
  · rw [show alike.sum n xs = 1099511627776 by
      have := sum_pos (xs := xs) fun x hx => (hp x hx).1
      unfold alike.sum
      omega]
    exact alike.sum_over n A m c w (by omega) hm0 hm
end Go.Proofs.Ytkkpbnhagobhmaa

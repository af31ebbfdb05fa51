/- Contracts of the reference of chapter 1 (cordwainref1): Zig, Zag, Put. -/
import Derived.Test.YtgkocnnkknodhaaNumC
namespace Go.Proofs.Ytgkocnnkknodhaa
open Go.RowKit

set_option maxRecDepth 20000 in
set_option maxHeartbeats 400000 in
theorem num.refzag_any (u : Int) (w : World) (h1 : 0 ≤ u) (h2 : u ≤ 18446744073709551615) :
    Calls Try.prog 77 #[.int .u64 u] w fun e w' => e = .returned (.int .i64 (num.zag u)) ∧ w = w' := by
  by_cases h : u % 2 = 1
  · have d : (u % 2 == 1) = true := by simpa using h
    have e : num.zag u = -(u / 2) - 1 := by unfold num.zag; rw [if_neg (by omega)]
    go_enter Try.func77, Try.ntmps77
    go_wp2
    go_ret
    exact ⟨ret_num (by first | rfl | omega | rw [e]), rfl⟩
  · have d : (u % 2 == 1) = false := by simpa using h
    have e : num.zag u = u / 2 := by unfold num.zag; rw [if_pos (by omega)]
    go_enter Try.func77, Try.ntmps77
    go_wp2
    go_ret
    exact ⟨ret_num (by first | rfl | omega | rw [e]), rfl⟩

end Go.Proofs.Ytgkocnnkknodhaa

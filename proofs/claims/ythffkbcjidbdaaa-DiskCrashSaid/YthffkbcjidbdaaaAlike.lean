/- Contract of cordwainalike.Round. -/
import Derived.Test.YthffkbcjidbdaaaProg
import Derived.Test.YthffkbcjidbdaaaKit
import Derived.WalkLawsBesides
import Derived.Outline
namespace Go.Proofs.Ythffkbcjidbdaaa
open Go.RowKit

set_option maxHeartbeats 400000 in
theorem round_any (k n : Int) (w : World) (hk : -9223372036854775808 ≤ k ∧ k ≤ 9223372036854775807) (hn : 0 < n) (hn2 : n ≤ 1099511627776) :
    Calls Try.prog 31 #[.int .i64 k, .int .i64 n] w fun e w' => (∃ r : Nat, e = .returned (.int .i64 r) ∧ (r : Int) < n) ∧ w = w' := by
  obtain ⟨k1, k2⟩ := hk
  have h1 := Int.tmod_lt_of_pos k hn
  have h2 : -n < k.tmod n := by
    have := Int.tmod_lt_of_pos (-k) hn
    rw [Int.neg_tmod] at this; omega
  have hne : n ≠ 0 := by omega
  go_enter Try.func31, Try.ntmps31
  go_wp2
  · go_ret
    exact ⟨⟨(k.tmod n + n).toNat, ret_num (by omega), by omega⟩, rfl⟩
  · go_ret
    exact ⟨⟨(k.tmod n).toNat, ret_num (by omega), by omega⟩, rfl⟩
end Go.Proofs.Ythffkbcjidbdaaa

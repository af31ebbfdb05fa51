/- The walk of the law RetainRolls: it answers true, whatever the input. -/
import Derived.Test.YtfkfamifgockgaaRetW
namespace Go.Proofs.Ytfkfamifgockgaa
open Go.RowKit

theorem ret.rolls_say (bytes more most first age now : Int) :
    ret.rolls bytes first most age now more = (decide (0 < bytes) && (decide (most < bytes + more) || (decide (0 < age) && decide (age < now - first)))) := by
  unfold ret.rolls
  by_cases h0 : bytes ≤ 0
  · rw [if_pos h0, decide_eq_false (show ¬ 0 < bytes by omega)]; rfl
  · rw [if_neg h0, decide_eq_true (show 0 < bytes by omega)]
    by_cases h1 : most < bytes + more
    · simp [h1]
    · simp [h1, Bool.decide_and]

set_option maxHeartbeats 1000000 in
theorem ret.lawRolls (bytes more most first age now : Int) (w : World) :
    Calls Try.prog 8 #[.int .i64 bytes, .int .i64 more, .int .i64 most, .int .i64 first, .int .i64 age, .int .i64 now] w fun e w' => e = .returned (.bool true) ∧ Below w.heap.size w w' := by
  by_cases hin : (0 ≤ bytes ∧ bytes ≤ 1099511627776) ∧ (0 ≤ more ∧ more ≤ 1099511627776) ∧ (0 ≤ most ∧ most ≤ 1099511627776) ∧ (0 ≤ first ∧ first ≤ 1099511627776) ∧ (0 ≤ age ∧ age ≤ 1099511627776) ∧ (0 ≤ now ∧ now ≤ 1099511627776)
  · obtain ⟨⟨a1, a2⟩, ⟨b1, b2⟩, ⟨c1, c2⟩, ⟨d1, d2⟩, ⟨e1, e2⟩, f1, f2⟩ := hin
    have hs := ret.rolls_say bytes more most first age now
    have HS := Lib.hid hs; clear hs
    go_enter Try.func8, Try.ntmps8
    go_wp2_with fail
    refine (ret.rolls_any _ _ _ _ _ _ _ _ _ _ _ _ _ _ _ _ w (by omega) (by omega) (by omega) (by omega) (by omega) (by omega) (by omega) (by omega) (by omega) (by omega) (by omega)).mono ?_
    rintro e w1 ⟨rfl, hb1⟩
    rw [HS.out]
    go_wp2_with fail
    all_goals
      refine (ret.awake_any _).mono ?_
      rintro e w2 ⟨rfl, hb2⟩
      go_wp2
      go_ret
      exact ⟨rfl, hb1.trans (hb2.mono hb1.size)⟩
  · go_enter Try.func8, Try.ntmps8
    go_wp2_with (go_at_call 21; refine (ret.awake_any _).mono ?_; rintro e w' ⟨rfl, hb⟩)
    all_goals first | (exfalso; omega) | (go_ret; exact ⟨rfl, by assumption⟩)
end Go.Proofs.Ytfkfamifgockgaa

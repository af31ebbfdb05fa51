/- Contracts of the functions of package retain: held, Older, Rolls. -/
import Derived.Test.YtmkjknlhamggnaaProg
import Derived.WalkKit
import Derived.WalkLawsBesides
import Derived.Deep.QuietTactic
import Derived.BigQuiet
import Derived.IntWalk
import Derived.Outline
import Derived.Lib.Hide
import Derived.Handy
namespace Go.Proofs.Ytmkjknlhamggnaa
open Go.RowKit

def ret.held (n : Int) : Int := min (max n 0) 1125899906842624

set_option maxHeartbeats 400000 in
set_option linter.unusedVariables false in
theorem ret.held_any (n : Int) (w : World) :
    Calls Try.prog 43 #[.int .i64 n] w fun e w' => e = .returned (.int .i64 (ret.held n)) ∧ w = w' := by
  unfold ret.held
  go_enter Try.func43, Try.ntmps43
  go_wp2
  all_goals
    go_ret
    refine ⟨?_, rfl⟩
    show Ending.returned (Value.int IntKind.i64 _) = _
    congr 2
    omega

set_option maxHeartbeats 400000 in
theorem ret.older_any (t n a : Int) (w : World) (ht : 0 ≤ t) (ht' : t ≤ 9223372036854775807) (hn : 0 ≤ n) (hn' : n ≤ 9223372036854775807) (ha : 0 < a) (ha' : a ≤ 9223372036854775807) :
    Calls Try.prog 39 #[.int .i64 t, .int .i64 n, .int .i64 a] w fun e w' => e = .returned (.bool (decide (a < n - t))) ∧ w = w' := by
  have h0 : ¬ a < 0 := by omega
  have h0' : decide (a < 0) = false := by simpa using h0
  by_cases hlt : n < t
  · have hd : decide (a < n - t) = false := by simp; omega
    have Hd := Lib.hid hd; clear hd
    go_enter Try.func39, Try.ntmps39
    go_wp2
    go_ret
    exact ⟨by rw [Hd.out]; rfl, rfl⟩
  · go_enter Try.func39, Try.ntmps39
    go_wp2
    go_ret
    exact ⟨rfl, rfl⟩

def ret.rolls (bytes first sb sa now more : Int) : Bool :=
  if bytes ≤ 0 then false else if sb < bytes + more then true else decide (0 < sa ∧ sa < now - first)

set_option maxHeartbeats 400000 in
set_option linter.unusedVariables false in
theorem ret.rolls_any (x0 x1 bytes first x4 sb sa c2 c3 c4 : Int) (c5 c8 : Bool) (c6 c7 now more : Int) (w : World)
    (hb : bytes ≤ 1125899906842624) (hf : 0 ≤ first) (hf' : first ≤ 1125899906842624) (hn : 0 ≤ now) (hn' : now ≤ 1125899906842624) (hm : 0 ≤ more) (hm' : more ≤ 1125899906842624)
    (hs : -9223372036854775808 ≤ sb) (hs' : sb ≤ 9223372036854775807) (ha : -9223372036854775808 ≤ sa) (ha' : sa ≤ 9223372036854775807) :
    Calls Try.prog 24 #[.agg #[.int .i64 x0, .int .i64 x1, .int .i64 bytes, .int .i64 first, .int .i64 x4],
      .agg #[.int .i64 sb, .int .i64 sa, .int .i64 c2, .int .i64 c3, .int .i64 c4, .bool c5, .int .i64 c6, .int .i64 c7, .bool c8], .int .i64 now, .int .i64 more] w
      fun e w' => e = .returned (.bool (ret.rolls bytes first sb sa now more)) ∧ Below w.heap.size w w' := by
  by_cases h0 : bytes ≤ 0
  · have hr : ret.rolls bytes first sb sa now more = false := by simp [ret.rolls, h0]
    have Hr := Lib.hid hr; clear hr
    go_enter Try.func24, Try.ntmps24
    go_wp2
    go_ret
    refine ⟨by rw [Hr.out]; rfl, ?_⟩
    go_grown
  · by_cases h1 : sb < bytes + more
    · have hr : ret.rolls bytes first sb sa now more = true := by simp [ret.rolls, h0, h1]
      have Hr := Lib.hid hr; clear hr
      go_enter Try.func24, Try.ntmps24
      go_wp2
      all_goals
        go_ret
        refine ⟨by rw [Hr.out]; rfl, ?_⟩
        go_grown
    · by_cases h2 : 0 < sa
      · have hr : ret.rolls bytes first sb sa now more = decide (sa < now - first) := by simp [ret.rolls, h0, h1, h2]
        have Hr := Lib.hid hr; clear hr
        go_enter Try.func24, Try.ntmps24
        go_wp2_with (go_at_call 39; refine (ret.older_any _ _ _ _ (by omega) (by omega) (by omega) (by omega) (by omega) (by omega)).mono ?_; rintro e w' ⟨rfl, rfl⟩)
        all_goals
          go_ret
          refine ⟨by rw [Hr.out]; rfl, ?_⟩
          go_grown
      · have hr : ret.rolls bytes first sb sa now more = false := by simp [ret.rolls, h0, h1, h2]
        have Hr := Lib.hid hr; clear hr
        go_enter Try.func24, Try.ntmps24
        go_wp2
        all_goals
          go_ret
          refine ⟨by rw [Hr.out]; rfl, ?_⟩
          go_grown
end Go.Proofs.Ytmkjknlhamggnaa

/- Contracts of the reference of chapter 11 (cordwainref10): older, Rolls, TrimInfos. -/
import Derived.Test.YtmkjknlhamggnaaRetE
import Derived.Test.YtmkjknlhamggnaaRetW
namespace Go.Proofs.Ytmkjknlhamggnaa
open Go.RowKit

set_option maxHeartbeats 400000 in
theorem ret.refolder_any (n t a : Int) (w : World) (ht : 0 ≤ t) (ht' : t ≤ 1125899906842624) (hn : 0 ≤ n) (hn' : n ≤ 1125899906842624) :
    Calls Try.prog 40 #[.int .i64 n, .int .i64 t, .int .i64 a] w fun e w' => e = .returned (.bool (decide (t < n) && decide (a < n - t))) ∧ w = w' := by
  have d0 : decide (t < 0) = false := by simpa using ht
  by_cases h : t < n
  · have d1 : decide (t < n) = true := by simpa using h
    go_enter Try.func40, Try.ntmps40
    go_wp2
    go_ret
    exact ⟨by first | rfl | (rw [d1]; rfl), rfl⟩
  · have d1 : decide (t < n) = false := by simpa using h
    go_enter Try.func40, Try.ntmps40
    go_wp2
    go_ret
    exact ⟨by first | rfl | (rw [d1]; rfl), rfl⟩

theorem ret.older_say (n t a : Int) (ha : 0 < a) : (decide (t < n) && decide (a < n - t)) = decide (a < n - t) := by
  by_cases h : a < n - t
  · rw [decide_eq_true h, decide_eq_true (show t < n by omega)]; rfl
  · rw [decide_eq_false h]; simp

set_option maxHeartbeats 800000 in
set_option linter.unusedVariables false in
theorem ret.refrolls_any (x0 x1 bytes first x4 sb sa c2 c3 c4 : Int) (c5 c8 : Bool) (c6 c7 now more : Int) (w : World)
    (hb : bytes ≤ 1125899906842624) (hf : 0 ≤ first) (hf' : first ≤ 1125899906842624) (hn : 0 ≤ now) (hn' : now ≤ 1125899906842624) (hm : 0 ≤ more) (hm' : more ≤ 1125899906842624) :
    Calls Try.prog 25 #[.agg #[.int .i64 x0, .int .i64 x1, .int .i64 bytes, .int .i64 first, .int .i64 x4],
      .agg #[.int .i64 sb, .int .i64 sa, .int .i64 c2, .int .i64 c3, .int .i64 c4, .bool c5, .int .i64 c6, .int .i64 c7, .bool c8], .int .i64 now, .int .i64 more] w
      fun e w' => e = .returned (.bool (ret.rolls bytes first sb sa now more)) ∧ Below w.heap.size w w' := by
  by_cases h0 : bytes ≤ 0
  · have hr : ret.rolls bytes first sb sa now more = false := by simp [ret.rolls, h0]
    have Hr := Lib.hid hr; clear hr
    have d0 : decide (0 < bytes) = false := by simpa using h0
    go_enter Try.func25, Try.ntmps25
    go_wp2
    go_ret
    refine ⟨by rw [Hr.out]; rfl, ?_⟩
    go_grown
  · have d0 : decide (0 < bytes) = true := by simp; omega
    by_cases h1 : sb < bytes + more
    · have hr : ret.rolls bytes first sb sa now more = true := by simp [ret.rolls, h0, h1]
      have Hr := Lib.hid hr; clear hr
      go_enter Try.func25, Try.ntmps25
      go_wp2
      all_goals
        go_ret
        refine ⟨by rw [Hr.out]; rfl, ?_⟩
        go_grown
    · by_cases h2 : 0 < sa
      · have hr : ret.rolls bytes first sb sa now more = (decide (first < now) && decide (sa < now - first)) := by rw [ret.older_say _ _ _ h2]; simp [ret.rolls, h0, h1, h2]
        have Hr := Lib.hid hr; clear hr
        go_enter Try.func25, Try.ntmps25
        go_wp2_with (go_at_call 40; refine (ret.refolder_any _ _ _ _ (by omega) (by omega) (by omega) (by omega)).mono ?_; rintro e w' ⟨rfl, rfl⟩)
        all_goals
          go_ret
          refine ⟨by rw [Hr.out]; rfl, ?_⟩
          go_grown
      · have hr : ret.rolls bytes first sb sa now more = false := by simp [ret.rolls, h0, h1, h2]
        have Hr := Lib.hid hr; clear hr
        go_enter Try.func25, Try.ntmps25
        go_wp2
        all_goals
          go_ret
          refine ⟨by rw [Hr.out]; rfl, ?_⟩
          go_grown

theorem ret.trimIs_one {nx : Nat → Int} {n : Nat} {start : Int} {a b : Nat} (ha : ret.TrimIs nx n start a) (hb : ret.TrimIs nx n start b) : a = b := by
  obtain ⟨a1, a2, a3⟩ := ha
  obtain ⟨b1, b2, b3⟩ := hb
  rcases Nat.lt_trichotomy a b with h | h | h
  · have := b2 a h; have := a3 (by omega); omega
  · exact h
  · have := a2 b h; have := b3 (by omega); omega
theorem ret.frontIs_one {f : Nat → Nat → Int} {n : Nat} {kb ka now : Int} {a b : Nat} (ha : ret.FrontIs f n kb ka now a) (hb : ret.FrontIs f n kb ka now b) : a = b := by
  obtain ⟨a1, a2, a3⟩ := ha
  obtain ⟨b1, b2, b3⟩ := hb
  rcases Nat.lt_trichotomy a b with h | h | h
  · have := b2 a h; rw [a3 (by omega)] at this; cases this
  · exact h
  · have := a2 b h; rw [b3 (by omega)] at this; cases this

set_option maxHeartbeats 400000 in
theorem ret.reftrim_any (A : Option Addr) (n c : Nat) (V : Nat → Value) (nx : Nat → Int) (start : Int) (w : World) (hn : n ≤ 17592186044416) (hat : At w A (n * 5) V) (hV : ∀ i, i < n → V (i * 5 + 1) = .int .i64 (nx i)) :
    Calls Try.prog 29 #[.slice A n c, .int .i64 start] w fun e w' => (∃ k : Nat, e = .returned (.int .i64 k) ∧ ret.TrimIs nx n start k) ∧ w = w' := by
  have HAT := Lib.hid hat; clear hat
  have HV := Lib.hid hV; clear hV
  go_enter Try.func29, Try.ntmps29
  go_wp2
  go_loop [5] (fun g => ∃ k : Nat, k ≤ n - 1 ∧ g = .int .i64 k ∧ (∀ j, j < k → nx j ≤ start)) (fun g => n - (intOf g).toNat)
  case atStart => exact ⟨0, by omega, rfl, fun j hj => absurd hj (by omega)⟩
  case round =>
    obtain ⟨k, hk, rfl, hle⟩ := hrel
    have HLE := Lib.hid hle; clear hle
    by_cases hlt : k + 1 < n
    · obtain ⟨b, off, rfl, hbb, hc⟩ := HAT.out (by omega)
      have hc1 : w.cell? ⟨b, off + k * 5 + 1, none⟩ = some (.int .i64 (nx k)) := by
        rw [Nat.add_assoc, hc _ (by omega), HV.out k (by omega)]
      clear hc
      have hi : (k : Int) + 1 < (n : Int) := by omega
      have hkn : k < n := by omega
      by_cases hgo : nx k ≤ start
      · go_wp2
        go_round
        case rel => exact ⟨k + 1, by omega, by go_num, le_step HLE.out hgo⟩
        case measure => simp [intOf]; omega
      · go_wp2
        go_ret
        exact ⟨⟨k, rfl, hk, HLE.out, fun _ => by omega⟩, rfl⟩
    · have hi : ¬ ((k : Int) + 1 < (n : Int)) := by omega
      go_wp2
      go_ret
      exact ⟨⟨k, rfl, hk, HLE.out, fun h => absurd h hlt⟩, rfl⟩
end Go.Proofs.Ytmkjknlhamggnaa

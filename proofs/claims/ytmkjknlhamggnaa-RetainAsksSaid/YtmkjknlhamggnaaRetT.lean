/- Contract of retain.Trim. -/
import Derived.Test.YtmkjknlhamggnaaRetB
namespace Go.Proofs.Ytmkjknlhamggnaa
open Go.RowKit

/-- k are the first ones that lie wholly behind a start. -/
def ret.TrimIs (nx : Nat → Int) (n : Nat) (start : Int) (k : Nat) : Prop :=
  k ≤ n - 1 ∧ (∀ j, j < k → nx j ≤ start) ∧ (k + 1 < n → start < nx k)

theorem le_step {p : Nat → Prop} {k : Nat} (h : ∀ j, j < k → p j) (hk : p k) : ∀ j, j < k + 1 → p j := fun j hj => by
  by_cases e : j = k
  · subst e; exact hk
  · exact h j (by omega)

set_option maxHeartbeats 400000 in
theorem ret.trim_any (A : Option Addr) (n c : Nat) (V : Nat → Value) (nx : Nat → Int) (start : Int) (w : World) (hn : n ≤ 17592186044416) (hat : At w A (n * 5) V) (hV : ∀ i, i < n → V (i * 5 + 1) = .int .i64 (nx i)) :
    Calls Try.prog 28 #[.slice A n c, .int .i64 start] w fun e w' => (∃ k : Nat, e = .returned (.int .i64 k) ∧ ret.TrimIs nx n start k) ∧ w = w' := by
  have HAT := Lib.hid hat; clear hat
  have HV := Lib.hid hV; clear hV
  go_enter Try.func28, Try.ntmps28
  go_wp2
  go_loop [5] (fun g => ∃ k : Nat, k ≤ n - 1 ∧ g = .int .i64 k ∧ (∀ j, j < k → nx j ≤ start)) (fun g => n - (intOf g).toNat)
  case atStart => exact ⟨0, by omega, rfl, fun j hj => absurd hj (by omega)⟩
  case round =>
    obtain ⟨k, hk, rfl, hle⟩ := hrel
    have HLE := Lib.hid hle; clear hle
    by_cases hlt : k + 1 < n
    · obtain ⟨b, off, rfl, hbb, hc⟩ := HAT.out (by omega)
      have hc1 : w.cell? ⟨b, off + k * 5 + 1, none⟩ = some (.int .i64 (nx k)) := by
        rw [Nat.add_assoc, hc _ (by omega), HV.out k (by omega)]
      clear hc
      have hi : (k : Int) < (n : Int) - 1 := by omega
      have hkn : k < n := by omega
      by_cases hgo : nx k ≤ start
      · go_wp2
        go_round
        case rel => exact ⟨k + 1, by omega, by go_num, le_step HLE.out hgo⟩
        case measure => simp [intOf]; omega
      · go_wp2
        go_ret
        exact ⟨⟨k, rfl, hk, HLE.out, fun _ => by omega⟩, rfl⟩
    · have hi : ¬ ((k : Int) < (n : Int) - 1) := by omega
      go_wp2
      go_ret
      exact ⟨⟨k, rfl, hk, HLE.out, fun h => absurd h hlt⟩, rfl⟩
end Go.Proofs.Ytmkjknlhamggnaa

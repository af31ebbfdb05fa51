/- Contract of wire.Writer's Fixed. -/
import Derived.Test.YtkkpbnhagobhmaaWrA
namespace Go.Proofs.Ytkkpbnhagobhmaa
open Go.RowKit

/-- May a number be written so? -/
def wire.fit (n size : Int) : Bool := decide (0 ≤ n) && decide (1 ≤ size) && decide (size ≤ 8) && (decide (size = 8) || decide (n < 2 ^ (8 * size.toNat)))
theorem fit_nat {n size : Int} (h : wire.fit n size = true) : 0 ≤ n ∧ 1 ≤ size ∧ size ≤ 8 := by
  unfold wire.fit at h
  simp only [Bool.and_eq_true, decide_eq_true_eq] at h
  omega
theorem wire.fit_no {n size : Int} (h : n < 0 ∨ size < 1 ∨ 8 < size) : wire.fit n size = false := by
  unfold wire.fit
  rw [Bool.eq_false_iff]
  intro hh
  simp only [Bool.and_eq_true, decide_eq_true_eq] at hh
  omega
/-- A number in so many bytes, the greatest first. -/
def wire.be (n : Nat) : Nat → List Nat
  | 0 => []
  | k + 1 => n / 256 ^ k % 256 :: wire.be n k
theorem wire.be_len (n k : Nat) : (wire.be n k).length = k := by
  induction k with
  | zero => rfl
  | succ k ih => simp [wire.be, ih]

theorem wire.be_byte (n : Nat) : ∀ k, ∀ d ∈ wire.be n k, d < 256
  | 0, d, h => by simp [wire.be] at h
  | k + 1, d, h => by
    simp only [wire.be, List.mem_cons] at h
    rcases h with rfl | h
    · omega
    · exact wire.be_byte n k d h

theorem wire.byte_shift (n k : Nat) : IntKind.u8.wrap ((n : Int) / 2 ^ (8 * (k : Int)).toNat) = ((n / 256 ^ k % 256 : Nat) : Int) := by
  have e : (8 * (k : Int)).toNat = 8 * k := by omega
  have e2 : ((2 : Int) ^ (8 * k)) = ((256 ^ k : Nat) : Int) := by
    rw [show (256 : Nat) = 2 ^ 8 by rfl, ← Nat.pow_mul]; push_cast; rfl
  rw [e, IntKind.wrap_u8, e2]
  exact (congrArg (fun z : Int => z % 256) (rfl : (n : Int) / ((256 ^ k : Nat) : Int) = ((n / 256 ^ k : Nat) : Int))).trans rfl
end Go.Proofs.Ytkkpbnhagobhmaa

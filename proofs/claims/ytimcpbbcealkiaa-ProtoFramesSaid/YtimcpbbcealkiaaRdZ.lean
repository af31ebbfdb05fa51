/- What Fixed reads of what Fixed wrote. -/
import Derived.Test.YtimcpbbcealkiaaRdY
import Derived.Test.YtimcpbbcealkiaaWrX
namespace Go.Proofs.Ytimcpbbcealkiaa
open Go.RowKit

theorem wire.valF_be (n : Nat) : ∀ (k acc : Nat), wire.valF acc (wire.be n k) = acc * 256 ^ k + n % 256 ^ k
  | 0, acc => by simp [wire.be, wire.valF, Nat.mod_one]
  | k + 1, acc => by
    have ih := wire.valF_be n k (acc * 256 + n / 256 ^ k % 256)
    show wire.valF (acc * 256 + n / 256 ^ k % 256) (wire.be n k) = _
    rw [ih, Nat.add_mul, Nat.mul_assoc, Nat.pow_succ, Nat.mul_comm (256 ^ k) 256, Nat.add_assoc]
    congr 1
    rw [Nat.mul_comm 256 (256 ^ k), Nat.mod_mul, Nat.add_comm, Nat.mul_comm (256 ^ k)]
theorem wire.val_be (n k : Nat) (h : n < 256 ^ k) : wire.val (wire.be n k) = n := by
  unfold wire.val
  rw [wire.valF_be, Nat.mod_eq_of_lt h]
  omega
theorem rd.fixed_be (n size : Nat) (R : List Nat) (hfit : wire.fit n size = true) (hn : (n : Int) ≤ 9223372036854775807) : rd.fixed (wire.be n size ++ R) 0 size = ((n : Int), R, (0 : Int)) := by
  obtain ⟨f0, f1, f2⟩ := fit_nat hfit
  have hl := wire.be_len n size
  have hlt : n < 256 ^ size := by
    have e : (256 : Nat) ^ size = 2 ^ (8 * size) := by rw [show (256 : Nat) = 2 ^ 8 by rfl, ← Nat.pow_mul]
    unfold wire.fit at hfit
    simp only [Bool.and_eq_true, Bool.or_eq_true, decide_eq_true_eq] at hfit
    rcases hfit.2 with h8 | h
    · have : size = 8 := by omega
      subst this
      omega
    · rw [e]
      rw [Int.toNat_natCast] at h
      have h2 : ((n : Nat) : Int) < ((2 ^ (8 * size) : Nat) : Int) := by push_cast; exact h
      omega
  have hb : ¬ rd.fbad (wire.be n size ++ R) size := by
    unfold rd.fbad
    rintro (h | h | h | ⟨h, h2⟩)
    · omega
    · omega
    · rw [List.length_append, hl] at h; omega
    · have h8 : size = 8 := by omega
      subst h8
      have e : (wire.be n 8 ++ R).getD 0 0 = n / 256 ^ 7 % 256 := by simp [wire.be]
      rw [e] at h2
      omega
  unfold rd.fixed
  rw [if_neg (by simp), if_neg hb, Int.toNat_natCast]
  have e1 : (wire.be n size ++ R).take size = wire.be n size := by rw [List.take_left' hl]
  have e2 : (wire.be n size ++ R).drop size = R := by rw [List.drop_left' hl]
  rw [e1, e2, wire.val_be n size hlt]
end Go.Proofs.Ytimcpbbcealkiaa

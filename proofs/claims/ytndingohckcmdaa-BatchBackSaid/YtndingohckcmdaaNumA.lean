/- Contracts of package num: Zig, Zag, width, Size. -/
import Derived.Test.YtndingohckcmdaaProg
import Derived.Test.YtndingohckcmdaaKit
import Derived.Test.YtndingohckcmdaaApp
import Derived.WalkLawsBesides
import Derived.Laws.BitsAllLaws
import Derived.Laws.BitsLemmas
import Derived.Outline
namespace Go.Proofs.Ytndingohckcmdaa
open Go.RowKit

def num.zig (n : Int) : Int := if 0 ≤ n then 2 * n else -2 * n - 1
def num.zag (u : Int) : Int := if u % 2 = 0 then u / 2 else -(u / 2) - 1

theorem num.ones : BitVec.ofInt 64 18446744073709551615 = BitVec.allOnes 64 := by decide
theorem num.ones' : BitVec.ofInt 64 (-1) = BitVec.allOnes 64 := by decide
theorem num.ofInt_nat (a : Nat) (ha : a < 18446744073709551616) : (BitVec.ofInt 64 (a : Int)).toNat = a := by
  rw [BitVec.ofInt_natCast, BitVec.toNat_ofNat]; exact Nat.mod_eq_of_lt (by omega)

theorem num.zig_eq (n : Int) (h1 : -9223372036854775808 ≤ n) (h2 : n ≤ 9223372036854775807) :
    bits .xor .u64 (IntKind.u64.wrap (IntKind.u64.wrap n * 2)) (IntKind.u64.wrap (n / 9223372036854775808)) = num.zig n := by
  unfold num.zig
  by_cases h : 0 ≤ n
  · rw [if_pos h, show n / 9223372036854775808 = 0 by omega]
    obtain ⟨m, rfl⟩ := Int.eq_ofNat_of_zero_le h
    rw [IntKind.wrap_u64, IntKind.wrap_u64, IntKind.wrap_u64, show ((m : Int) % 18446744073709551616 * 2) % 18446744073709551616 = ((2 * m : Nat) : Int) by omega, show ((0 : Int) % 18446744073709551616) = ((0 : Nat) : Int) by omega,
      bits_xor_u64_nat _ _ (by omega) (by omega), Nat.xor_zero]
    omega
  · rw [if_neg h, show n / 9223372036854775808 = -1 by omega]
    rw [IntKind.wrap_u64, IntKind.wrap_u64, IntKind.wrap_u64, show ((-1 : Int) % 18446744073709551616) = 18446744073709551615 by omega]
    have hx : (n % 18446744073709551616 * 2) % 18446744073709551616 = (((n % 18446744073709551616 * 2) % 18446744073709551616).toNat : Int) := by omega
    rw [hx]
    show IntKind.u64.wrap ((BitVec.ofInt 64 _ ^^^ BitVec.ofInt 64 18446744073709551615).toNat : Int) = _
    rw [num.ones, BitVec.xor_allOnes, BitVec.toNat_not, num.ofInt_nat _ (by omega), IntKind.wrap_u64]
    omega

theorem num.and1 (u : Int) (h1 : 0 ≤ u) (h2 : u ≤ 18446744073709551615) : bits .and .u64 u 1 = u % 2 :=
  bits_mask .u64 64 (by decide) (fun n h0 h => by rw [IntKind.wrap_u64]; omega) 1 (by decide) u h1 (by omega)

theorem num.zag_eq (u : Int) (h1 : 0 ≤ u) (h2 : u ≤ 18446744073709551615) :
    bits .xor .i64 (u / 2) (wrap64 (-wrap64 (bits .and .u64 u 1))) = num.zag u := by
  rw [num.and1 u h1 h2]
  unfold num.zag wrap64
  have hx : u / 2 = ((u / 2).toNat : Int) := by omega
  by_cases h : u % 2 = 0
  · rw [if_pos h, h, show (((-((0 + 9223372036854775808) % 18446744073709551616 - 9223372036854775808) + 9223372036854775808) % 18446744073709551616 - 9223372036854775808) : Int) = ((0 : Nat) : Int) by omega, hx]
    show IntKind.i64.wrap ((BitVec.ofInt 64 _ ^^^ BitVec.ofInt 64 _).toNat : Int) = _
    rw [BitVec.toNat_xor, num.ofInt_nat _ (by omega), num.ofInt_nat _ (by omega), Nat.xor_zero, IntKind.wrap_i64]
    omega
  · rw [if_neg h, show u % 2 = 1 by omega, show (((-((1 + 9223372036854775808) % 18446744073709551616 - 9223372036854775808) + 9223372036854775808) % 18446744073709551616 - 9223372036854775808) : Int) = -1 by omega, hx]
    show IntKind.i64.wrap ((BitVec.ofInt 64 _ ^^^ BitVec.ofInt 64 (-1)).toNat : Int) = _
    rw [num.ones', BitVec.xor_allOnes, BitVec.toNat_not, num.ofInt_nat _ (by omega), IntKind.wrap_i64]
    omega

theorem num.zig_bd (n : Int) (h1 : -9223372036854775808 ≤ n) (h2 : n ≤ 9223372036854775807) : 0 ≤ num.zig n ∧ num.zig n ≤ 18446744073709551615 := by unfold num.zig; split <;> omega
theorem num.zag_zig (n : Int) : num.zag (num.zig n) = n := by unfold num.zig num.zag; split <;> split <;> omega

set_option maxHeartbeats 400000 in
theorem num.zig_any (n : Int) (w : World) (h1 : -9223372036854775808 ≤ n) (h2 : n ≤ 9223372036854775807) :
    Calls Try.prog 78 #[.int .i64 n] w fun e w' => e = .returned (.int .u64 (num.zig n)) ∧ w = w' := by
  go_enter Try.func78, Try.ntmps78
  go_wp2
  go_ret
  exact ⟨ret_num (num.zig_eq n h1 h2), rfl⟩
set_option maxHeartbeats 400000 in
theorem num.zag_any (u : Int) (w : World) (h1 : 0 ≤ u) (h2 : u ≤ 18446744073709551615) :
    Calls Try.prog 87 #[.int .u64 u] w fun e w' => e = .returned (.int .i64 (num.zag u)) ∧ w = w' := by
  go_enter Try.func87, Try.ntmps87
  go_wp2
  go_ret
  exact ⟨ret_num (num.zag_eq u h1 h2), rfl⟩

/-- How many digits of seven bits, k more than one at most. -/
def num.wd : Nat → Nat → Nat
  | 0, _ => 1
  | k + 1, u => if u < 128 then 1 else num.wd k (u / 128) + 1
theorem num.wd_low (k u : Nat) (h : u < 128) : num.wd k u = 1 := by cases k <;> simp [num.wd, h]
theorem num.wd_up (k u : Nat) (h : ¬ u < 128) : num.wd (k + 1) u = num.wd k (u / 128) + 1 := by rw [num.wd, if_neg h]
theorem num.wd_le (k u : Nat) : 1 ≤ num.wd k u ∧ num.wd k u ≤ k + 1 := by
  induction k generalizing u with
  | zero => simp [num.wd]
  | succ k ih => rw [num.wd]; have := ih (u / 128); split <;> omega
theorem num.wd_mono (k a b : Nat) (h : a ≤ b) : num.wd k a ≤ num.wd k b := by
  induction k generalizing a b with
  | zero => simp [num.wd]
  | succ k ih =>
    have := ih (a / 128) (b / 128) (Nat.div_le_div_right h)
    have := num.wd_le k (b / 128)
    rw [num.wd, num.wd]; split <;> split <;> omega

/-- How many bytes a number has. -/
def num.wid (u : Nat) : Nat := num.wd 9 u
/-- The rounds of the loop over its digits: c is left, d bytes are counted. -/
def num.Rd (u k c d : Nat) : Prop := c < 2 * 128 ^ k ∧ d + num.wd k c = num.wid u + 1 ∧ d + k = 10
/-- What is left of a number stays small. -/
theorem num.less {u k : Nat} (h : u < 2 * 128 ^ k) (hu : ¬ u < 128) : ∃ k', k = k' + 1 ∧ u / 128 < 2 * 128 ^ k' := by
  cases k with
  | zero => simp at h; omega
  | succ k' => exact ⟨k', rfl, by rw [Nat.pow_succ] at h; omega⟩

set_option maxRecDepth 20000 in
set_option maxHeartbeats 400000 in
theorem num.width_any (x : Int) (w : World) (h0 : 0 ≤ x) (h : x ≤ 18446744073709551615) :
    Calls Try.prog 79 #[.int .u64 x] w fun e w' => e = .returned (.int .i64 (num.wid x.toNat : Nat)) ∧ w = w' := by
  obtain ⟨u, rfl⟩ := Int.eq_ofNat_of_zero_le h0
  rw [Int.toNat_natCast]
  go_enter Try.func79, Try.ntmps79
  go_wp2
  go_loop [0, 3] (fun x b => ∃ (k c d : Nat), num.Rd u k c d ∧ (c : Int) ≤ 18446744073709551615 ∧ d ≤ 10 ∧ x = .int .u64 (c : Int) ∧ b = .int .i64 (d : Int)) (fun x _ => (intOf x).toNat)
  case atStart => exact ⟨9, u, 1, ⟨by omega, by unfold num.wid; omega, rfl⟩, by omega, by omega, rfl, rfl⟩
  case round =>
    obtain ⟨k, c, d, ⟨hk, hw, hd⟩, hc, hd2, rfl, rfl⟩ := hrel
    have HK := Lib.hid hk; clear hk
    have HW := Lib.hid hw; clear hw
    have HD := Lib.hid hd; clear hd
    by_cases hlt : c < 128
    · have hc' : (c : Int) < 128 := by omega
      clear h h0
      clear hc
      have HLT := Lib.hid hlt; clear hlt
      go_wp2
      go_ret
      exact ⟨ret_num (by have := HW.out; rw [num.wd_low k c HLT.out] at this; omega), rfl⟩
    · have hc' : ¬ (c : Int) < 128 := by omega
      obtain ⟨k', hk', hl⟩ := num.less HK.out hlt
      have HK' := Lib.hid hk'; clear hk'
      have HL := Lib.hid hl; clear hl
      go_wp2
      go_round
      case rel =>
        have h3 := HD.out
        have h2 := HK'.out
        refine ⟨k', c / 128, d + 1, ⟨HL.out, ?_, by omega⟩, by omega, by omega, by go_num, by go_num⟩
        have h1 := HW.out; subst h2; rw [num.wd_up k' c hlt] at h1; omega
      case measure => simp [intOf]; omega

set_option maxHeartbeats 400000 in
theorem num.size_any (n : Int) (w : World) (h1 : -9223372036854775808 ≤ n) (h2 : n ≤ 9223372036854775807) :
    Calls Try.prog 62 #[.int .i64 n] w fun e w' => e = .returned (.int .i64 (num.wid (num.zig n).toNat : Nat)) ∧ w = w' := by
  have hz := num.zig_bd n h1 h2
  go_enter Try.func62, Try.ntmps62
  go_wp2_with fail
  refine (num.zig_any n w h1 h2).mono ?_
  rintro e w' ⟨rfl, rfl⟩
  go_wp2_with fail
  refine (num.width_any _ w hz.1 hz.2).mono ?_
  rintro e w' ⟨rfl, rfl⟩
  go_wp2
  go_ret
  exact ⟨rfl, rfl⟩

/-- The digits, the low ones first. -/
def num.dg : Nat → Nat → List Nat
  | 0, u => [u]
  | k + 1, u => if u < 128 then [u] else (u % 128 + 128) :: num.dg k (u / 128)
theorem num.dg_low (k u : Nat) (h : u < 128) : num.dg k u = [u] := by cases k <;> simp [num.dg, h]
theorem num.dg_up (k u : Nat) (h : ¬ u < 128) : num.dg (k + 1) u = (u % 128 + 128) :: num.dg k (u / 128) := by rw [num.dg, if_neg h]
theorem num.dg_len (k u : Nat) : (num.dg k u).length = num.wd k u := by
  induction k generalizing u with
  | zero => rfl
  | succ k ih => rw [num.dg, num.wd]; split <;> simp [ih]
end Go.Proofs.Ytndingohckcmdaa

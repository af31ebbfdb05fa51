/- What num.get says of what num.put wrote: plain numbers and lists. -/
import Derived.Test.YtndingohckcmdaaNumC
namespace Go.Proofs.Ytndingohckcmdaa
open Go.RowKit

theorem num.dg_pos (k u : Nat) : 0 < (num.dg k u).length := by rw [num.dg_len]; have := num.wd_le k u; omega

/-- Read on: the digits of u, from place i on. -/
theorem num.gt_dg (bs : Nat → Nat) (n : Nat) : ∀ (k i u acc : Nat), i + k = 9 → u < 2 * 128 ^ k → (u ≠ 0 ∨ i = 0) → (∀ j, j < (num.dg k u).length → bs (i + j) = (num.dg k u).getD j 0) → i + (num.dg k u).length ≤ n →
    num.gt bs n (10 - i) i acc = some (acc + u * 128 ^ i, i + (num.dg k u).length)
  | 0, i, u, acc, hi, hu, hz, hb, hn => by
    have h0 := hb 0 (by simp [num.dg])
    simp only [num.dg, List.getD_cons_zero, Nat.add_zero, List.length_cons, List.length_nil] at h0 hn ⊢
    obtain rfl : i = 9 := by omega
    have hu2 : u < 2 := by simpa using hu
    show num.gt bs n 1 9 acc = _
    rw [num.gt, h0, if_neg (by omega), if_neg (by omega), if_neg (by omega), if_neg (by omega), Nat.mod_eq_of_lt (by omega)]
  | k + 1, i, u, acc, hi, hu, hz, hb, hn => by
    rw [show 10 - i = (9 - i) + 1 by omega, num.gt]
    by_cases hlt : u < 128
    · rw [num.dg_low _ _ hlt] at hb hn ⊢
      have h0 := hb 0 (by simp)
      simp only [List.getD_cons_zero, Nat.add_zero, List.length_cons, List.length_nil] at h0 hn ⊢
      rw [h0, if_neg (by omega), if_neg (by omega), if_neg (by omega), if_neg (by omega), Nat.mod_eq_of_lt hlt]
    · rw [num.dg_up _ _ hlt] at hb hn ⊢
      have h0 := hb 0 (by simp)
      simp only [List.getD_cons_zero, Nat.add_zero, List.length_cons] at h0 hn ⊢
      have ih := num.gt_dg bs n k (i + 1) (u / 128) (acc + (u % 128 + 128) % 128 * 128 ^ i) (by omega) (by rw [Nat.pow_succ] at hu; omega) (by omega)
        (fun j hj => by have := hb (j + 1) (by simp; omega); simpa [Nat.add_assoc, Nat.add_comm 1] using this) (by omega)
      rw [h0, if_neg (by omega), if_neg (by omega), if_pos (by omega), show 9 - i = 10 - (i + 1) by omega, ih]
      have e : acc + (u % 128 + 128) % 128 * 128 ^ i + u / 128 * 128 ^ (i + 1) = acc + u * 128 ^ i := by
        rw [show (u % 128 + 128) % 128 = u % 128 by omega, Nat.pow_succ, Nat.mul_comm (128 ^ i) 128, ← Nat.mul_assoc, Nat.add_assoc, ← Nat.add_mul, show u % 128 + u / 128 * 128 = u by omega]
      rw [e]
      congr 2
      omega

/-- Cut short: none. -/
theorem num.gt_cut (bs : Nat → Nat) (n : Nat) : ∀ (k i u acc : Nat), i + k = 9 → (∀ j, j < (num.dg k u).length → i + j < n → bs (i + j) = (num.dg k u).getD j 0) → n < i + (num.dg k u).length → num.gt bs n (10 - i) i acc = none
  | 0, i, u, acc, hi, hb, hn => by
    simp only [num.dg, List.length_cons, List.length_nil] at hn
    rw [show 10 - i = (9 - i) + 1 by omega, num.gt, if_pos (by omega)]
  | k + 1, i, u, acc, hi, hb, hn => by
    rw [show 10 - i = (9 - i) + 1 by omega, num.gt]
    by_cases hin : n ≤ i
    · rw [if_pos hin]
    · by_cases hlt : u < 128
      · rw [num.dg_low _ _ hlt] at hn; simp at hn; omega
      · rw [num.dg_up _ _ hlt] at hb hn
        have h0 := hb 0 (by simp) (by omega)
        simp only [List.getD_cons_zero, Nat.add_zero, List.length_cons] at h0 hn
        rw [h0, if_neg (by omega), if_neg (by omega), if_pos (by omega), show 9 - i = 10 - (i + 1) by omega]
        exact num.gt_cut bs n k (i + 1) (u / 128) _ (by omega) (fun j hj hjn => by have := hb (j + 1) (by simp; omega) (by omega); simpa [Nat.add_assoc, Nat.add_comm 1] using this) (by omega)

/-- The last digit says that more comes, and a nought comes: none. -/
theorem num.gt_long (bs : Nat → Nat) (n : Nat) : ∀ (k i u acc : Nat), i + k = 9 → u < 2 * 128 ^ k → (∀ j, j + 1 < (num.dg k u).length → bs (i + j) = (num.dg k u).getD j 0) →
    bs (i + ((num.dg k u).length - 1)) = (num.dg k u).getD ((num.dg k u).length - 1) 0 % 128 + 128 → bs (i + (num.dg k u).length) = 0 → i + (num.dg k u).length < n → num.gt bs n (10 - i) i acc = none
  | 0, i, u, acc, hi, hu, hb, hl, hz, hn => by
    simp only [num.dg, List.length_cons, List.length_nil, Nat.zero_add, Nat.sub_self, List.getD_cons_zero, Nat.add_zero] at hl hz hn
    obtain rfl : i = 9 := by omega
    have hu2 : u < 2 := by simpa using hu
    show num.gt bs n 1 9 acc = _
    rw [num.gt, hl, if_neg (by omega), if_neg (by omega), if_pos (by omega)]
    rfl
  | k + 1, i, u, acc, hi, hu, hb, hl, hz, hn => by
    rw [show 10 - i = (9 - i) + 1 by omega, num.gt]
    by_cases hlt : u < 128
    · rw [num.dg_low _ _ hlt] at hb hl hz hn
      simp only [List.length_cons, List.length_nil, Nat.zero_add, Nat.sub_self, List.getD_cons_zero, Nat.add_zero] at hl hz hn
      rw [hl, if_neg (by omega), if_neg (by omega), if_pos (by omega), show 9 - i = (8 - i) + 1 by omega, num.gt, hz, if_neg (by omega), if_neg (by omega), if_neg (by omega), if_pos (by omega)]
    · have hd := num.dg_pos k (u / 128)
      rw [num.dg_up _ _ hlt] at hb hl hz hn
      have h0 := hb 0 (by simp; omega)
      simp only [List.getD_cons_zero, Nat.add_zero, List.length_cons] at h0 hn hz hl
      rw [h0, if_neg (by omega), if_neg (by omega), if_pos (by omega), show 9 - i = 10 - (i + 1) by omega]
      refine num.gt_long bs n k (i + 1) (u / 128) _ (by omega) (by rw [Nat.pow_succ] at hu; omega) (fun j hj => ?_) ?_ ?_ (by omega)
      · have := hb (j + 1) (by simp; omega); simpa [Nat.add_assoc, Nat.add_comm 1] using this
      · obtain ⟨q, hq⟩ : ∃ q, (num.dg k (u / 128)).length = q + 1 := ⟨_, (Nat.succ_pred_eq_of_pos hd).symm⟩
        rw [hq] at hl ⊢
        simp only [Nat.add_sub_cancel, List.getD_cons_succ] at hl ⊢
        rw [← hl]; congr 1; omega
      · rw [← hz]; congr 1; omega

theorem num.put_getD (n : Int) (j : Nat) : (num.put n).getD j 0 = (num.dg 9 (num.zig n).toNat).getD j 0 := rfl
theorem num.zig_small (n : Int) (h1 : -9223372036854775808 ≤ n) (h2 : n ≤ 9223372036854775807) : (num.zig n).toNat < 2 * 128 ^ 9 := by have := num.zig_bd n h1 h2; omega
theorem num.get_put (n : Int) (bs : Nat → Nat) (m : Nat) (h1 : -9223372036854775808 ≤ n) (h2 : n ≤ 9223372036854775807) (hb : ∀ j, j < (num.put n).length → bs j = (num.put n).getD j 0) (hm : (num.put n).length ≤ m) :
    num.res (num.get bs m) = .tuple #[.int .i64 n, .int .i64 ((num.put n).length : Nat), .int .i64 0] := by
  have h := num.gt_dg bs m 9 0 (num.zig n).toNat 0 rfl (num.zig_small n h1 h2) (.inr rfl) (fun j hj => by rw [Nat.zero_add]; exact hb j hj) (by rw [Nat.zero_add]; exact hm)
  unfold num.get
  rw [Nat.sub_zero] at h
  rw [h]
  have hz := num.zig_bd n h1 h2
  show Value.tuple #[.int .i64 (num.zag ((0 + (num.zig n).toNat * 128 ^ 0 : Nat) : Int)), .int .i64 ((0 + (num.dg 9 (num.zig n).toNat).length : Nat) : Int), .int .i64 0] = _
  rw [show ((0 + (num.zig n).toNat * 128 ^ 0 : Nat) : Int) = num.zig n by omega, num.zag_zig, Nat.zero_add]
  rfl
theorem num.get_cut (n : Int) (bs : Nat → Nat) (m : Nat) (hb : ∀ j, j < m → bs j = (num.put n).getD j 0) (hm : m < (num.put n).length) : num.get bs m = none :=
  num.gt_cut bs m 9 0 (num.zig n).toNat 0 rfl (fun j _ hjm => by rw [Nat.zero_add] at hjm ⊢; exact hb j hjm) (by rw [Nat.zero_add]; exact hm)
theorem num.get_long (n : Int) (bs : Nat → Nat) (m : Nat) (h1 : -9223372036854775808 ≤ n) (h2 : n ≤ 9223372036854775807) (hb : ∀ j, j + 1 < (num.put n).length → bs j = (num.put n).getD j 0)
    (hl : bs ((num.put n).length - 1) = (num.put n).getD ((num.put n).length - 1) 0 % 128 + 128) (hz : bs (num.put n).length = 0) (hm : (num.put n).length < m) : num.get bs m = none :=
  num.gt_long bs m 9 0 (num.zig n).toNat 0 rfl (num.zig_small n h1 h2) (fun j hj => by rw [Nat.zero_add]; exact hb j hj) (by rw [Nat.zero_add]; exact hl) (by rw [Nat.zero_add]; exact hz) (by rw [Nat.zero_add]; exact hm)
theorem num.dg_byte : ∀ (k u : Nat), u < 2 * 128 ^ k → ∀ x ∈ num.dg k u, x < 256
  | 0, u, hu, x, hx => by
    simp only [num.dg, List.mem_cons, List.not_mem_nil, or_false] at hx
    simp at hu; omega
  | k + 1, u, hu, x, hx => by
    by_cases h : u < 128
    · rw [num.dg_low _ _ h] at hx; simp at hx; omega
    · rw [num.dg_up _ _ h, List.mem_cons] at hx
      rcases hx with hx | hx
      · omega
      · exact num.dg_byte k (u / 128) (by rw [Nat.pow_succ] at hu; omega) x hx
theorem num.put_byte (n : Int) (h1 : -9223372036854775808 ≤ n) (h2 : n ≤ 9223372036854775807) : ∀ x ∈ num.put n, x < 256 := num.dg_byte 9 _ (num.zig_small n h1 h2)

/-- With whatever behind it. -/
theorem num.getL_put (n : Int) (Z : List Nat) (h1 : -9223372036854775808 ≤ n) (h2 : n ≤ 9223372036854775807) (k : Nat) (hk : k = (num.put n ++ Z).length) :
    num.res (num.get (fun j => (num.put n ++ Z).getD j 0) k) = .tuple #[.int .i64 n, .int .i64 ((num.put n).length : Nat), .int .i64 0] :=
  num.get_put n _ k h1 h2 (fun j hj => getD_left _ _ j hj) (by subst hk; simp)
/-- The number with its last byte marked. -/
def num.mark (L : List Nat) : List Nat := L.set (L.length - 1) (L.getD (L.length - 1) 0 % 128 + 128)
theorem num.mark_len (L : List Nat) : (num.mark L).length = L.length := by simp [num.mark]
theorem num.getL_long (n : Int) (h1 : -9223372036854775808 ≤ n) (h2 : n ≤ 9223372036854775807) (k : Nat) (hk : k = (num.put n).length + 1) :
    num.get (fun j => (num.mark (num.put n) ++ [0]).getD j 0) k = none := by
  have hb := num.put_bd n
  refine num.get_long n _ k h1 h2 (fun j hj => ?_) ?_ ?_ (by omega)
  · show (num.mark (num.put n) ++ [0]).getD j 0 = _
    rw [getD_left _ _ j (by rw [num.mark_len]; omega)]
    simp only [num.mark, List.getD]
    rw [List.getElem?_set_ne (by omega)]
  · show (num.mark (num.put n) ++ [0]).getD _ 0 = _
    rw [getD_left _ _ _ (by rw [num.mark_len]; omega)]
    have hlt : (num.put n).length - 1 < (num.put n).length := by omega
    simp only [num.mark, List.getD]
    rw [List.getElem?_set_self hlt]
    rfl
  · show (num.mark (num.put n) ++ [0]).getD _ 0 = _
    have := getD_right (num.mark (num.put n)) [0] 0
    rw [num.mark_len, Nat.add_zero] at this
    rw [this]; rfl
theorem num.mark_u8s (L : List Nat) : (u8s L).set (L.length - 1) (.int .u8 (((L.getD (L.length - 1) 0 : Nat) : Int) % 128 + 128)) = u8s (num.mark L) := by
  unfold u8s num.mark
  rw [List.map_set]
  congr 2
theorem num.mark_byte (L : List Nat) (h : ∀ x ∈ L, x < 256) : ∀ x ∈ num.mark L, x < 256 := by
  intro x hx
  rcases List.mem_or_eq_of_mem_set hx with h' | h'
  · exact h x h'
  · omega
end Go.Proofs.Ytndingohckcmdaa

/- Contract of num.Get. -/
import Derived.Test.YtndingohckcmdaaNumB
namespace Go.Proofs.Ytndingohckcmdaa
open Go.RowKit

/-- What bytes begin with: the number as it stands, and how many bytes it has. -/
def num.gt (bs : Nat → Nat) (n : Nat) : Nat → Nat → Nat → Option (Nat × Nat)
  | 0, _, _ => none
  | k + 1, i, u =>
    if n ≤ i then none
    else if i = 9 ∧ 1 < bs i % 128 then none
    else if 128 ≤ bs i then num.gt bs n k (i + 1) (u + bs i % 128 * 128 ^ i)
    else if bs i = 0 ∧ 0 < i then none
    else some (u + bs i % 128 * 128 ^ i, i + 1)
def num.get (bs : Nat → Nat) (n : Nat) : Option (Nat × Nat) := num.gt bs n 10 0 0
def num.res : Option (Nat × Nat) → Value
  | none => .tuple #[.int .i64 0, .int .i64 0, .int .i64 2]
  | some (u, k) => .tuple #[.int .i64 (num.zag u), .int .i64 (k : Int), .int .i64 0]

/-- bytes of a list, read -/
def num.getL (L : List Nat) : Option (Nat × Nat) := num.get (fun j => L.getD j 0) L.length
theorem num.and127 (y : Nat) (h : y < 256) : bits .and .u8 (y : Int) 127 = (y : Int) % 128 := by
  have : ∀ y : Fin 256, bits .and .u8 ((y.val : Nat) : Int) 127 = ((y.val : Nat) : Int) % 128 := by decide +kernel
  exact this ⟨y, h⟩

theorem num.top (u y k : Nat) (hu : u < 128 ^ k) (hk : k ≤ 9) (h : ¬ (k = 9 ∧ 1 < y % 128)) : y % 128 * 128 ^ k + u < 18446744073709551616 ∧ u + y % 128 * 128 ^ k < 2 * 128 ^ 9 := by
  by_cases e : k = 9
  · subst e
    have h1 : y % 128 ≤ 1 := by omega
    have : y % 128 * 128 ^ 9 ≤ 1 * 128 ^ 9 := Nat.mul_le_mul_right _ h1
    omega
  · have h1 : 128 ^ k ≤ 128 ^ 8 := Nat.pow_le_pow_right (by omega) (by omega)
    have h2 : y % 128 * 128 ^ k ≤ 127 * 128 ^ 8 := Nat.mul_le_mul (by omega) h1
    omega
theorem num.pow7 (k : Nat) : (2 : Nat) ^ (7 * k) = 128 ^ k := by rw [Nat.pow_mul]
theorem num.or_shift (u y k : Nat) (hu : u < 128 ^ k) (hk : k ≤ 9) (h : ¬ (k = 9 ∧ 1 < y % 128)) :
    bits .or .u64 (u : Int) (IntKind.u64.wrap ((y : Int) % 128 * 2 ^ (7 * k))) = ((u + y % 128 * 128 ^ k : Nat) : Int) := by
  obtain ⟨ht, _⟩ := num.top u y k hu hk h
  have e : ((y : Int) % 128 * 2 ^ (7 * k)) = ((y % 128 * 128 ^ k : Nat) : Int) := by
    rw [← num.pow7]; push_cast; rfl
  have e2 : IntKind.u64.wrap ((y % 128 * 128 ^ k : Nat) : Int) = ((y % 128 * 128 ^ k : Nat) : Int) := by rw [IntKind.wrap_u64]; omega
  rw [e, e2, bits_or_u64_nat _ _ (by omega) (by omega)]
  have hp := Nat.two_pow_add_eq_or_of_lt (i := 7 * k) (b := u) (by rw [num.pow7]; exact hu) (y % 128)
  rw [num.pow7, Nat.mul_comm (128 ^ k)] at hp
  rw [Nat.or_comm, ← hp, Nat.add_comm]

/-- The rounds: so many bytes are read, u is what they make. -/
def num.Gd (bs : Nat → Nat) (n i u : Nat) : Prop := u < 128 ^ i ∧ num.gt bs n (10 - i) i u = num.get bs n

set_option maxRecDepth 20000 in
set_option maxHeartbeats 1000000 in
theorem num.get_any (A : Option Addr) (n c : Nat) (bs : Nat → Nat) (w : World) (hn : n ≤ 9223372036854775807) (hat : At w A n (fun j => .int .u8 (bs j : Int))) (hbs : ∀ j, j < n → bs j < 256) :
    Calls Try.prog 86 #[.slice A n c] w fun e w' => e = .returned (num.res (num.get bs n)) ∧ w = w' := by
  have HAT := Lib.hid hat; clear hat
  have HBS := Lib.hid hbs; clear hbs
  by_cases hn10 : n ≤ 10
  all_goals
    go_enter Try.func86, Try.ntmps86
    go_wp2
    go_loop [5, 11] (fun x i => ∃ (k u : Nat), k ≤ n ∧ k ≤ 10 ∧ i = .int .i64 (k : Int) ∧ x = .int .u64 (u : Int) ∧ (u : Int) ≤ 18446744073709551615 ∧ num.Gd bs n k u) (fun _ i => 10 - (intOf i).toNat)
    case atStart => exact ⟨0, 0, by omega, by omega, rfl, rfl, by omega, by omega, rfl⟩
    case round =>
      obtain ⟨k, u, hkn, hk10, rfl, rfl, hu, hgd⟩ := hrel
      have HGD := Lib.hid hgd; clear hgd
      by_cases hlt : k < n ∧ k < 10
      · obtain ⟨l1, l2⟩ := hlt
        obtain ⟨b, off, rfl, hbb, hc⟩ := HAT.out (by omega)
        obtain ⟨y, hy⟩ : ∃ y, y = bs k := ⟨_, rfl⟩
        have hc1 : w.cell? ⟨b, off + k, none⟩ = some (.int .u8 (y : Int)) := by rw [hc k l1, hy]
        clear hc
        have hy2 : y < 256 := by rw [hy]; exact HBS.out k l1
        have HY := Lib.hid hy; clear hy
        have hand := num.and127 y hy2
        have hu0 : u < 128 ^ k := HGD.out.1
        have HU0 := Lib.hid hu0; clear hu0
        have hk9 : k ≤ 9 := by omega
        have hend : num.gt bs n (10 - k) k u = num.get bs n := HGD.out.2
        rw [show 10 - k = (9 - k) + 1 by omega, num.gt, if_neg (by omega), ← HY.out] at hend
        have HEND := Lib.hid hend; clear hend
        by_cases hbad : k = 9 ∧ 1 < y % 128
        · obtain ⟨e1, e2⟩ := hbad
          have hres : num.get bs n = none := by rw [← HEND.out, if_pos ⟨e1, e2⟩]
          have HRES := Lib.hid hres; clear hres
          have e1' : ((k : Int) == 9) = true := by simp; omega
          have e2' : (1 : Int) < (y : Int) % 128 := by omega
          clear e1 e2
          go_wp2
          go_ret3
          exact ⟨by rw [HRES.out]; rfl, rfl⟩
        · have hor := num.or_shift u y k HU0.out hk9 hbad
          obtain ⟨v, hv⟩ : ∃ v, v = u + y % 128 * 128 ^ k := ⟨_, rfl⟩
          rw [← hv] at hor
          have hv2 : (v : Int) ≤ 18446744073709551615 := by have := (num.top u y k HU0.out hk9 hbad).1; omega
          have hend2 : (if 128 ≤ y then num.gt bs n (9 - k) (k + 1) v else if y = 0 ∧ 0 < k then none else some (v, k + 1)) = num.get bs n := by
            rw [← HEND.out, if_neg hbad, hv]
          have hv3 : v < 128 ^ (k + 1) := by
            have h1 := HU0.out
            have h2 : y % 128 * 128 ^ k ≤ 127 * 128 ^ k := Nat.mul_le_mul_right _ (by omega)
            rw [Nat.pow_succ]; omega
          have HV3 := Lib.hid hv3; clear hv3
          have HV := Lib.hid hv; clear hv
          have HEND2 := Lib.hid hend2; clear hend2
          have hdig : ¬ ((k : Int) = 9 ∧ (1 : Int) < (y : Int) % 128) := by omega
          have HB := Lib.hid hbad; clear hbad
          by_cases h9 : k = 9
          · have h9' : ((k : Int) == 9) = true := by simp; omega
            have hd9 : ¬ (1 : Int) < (y : Int) % 128 := by omega
            clear hdig
            have H9 := Lib.hid h9; clear h9
            by_cases hbig : 128 ≤ y
            · go_wp2
              go_round
              case rel =>
                refine ⟨k + 1, v, by omega, by omega, by go_num, rfl, hv2, HV3.out, ?_⟩
                have h := HEND2.out; rw [if_pos hbig] at h; rw [← h, show 10 - (k + 1) = 9 - k by omega]
              case measure => simp [intOf]; omega
            · by_cases hz : y = 0
              · have hres : num.get bs n = none := by rw [← HEND2.out, if_neg hbig, if_pos ⟨hz, by have := H9.out; omega⟩]
                have HRES := Lib.hid hres; clear hres
                have hz' : ((y : Int) == 0) = true := by simp; omega
                have hk0 : (0 : Int) < k := by have := H9.out; omega
                clear hz
                go_wp2
                go_ret3
                exact ⟨by rw [HRES.out]; rfl, rfl⟩
              · have hres : num.get bs n = some (v, k + 1) := by rw [← HEND2.out, if_neg hbig, if_neg (by omega)]
                have HRES := Lib.hid hres; clear hres
                have hz' : ((y : Int) == 0) = false := by simp; omega
                clear hz
                go_wp2_with (go_at_call 87; refine (num.zag_any _ _ (by omega) (by omega)).mono ?_; rintro e w' ⟨rfl, rfl⟩)
                go_ret3
                exact ⟨by rw [HRES.out]; rfl, rfl⟩
          · have h9' : ((k : Int) == 9) = false := by simp; omega
            clear hdig
            have H9 := Lib.hid h9; clear h9
            by_cases hbig : 128 ≤ y
            · go_wp2
              go_round
              case rel =>
                refine ⟨k + 1, v, by omega, by omega, by go_num, rfl, hv2, HV3.out, ?_⟩
                have h := HEND2.out; rw [if_pos hbig] at h; rw [← h, show 10 - (k + 1) = 9 - k by omega]
              case measure => simp [intOf]; omega
            · by_cases hz : y = 0 ∧ 0 < k
              · have hres : num.get bs n = none := by rw [← HEND2.out, if_neg hbig, if_pos hz]
                have HRES := Lib.hid hres; clear hres
                have hz' : ((y : Int) == 0) = true := by simp; omega
                have hk0 : (0 : Int) < k := by omega
                clear hz
                go_wp2
                go_ret3
                exact ⟨by rw [HRES.out]; rfl, rfl⟩
              · have hres : num.get bs n = some (v, k + 1) := by rw [← HEND2.out, if_neg hbig, if_neg hz]
                have HRES := Lib.hid hres; clear hres
                by_cases hy0 : y = 0
                · have hz' : ((y : Int) == 0) = true := by simp; omega
                  have hk0 : ¬ (0 : Int) < k := by omega
                  clear hz hy0
                  go_wp2_with (go_at_call 87; refine (num.zag_any _ _ (by omega) (by omega)).mono ?_; rintro e w' ⟨rfl, rfl⟩)
                  go_ret3
                  exact ⟨by rw [HRES.out]; rfl, rfl⟩
                · have hz' : ((y : Int) == 0) = false := by simp; omega
                  clear hz hy0
                  go_wp2_with (go_at_call 87; refine (num.zag_any _ _ (by omega) (by omega)).mono ?_; rintro e w' ⟨rfl, rfl⟩)
                  go_ret3
                  exact ⟨by rw [HRES.out]; rfl, rfl⟩
      · have hres : num.get bs n = none := by
          have h := HGD.out.2
          rw [← h]
          by_cases e : k = 10
          · subst e; rfl
          · rw [show 10 - k = (9 - k) + 1 by omega, num.gt, if_pos (by omega)]
        have HRES := Lib.hid hres; clear hres
        go_wp2
        go_ret3
        exact ⟨by rw [HRES.out]; rfl, rfl⟩
end Go.Proofs.Ytndingohckcmdaa

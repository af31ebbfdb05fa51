/- Contract of the reference's Get (cordwainref1). -/
import Derived.Test.YtimcpbbcealkiaaRefN
namespace Go.Proofs.Ytimcpbbcealkiaa
open Go.RowKit

def num.res2 : Option (Nat × Nat) → Value
  | none => .tuple #[.int .i64 0, .int .i64 0]
  | some (u, k) => .tuple #[.int .i64 (num.zag u), .int .i64 (k : Int)]

/-- At the tenth byte none but 0 and 1 serve. -/
theorem num.gt_last (bs : Nat → Nat) (n u : Nat) (h : 1 < bs 9) : num.gt bs n 1 9 u = none := by
  rw [num.gt]
  split
  · rfl
  split
  · rfl
  split
  · rfl
  rename_i h1 h2 h3
  exfalso
  have : bs 9 % 128 = bs 9 := Nat.mod_eq_of_lt (by omega)
  exact h2 ⟨rfl, by omega⟩

set_option maxRecDepth 20000 in
set_option maxHeartbeats 1000000 in
theorem num.refget_any (A : Option Addr) (n c : Nat) (bs : Nat → Nat) (w : World) (hn : n ≤ 9223372036854775807) (hat : At w A n (fun j => .int .u8 (bs j : Int))) (hbs : ∀ j, j < n → bs j < 256) :
    Calls Try.prog 70 #[.slice A n c] w fun e w' => e = .returned (num.res2 (num.get bs n)) ∧ w = w' := by
  have HAT := Lib.hid hat; clear hat
  have HBS := Lib.hid hbs; clear hbs
  go_enter Try.func70, Try.ntmps70
  go_wp2
  go_loop [4, 5] (fun x i => ∃ (k u : Nat), k ≤ n ∧ k ≤ 10 ∧ i = .int .i64 (k : Int) ∧ x = .int .u64 (u : Int) ∧ (u : Int) ≤ 18446744073709551615 ∧ num.Gd bs n k u) (fun _ i => 10 - (intOf i).toNat)
  case atStart => exact ⟨0, 0, by omega, by omega, rfl, rfl, by omega, by omega, rfl⟩
  case round =>
    obtain ⟨k, u, hkn, hk10, rfl, rfl, hu, hgd⟩ := hrel
    have HGD := Lib.hid hgd; clear hgd
    by_cases hlt : k < n ∧ k < 10
    · obtain ⟨l1, l2⟩ := hlt
      obtain ⟨b, off, rfl, hbb, hc⟩ := HAT.out (by omega)
      obtain ⟨y, hy⟩ : ∃ y, y = bs k := ⟨_, rfl⟩
      have hc1 : w.cell? ⟨b, off + k, none⟩ = some (.int .u8 (y : Int)) := by rw [hc k l1, hy]
      clear hc
      have hy2 : y < 256 := by rw [hy]; exact HBS.out k l1
      have HY := Lib.hid hy; clear hy
      have hand := num.and127 y hy2
      have hu0 : u < 128 ^ k := HGD.out.1
      have HU0 := Lib.hid hu0; clear hu0
      have hk9 : k ≤ 9 := by omega
      have m1 : (k : Int) < n := by omega
      have m2 : (k : Int) < 10 := by omega
      have hend : num.gt bs n (10 - k) k u = num.get bs n := HGD.out.2
      by_cases hbad : k = 9 ∧ 1 < y
      · obtain ⟨e1, e2⟩ := hbad
        have hres : num.get bs n = none := by
          rw [← hend]; subst e1; exact num.gt_last bs n u (by rw [← HY.out]; exact e2)
        have HRES := Lib.hid hres; clear hres
        clear hend
        have e1' : ((k : Int) == 9) = true := by simp; omega
        have e2' : (1 : Int) < (y : Int) := by omega
        clear e1 e2
        go_wp2
        go_ret2
        exact ⟨by rw [HRES.out]; rfl, rfl⟩
      · rw [show 10 - k = (9 - k) + 1 by omega, num.gt, if_neg (by omega), ← HY.out] at hend
        have hbad2 : ¬ (k = 9 ∧ 1 < y % 128) := fun h => hbad ⟨h.1, by have := h.2; have := Nat.mod_le y 128; omega⟩
        have hor := num.or_shift u y k HU0.out hk9 hbad2
        obtain ⟨v, hv⟩ : ∃ v, v = u + y % 128 * 128 ^ k := ⟨_, rfl⟩
        rw [← hv] at hor
        have hw7 : IntKind.u64.wrap ((y : Int) % 128 * 2 ^ (7 * k)) = (y : Int) % 128 * 2 ^ (7 * k) := by
          have e : ((y : Int) % 128 * 2 ^ (7 * k)) = ((y % 128 * 128 ^ k : Nat) : Int) := by rw [← num.pow7]; push_cast; rfl
          rw [e, IntKind.wrap_u64]; have := (num.top u y k HU0.out hk9 hbad2).1; omega
        have hor2 : bits .or .u64 (u : Int) ((y : Int) % 128 * 2 ^ (7 * k)) = (v : Int) := by rw [hw7] at hor; exact hor
        clear hw7
        have hv2 : (v : Int) ≤ 18446744073709551615 := by have := (num.top u y k HU0.out hk9 hbad2).1; omega
        have hend2 : (if 128 ≤ y then num.gt bs n (9 - k) (k + 1) v else if y = 0 ∧ 0 < k then none else some (v, k + 1)) = num.get bs n := by
          rw [← hend, if_neg hbad2, hv]
        have hv3 : v < 128 ^ (k + 1) := by
          have h1 := HU0.out
          have h2 : y % 128 * 128 ^ k ≤ 127 * 128 ^ k := Nat.mul_le_mul_right _ (by omega)
          rw [Nat.pow_succ]; omega
        have HV3 := Lib.hid hv3; clear hv3
        have HV := Lib.hid hv; clear hv
        have HEND2 := Lib.hid hend2; clear hend2
        clear hend
        have h9d : ((k : Int) == 9) = false ∨ (((k : Int) == 9) = true ∧ ¬ (1 : Int) < (y : Int)) := by
          by_cases h : k = 9
          · right; exact ⟨by simp; omega, by omega⟩
          · left; simp; omega
        have HB := Lib.hid hbad; clear hbad
        have HB2 := Lib.hid hbad2; clear hbad2
        by_cases hbig : 128 ≤ y
        · have hbig' : ¬ (y : Int) < 128 := by omega
          rcases h9d with h9 | ⟨h9, h91⟩
          all_goals
            go_wp2
            go_round
            case rel =>
              refine ⟨k + 1, v, by omega, by omega, by go_num, by first | rfl | exact num_eq hor2 | exact num_eq hor, hv2, HV3.out, ?_⟩
              have h := HEND2.out; rw [if_pos hbig] at h; rw [← h, show 10 - (k + 1) = 9 - k by omega]
            case measure => simp [intOf]; omega
        · have hbig' : (y : Int) < 128 := by omega
          by_cases hz : y = 0 ∧ 0 < k
          · have hres : num.get bs n = none := by rw [← HEND2.out, if_neg hbig, if_pos hz]
            have HRES := Lib.hid hres; clear hres
            have hz' : ((y : Int) == 0) = true := by simp; omega
            have hk0 : (0 : Int) < k := by omega
            clear hz
            rcases h9d with h9 | ⟨h9, h91⟩
            all_goals
              go_wp2
              go_ret2
              exact ⟨by rw [HRES.out]; rfl, rfl⟩
          · have hres : num.get bs n = some (v, k + 1) := by rw [← HEND2.out, if_neg hbig, if_neg hz]
            have HRES := Lib.hid hres; clear hres
            by_cases hy0 : y = 0
            · have hz' : ((y : Int) == 0) = true := by simp; omega
              have hk0 : ¬ (0 : Int) < k := by omega
              clear hz hy0
              rcases h9d with h9 | ⟨h9, h91⟩
              all_goals
                go_wp2_with (go_at_call 80; refine (num.refzag_any _ _ (by omega) (by omega)).mono ?_; rintro e w' ⟨rfl, rfl⟩)
                go_ret2
                exact ⟨by rw [HRES.out]; rfl, rfl⟩
            · have hz' : ((y : Int) == 0) = false := by simp; omega
              clear hz hy0
              rcases h9d with h9 | ⟨h9, h91⟩
              all_goals
                go_wp2_with (go_at_call 80; refine (num.refzag_any _ _ (by omega) (by omega)).mono ?_; rintro e w' ⟨rfl, rfl⟩)
                go_ret2
                exact ⟨by rw [HRES.out]; rfl, rfl⟩
    · have hres : num.get bs n = none := by
        have h := HGD.out.2
        rw [← h]
        by_cases e : k = 10
        · subst e; rfl
        · rw [show 10 - k = (9 - k) + 1 by omega, num.gt, if_pos (by omega)]
      have HRES := Lib.hid hres; clear hres
      by_cases hkn2 : k < n
      · have m1 : (k : Int) < n := by omega
        have m2 : ¬ (k : Int) < 10 := by omega
        go_wp2
        go_ret2
        exact ⟨by rw [HRES.out]; rfl, rfl⟩
      · have m1 : ¬ (k : Int) < n := by omega
        go_wp2
        go_ret2
        exact ⟨by rw [HRES.out]; rfl, rfl⟩
end Go.Proofs.Ytimcpbbcealkiaa

/- The walk of the law QuotaBound. -/
import Derived.Test.YtmlkgealjbjlgaaQuW
import Derived.Test.YtmlkgealjbjlgaaAlike
import Derived.Test.YtmlkgealjbjlgaaOpen
namespace Go.Proofs.Ytmlkgealjbjlgaa
open Go.RowKit Go.Maps

theorem qu.to_now {t i : Int} (ht : t ≤ i) (hi : i ≤ 1125899906842624) : qu.to t i = i := by unfold qu.to; omega
theorem qu.x1_same {r B t x : Int} (hx : x ≤ B) (ht : t ≤ 1125899906842624) : qu.x1 r B t x t = x := by
  unfold qu.x1
  rw [qu.to_now (Int.le_refl _) ht, Int.sub_self]
  unfold qu.gain
  rw [Int.zero_mul]
  omega
theorem qu.bound {r B t x i sum : Int} (hti : t ≤ i) (hi : i ≤ 1125899906842624) (hx : sum + x ≤ B + r * t) : sum + qu.x1 r B t x i ≤ B + r * i := by
  unfold qu.x1
  rw [qu.to_now hti hi]
  unfold qu.gain
  rw [Int.sub_mul, Int.mul_comm i r, Int.mul_comm t r]
  omega
theorem qu.waits {r X n : Int} (hr : 0 < r) (h : X < n) : 1 ≤ (n - X + r - 1).tdiv r ∧ (n - X + r - 1).tdiv r ≤ n - X + r - 1 ∧ X + ((n - X + r - 1).tdiv r - 1) * r < n ∧ n ≤ X + (n - X + r - 1).tdiv r * r := by
  rw [Int.tdiv_eq_ediv_of_nonneg (by omega)]
  have h1 := Int.ediv_mul_le (n - X + r - 1) (show r ≠ 0 by omega)
  have h2 := Int.lt_ediv_add_one_mul_self (n - X + r - 1) hr
  have h3 : (1 : Int) ≤ (n - X + r - 1) / r := Int.le_ediv_of_mul_le hr (by omega)
  have h4 := Int.ediv_le_self r (show 0 ≤ n - X + r - 1 by omega)
  generalize (n - X + r - 1) / r = W at *
  rw [Int.add_mul, Int.one_mul] at h2
  rw [Int.sub_mul, Int.one_mul]
  omega

set_option maxRecDepth 20000 in
set_option maxHeartbeats 2000000 in
theorem qu.lawBound (r B : Int) (A : Option Addr) (n c : Nat) (z : List Int) (k : Int) (w : World) (hm : z.length = n ∧ n ≤ c ∧ c ≤ maxLen) (hat : At w A n (fun j => .int .i64 (z.getD j 0))) (hwf : ∀ x ∈ z, (Lit.int .i64 x).wf = true)
    (hr : -9223372036854775808 ≤ r ∧ r ≤ 9223372036854775807) (hB : -9223372036854775808 ≤ B ∧ B ≤ 9223372036854775807) (hk : -9223372036854775808 ≤ k ∧ k ≤ 9223372036854775807) :
    Calls Try.prog 6 #[.int .i64 r, .int .i64 B, .slice A n c, .int .i64 k] w fun e w' => e = .returned (.bool true) ∧ Below w.heap.size w w' := by
  have HAT := Lib.hid hat; clear hat
  obtain ⟨hl, hnc, hcm⟩ := hm
  have hz : ∀ j, -9223372036854775808 ≤ z.getD j 0 ∧ z.getD j 0 ≤ 9223372036854775807 := fun j => by
    by_cases hj : j < z.length
    · simp only [List.getD, List.getElem?_eq_getElem hj, Option.getD_some]
      exact wf_bd (hwf _ (List.getElem_mem hj))
    · simp only [List.getD, List.getElem?_eq_none (show z.length ≤ j by omega), Option.getD_none]; omega
  have HZ := Lib.hid hz; clear hz hwf hl
  by_cases h1 : r < 0
  · go_enter Try.func6, Try.ntmps6
    go_wp2_with fail
    refine (qu.awake_any w).mono ?_
    rintro e w1 ⟨rfl, hb1⟩
    go_wp2_with fail
    go_ret
    exact ⟨rfl, hb1⟩
  by_cases h2 : 1000 < r
  · go_enter Try.func6, Try.ntmps6
    go_wp2_with fail
    refine (qu.awake_any w).mono ?_
    rintro e w1 ⟨rfl, hb1⟩
    go_wp2_with fail
    go_ret
    exact ⟨rfl, hb1⟩
  by_cases h3 : B < 1
  · go_enter Try.func6, Try.ntmps6
    go_wp2_with fail
    refine (qu.awake_any w).mono ?_
    rintro e w1 ⟨rfl, hb1⟩
    go_wp2_with fail
    go_ret
    exact ⟨rfl, hb1⟩
  by_cases h4 : 10000 < B
  · go_enter Try.func6, Try.ntmps6
    go_wp2_with fail
    refine (qu.awake_any w).mono ?_
    rintro e w1 ⟨rfl, hb1⟩
    go_wp2_with fail
    go_ret
    exact ⟨rfl, hb1⟩
  by_cases h5 : (60 : Int) < (n : Int)
  · go_enter Try.func6, Try.ntmps6
    go_wp2_with fail
    refine (qu.awake_any w).mono ?_
    rintro e w1 ⟨rfl, hb1⟩
    go_wp2_with fail
    go_ret
    exact ⟨rfl, hb1⟩
  go_enter Try.func6, Try.ntmps6
  go_wp2_with fail
  refine (qu.new_any r B 5 w (by omega) (by omega) (by omega)).mono ?_
  rintro e w1 ⟨⟨p, b, rfl, hq, hp, hb⟩, hb1⟩
  have HB1 := Lib.hid hb1; clear hb1
  have HQ1 := Lib.hid (QA.start keyA hq (by omega) (by omega) (by omega)); clear hq
  go_wp2_with fail
  go_loopw [11, 12] (fun su i wr => ∃ (j : Nat) (sum t x : Int), j ≤ n ∧ i = .int .i64 (j : Int) ∧ su = .int .i64 sum ∧ 0 ≤ sum ∧ sum ≤ 1000000 ∧ 0 ≤ t ∧ t ≤ (j : Int) ∧ sum + x ≤ B + r * t ∧ QA wr p b r B 5 t keyA x ∧ Below w.heap.size w wr) (fun _ i _ => n - (intOf i).toNat)
  case atStart => exact ⟨0, 0, 0, B, by omega, rfl, rfl, by omega, by omega, by omega, by omega, by omega, HQ1.out, HB1.out⟩
  case round =>
    obtain ⟨j, sum, t, x, hj, rfl, rfl, hs0, hs1, ht0, ht1, hinv, hq, hbe⟩ := hrel
    have HBE := Lib.hid hbe; clear hbe
    have HQ := Lib.hid hq; clear hq
    by_cases hlt : j < n
    · obtain ⟨b', off, rfl, hb', hcells⟩ := (HAT.out.below HBE.out (Nat.le_refl _)) (by omega)
      have hck := hcells j hlt
      have hzj := HZ.out j
      dsimp only at hck
      clear hcells
      generalize z.getD j 0 = y at *
      have hbd := HQ.out.bd
      go_wp2_with fail
      refine (round_any y (2 * B) wr (by omega) (by omega) (by omega)).mono ?_
      rintro e w' ⟨⟨q, rfl, hq⟩, rfl⟩
      have hbnd := qu.bound (r := r) (B := B) (x := x) (sum := sum) ht1 (by omega) hinv
      have hto := qu.to_now ht1 (show (j : Int) ≤ 1125899906842624 by omega)
      have HTO := Lib.hid hto; clear hto
      have hrj : r * (j : Int) ≤ 60000 := by
        have := Int.mul_le_mul (show r ≤ 1000 by omega) (show (j : Int) ≤ 60 by omega) (by omega) (by omega)
        omega
      have hrj0 : 0 ≤ r * (j : Int) := Int.mul_nonneg (by omega) (by omega)
      go_wp2_with fail
      refine (QA.use p b r B 5 t keyA x q j wr HQ.out keyA_size (by omega) (by omega)).mono ?_
      rintro e w2 ⟨rfl, hq2, hch⟩
      rw [HTO.out] at hq2
      have HB2 := Lib.hid (HBE.out.trans (quT_below hch HBE.out.size hp hb)); clear hch
      have hx1 : 0 ≤ qu.x1 r B t x j := by
        have := hq2.bd
        split at this <;> omega
      generalize qu.x1 r B t x j = X at *
      have hxb : X ≤ B + r * (j : Int) := by omega
      by_cases hle : (q : Int) ≤ X
      · rw [if_pos hle] at hq2 ⊢
        have HQ2 := Lib.hid hq2; clear hq2 hck
        have hinv2 : (sum + (q : Int)) + (X - (q : Int)) ≤ B + r * (j : Int) := by omega
        go_wp2_with fail
        go_roundw
        case rel => exact ⟨j + 1, sum + q, j, X - q, by omega, by go_num, rfl, by omega, by omega, by omega, by omega, hinv2, HQ2.out, HB2.out⟩
        case measure => simp [intOf]; omega
      · rw [if_neg hle] at hq2 ⊢
        have HQ2 := Lib.hid hq2; clear hq2 hck
        go_wp2_with fail
        go_roundw
        case rel => exact ⟨j + 1, sum, j, X, by omega, by go_num, rfl, by omega, by omega, by omega, by omega, by omega, HQ2.out, HB2.out⟩
        case measure => simp [intOf]; omega
    · obtain rfl : j = n := by omega
      clear hinv
      go_wp2_with fail
      refine (round_any k B wr hk (by omega) (by omega)).mono ?_
      rintro e w' ⟨⟨q, rfl, hq⟩, rfl⟩
      have hto := qu.to_now ht1 (show (j : Int) ≤ 1125899906842624 by omega)
      have HTO := Lib.hid hto; clear hto
      go_wp2_with fail
      refine (QA.wait p b r B 5 t keyA x ((q : Int) + 1) j wr HQ.out keyA_size (by omega) (by omega)).mono ?_
      rintro e w2 ⟨rfl, hq2, hch⟩
      rw [HTO.out] at hq2
      have HB2 := Lib.hid (HBE.out.trans (quT_below hch HBE.out.size hp hb)); clear hch HBE HQ
      have hxb := hq2.bd
      have HQ2 := Lib.hid hq2; clear hq2
      generalize qu.x1 r B t x j = X at *
      have hsame := qu.x1_same (r := r) hxb.2 (show (j : Int) ≤ 1125899906842624 by omega)
      have HSAME := Lib.hid hsame; clear hsame
      by_cases hle : (q : Int) + 1 ≤ X
      · have hw : qu.wait r B X ((q : Int) + 1) = (0, true) := by unfold qu.wait; rw [if_neg (by omega), if_pos hle]
        rw [hw]
        clear hw
        go_wp2_with fail
        refine (QA.use p b r B 5 j keyA X ((q : Int) + 1) j w2 HQ2.out keyA_size (by omega) (by omega)).mono ?_
        rintro e w3 ⟨rfl, hq3, hch⟩
        rw [HSAME.out, if_pos hle]
        have HB3 := Lib.hid (HB2.out.trans (quT_below hch HB2.out.size hp hb)); clear hch hq3
        go_wp2_with fail
        refine (qu.awake_any w3).mono ?_
        rintro e w4 ⟨rfl, hb4⟩
        have HB4 := Lib.hid (HB3.out.trans (hb4.mono HB3.out.size)); clear hb4
        go_wp2_with fail
        go_ret
        exact ⟨rfl, HB4.out⟩
      by_cases hr0 : r = 0
      · have hw : qu.wait r B X ((q : Int) + 1) = (0, false) := by unfold qu.wait; rw [if_neg (by omega), if_neg hle, if_pos hr0]
        rw [hw]
        clear hw
        go_wp2_with fail
        refine (QA.left p b r B 5 j keyA X j w2 HQ2.out keyA_size (by omega)).mono ?_
        rintro e w3 ⟨rfl, hq3, hch⟩
        rw [HSAME.out]
        have HB3 := Lib.hid (HB2.out.trans (quT_below hch HB2.out.size hp hb)); clear hch hq3
        go_wp2_with fail
        refine (qu.awake_any w3).mono ?_
        rintro e w4 ⟨rfl, hb4⟩
        have HB4 := Lib.hid (HB3.out.trans (hb4.mono HB3.out.size)); clear hb4
        go_wp2_with fail
        go_ret
        exact ⟨rfl, HB4.out⟩
      have hw : qu.wait r B X ((q : Int) + 1) = (((q : Int) + 1 - X + r - 1).tdiv r, true) := by unfold qu.wait; rw [if_neg (by omega), if_neg hle, if_neg hr0]
      rw [hw]
      clear hw
      obtain ⟨w1', w2', w3', w4'⟩ := qu.waits (r := r) (X := X) (n := (q : Int) + 1) (by omega) (by omega)
      generalize ((q : Int) + 1 - X + r - 1).tdiv r = W at *
      have hx2 : qu.x1 r B j X (j + W - 1) = min B (X + (W - 1) * r) := by
        unfold qu.x1
        rw [qu.to_now (by omega) (by omega), show (j : Int) + W - 1 - j = W - 1 by omega]
        rfl
      have hto2 : qu.to j (j + W - 1) = j + W - 1 := qu.to_now (by omega) (by omega)
      have hx3 : qu.x1 r B (j + W - 1) (min B (X + (W - 1) * r)) (j + W) = min B (min B (X + (W - 1) * r) + r) := by
        unfold qu.x1
        rw [qu.to_now (by omega) (by omega), show (j : Int) + W - (j + W - 1) = 1 by omega]
        unfold qu.gain
        rw [Int.one_mul]
      have hle2 : min B (X + (W - 1) * r) < (q : Int) + 1 := by omega
      have hle3 : (q : Int) + 1 ≤ min B (min B (X + (W - 1) * r) + r) := by
        rw [Int.sub_mul, Int.one_mul]
        omega
      clear w3' w4'
      generalize min B (X + (W - 1) * r) = X2 at *
      have HX2 := Lib.hid hx2; clear hx2
      have HX3 := Lib.hid hx3; clear hx3
      have HT2 := Lib.hid hto2; clear hto2
      go_wp2_with fail
      refine (QA.left p b r B 5 j keyA X (j + W - 1) w2 HQ2.out keyA_size (by omega)).mono ?_
      rintro e w3 ⟨rfl, hq3, hch⟩
      rw [HX2.out]
      rw [HX2.out, HT2.out] at hq3
      have HB3 := Lib.hid (HB2.out.trans (quT_below hch HB2.out.size hp hb)); clear hch
      have HQ3 := Lib.hid hq3; clear hq3
      go_wp2_with fail
      refine (QA.use p b r B 5 (j + W - 1) keyA X2 ((q : Int) + 1) (j + W) w3 HQ3.out keyA_size (by omega) (by omega)).mono ?_
      rintro e w4 ⟨rfl, hq4, hch⟩
      rw [HX3.out, if_pos hle3]
      have HB4 := Lib.hid (HB3.out.trans (quT_below hch HB3.out.size hp hb)); clear hch hq4
      go_wp2_with fail
      refine (qu.awake_any w4).mono ?_
      rintro e w5 ⟨rfl, hb5⟩
      have HB5 := Lib.hid (HB4.out.trans (hb5.mono HB4.out.size)); clear hb5
      go_wp2_with fail
      go_ret
      exact ⟨rfl, HB5.out⟩
end Go.Proofs.Ytmlkgealjbjlgaa

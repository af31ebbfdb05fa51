/- The walk of the law QuotaBack. -/
import Derived.Test.YtmlkgealjbjlgaaQuB
import Derived.Test.YtmlkgealjbjlgaaQuK
namespace Go.Proofs.Ytmlkgealjbjlgaa
open Go.RowKit Go.Maps

theorem QA.walk (p b : Nat) (r B m t : Int) (s : ByteArray) (x most : Int) (w : World) (h : QA w p b r B m t s x) (hs : s.size ≤ maxLen) (h1 : 1 ≤ most) (h2 : most ≤ 1000000) :
    Calls Try.prog 31 #[.pointer (some ⟨p, 0, none⟩), .int .i64 most] w fun e W' => (∃ A c, e = .returned (.slice A (if x = B then 0 else 1) c)) ∧ QA W' p b r B m t s x ∧ Below w.heap.size w W' := by
  have h0 := h
  obtain ⟨N, g, hq, ok, ho, hx⟩ := h
  have h01 := only_one hq.map ho
  have hN : min N most.toNat = if x = B then 0 else 1 := by
    cases hg : g s with
    | none =>
      rw [hg, Option.getD_none] at hx
      rw [if_pos hx.symm, h01.2 hg]
      omega
    | some c =>
      rw [hg, Option.getD_some] at hx
      have := ok.ok s c hg
      rw [if_neg (by omega)]
      obtain ⟨ks, hk, hl⟩ := hq.map.keys
      have hmem := (hk.2 s).2 ⟨hs, by rw [hg]; rfl⟩
      have := List.length_pos_of_mem hmem
      omega
  refine (qu.walk_any (some ⟨p, 0, none⟩) N most w (by omega) h2 (by omega) (.inr ⟨p, b, r, B, m, t, g, rfl, hq⟩)).mono ?_
  rintro e W' ⟨⟨A, c, rfl⟩, hb⟩
  exact ⟨⟨A, c, by rw [hN]⟩, h0.keep hb, hb⟩

theorem qu.rests {r n : Int} (hr : 1 ≤ r) (h : 1 ≤ n) : 1 ≤ (n + r - 1).tdiv r ∧ (n + r - 1).tdiv r ≤ n + r - 1 ∧ ((n + r - 1).tdiv r - 1) * r < n ∧ n ≤ (n + r - 1).tdiv r * r := by
  have := qu.waits (r := r) (X := 0) (n := n) (by omega) (by omega)
  rw [Int.sub_zero, Int.zero_add, Int.zero_add] at this
  exact this

set_option maxRecDepth 20000 in
set_option maxHeartbeats 2000000 in
theorem qu.lawBack (r B k : Int) (w : World) (hr : -9223372036854775808 ≤ r ∧ r ≤ 9223372036854775807) (hB : -9223372036854775808 ≤ B ∧ B ≤ 9223372036854775807) (hk : -9223372036854775808 ≤ k ∧ k ≤ 9223372036854775807) :
    Calls Try.prog 7 #[.int .i64 r, .int .i64 B, .int .i64 k] w fun e w' => e = .returned (.bool true) ∧ Below w.heap.size w w' := by
  by_cases h1 : r < 1
  · go_enter Try.func7, Try.ntmps7
    go_wp2_with fail
    refine (qu.awake_any w).mono ?_
    rintro e w1 ⟨rfl, hb1⟩
    go_wp2_with fail
    go_ret
    exact ⟨rfl, hb1⟩
  by_cases h2 : 1000 < r
  · go_enter Try.func7, Try.ntmps7
    go_wp2_with fail
    refine (qu.awake_any w).mono ?_
    rintro e w1 ⟨rfl, hb1⟩
    go_wp2_with fail
    go_ret
    exact ⟨rfl, hb1⟩
  by_cases h3 : B < 1
  · go_enter Try.func7, Try.ntmps7
    go_wp2_with fail
    refine (qu.awake_any w).mono ?_
    rintro e w1 ⟨rfl, hb1⟩
    go_wp2_with fail
    go_ret
    exact ⟨rfl, hb1⟩
  by_cases h4 : 100000 < B
  · go_enter Try.func7, Try.ntmps7
    go_wp2_with fail
    refine (qu.awake_any w).mono ?_
    rintro e w1 ⟨rfl, hb1⟩
    go_wp2_with fail
    go_ret
    exact ⟨rfl, hb1⟩
  go_enter Try.func7, Try.ntmps7
  go_wp2_with fail
  refine (qu.new_any r B 3 w (by omega) (by omega) (by omega)).mono ?_
  rintro e w1 ⟨⟨p, b, rfl, hq, hp, hb⟩, hb1⟩
  have HB1 := Lib.hid hb1; clear hb1
  have HQ1 := Lib.hid (QA.start keyA hq (by omega) (by omega) (by omega)); clear hq
  go_wp2_with fail
  refine (round_any k B w1 hk (by omega) (by omega)).mono ?_
  rintro e w' ⟨⟨q, rfl, hq⟩, rfl⟩
  have hx1 : qu.x1 r B 0 B 10 = B := by
    have := Int.mul_nonneg (show (0 : Int) ≤ 10 by omega) (show 0 ≤ r by omega)
    unfold qu.x1
    rw [qu.to_now (by omega) (by omega), Int.sub_zero]
    unfold qu.gain
    omega
  have HX1 := Lib.hid hx1; clear hx1
  have HT1 := Lib.hid (show qu.to 0 10 = 10 by decide)
  obtain ⟨w1', w2', w3', w4'⟩ := qu.rests (r := r) (n := 1 + (q : Int)) (by omega) (by omega)
  go_wp2_with fail
  refine (QA.use p b r B 3 0 keyA B (1 + (q : Int)) 10 w1 HQ1.out keyA_size (by omega) (by omega)).mono ?_
  rintro e w2 ⟨rfl, hq2, hch⟩
  have hle : 1 + (q : Int) ≤ B := by omega
  rw [HX1.out, if_pos hle] at hq2 ⊢
  rw [HT1.out] at hq2
  have HB2 := Lib.hid (HB1.out.trans (quT_below hch HB1.out.size hp hb)); clear hch HB1 HQ1
  have HQ2 := Lib.hid hq2; clear hq2
  generalize hR : (1 + (q : Int) + r - 1).tdiv r = R at *
  have hp0 : 0 ≤ (R - 1) * r := Int.mul_nonneg (by omega) (by omega)
  have hx2 : qu.x1 r B 10 (B - (1 + (q : Int))) (9 + R) = B - (1 + (q : Int)) + (R - 1) * r := by
    unfold qu.x1
    rw [qu.to_now (by omega) (by omega), show (9 : Int) + R - 10 = R - 1 by omega]
    unfold qu.gain
    omega
  have hx3 : qu.x1 r B (9 + R) (B - (1 + (q : Int)) + (R - 1) * r) 0 = B - (1 + (q : Int)) + (R - 1) * r := by
    unfold qu.x1
    rw [show qu.to (9 + R) 0 = 9 + R by unfold qu.to; omega, Int.sub_self]
    unfold qu.gain
    rw [Int.zero_mul]
    omega
  have hx4 : qu.x1 r B (9 + R) (B - (1 + (q : Int)) + (R - 1) * r) (10 + R) = B := by
    unfold qu.x1
    rw [qu.to_now (by omega) (by omega), show (10 : Int) + R - (9 + R) = 1 by omega]
    unfold qu.gain
    rw [Int.one_mul, Int.sub_mul, Int.one_mul]
    omega
  have ht2 : qu.to 10 (9 + R) = 9 + R := qu.to_now (by omega) (by omega)
  have ht3 : qu.to (9 + R) 0 = 9 + R := by unfold qu.to; omega
  have ht4 : qu.to (9 + R) (10 + R) = 10 + R := qu.to_now (by omega) (by omega)
  have hlt : B - (1 + (q : Int)) + (R - 1) * r < B := by omega
  generalize B - (1 + (q : Int)) + (R - 1) * r = X at *
  have HX := Lib.hid (And.intro hx2 (And.intro hx3 hx4)); clear hx2 hx3 hx4
  have HT := Lib.hid (And.intro ht2 (And.intro ht3 ht4)); clear ht2 ht3 ht4 hp0 w3' w4'
  have HR := Lib.hid hR; clear hR
  have hR1 := HR.out
  have hRb : 1 ≤ R ∧ R ≤ 1000000 := ⟨w1', by omega⟩
  clear w1' w2'
  go_wp2_with fail
  clear hR1
  refine (QA.left p b r B 3 10 keyA _ (9 + R) w2 HQ2.out keyA_size (by omega)).mono ?_
  rintro e w3 ⟨rfl, hq3, hch⟩
  rw [HX.out.1] at hq3 ⊢
  rw [HT.out.1] at hq3
  have HB3 := Lib.hid (HB2.out.trans (quT_below hch HB2.out.size hp hb)); clear hch HB2 HQ2
  have HQ3 := Lib.hid hq3; clear hq3
  go_wp2_with fail
  refine (QA.left p b r B 3 (9 + R) keyA X 0 w3 HQ3.out keyA_size (by omega)).mono ?_
  rintro e w4 ⟨rfl, hq4, hch⟩
  rw [HX.out.2.1] at hq4 ⊢
  rw [HT.out.2.1] at hq4
  have HB4 := Lib.hid (HB3.out.trans (quT_below hch HB3.out.size hp hb)); clear hch HB3 HQ3
  have HQ4 := Lib.hid hq4; clear hq4
  go_wp2_with fail
  refine (QA.walk p b r B 3 (9 + R) keyA X 9 w4 HQ4.out keyA_size (by omega) (by omega)).mono ?_
  rintro e w5 ⟨⟨A5, c5, rfl⟩, hq5, hb5⟩
  rw [if_neg (show ¬ X = B by omega)]
  have HB5 := Lib.hid (HB4.out.trans (hb5.mono HB4.out.size)); clear hb5 HB4 HQ4
  have HQ5 := Lib.hid hq5; clear hq5
  go_wp2_with fail
  refine (QA.left p b r B 3 (9 + R) keyA X (10 + R) w5 HQ5.out keyA_size (by omega)).mono ?_
  rintro e w6 ⟨rfl, hq6, hch⟩
  rw [HX.out.2.2] at hq6 ⊢
  rw [HT.out.2.2] at hq6
  have HB6 := Lib.hid (HB5.out.trans (quT_below hch HB5.out.size hp hb)); clear hch HB5 HQ5
  have HQ6 := Lib.hid hq6; clear hq6
  go_wp2_with fail
  refine (QA.walk p b r B 3 (10 + R) keyA B 9 w6 HQ6.out keyA_size (by omega) (by omega)).mono ?_
  rintro e w7 ⟨⟨A7, c7, rfl⟩, hq7, hb7⟩
  rw [if_pos rfl]
  have HB7 := Lib.hid (HB6.out.trans (hb7.mono HB6.out.size)); clear hb7 HB6 HQ6 hq7
  go_wp2_with fail
  refine (qu.awake_any w7).mono ?_
  rintro e w8 ⟨rfl, hb8⟩
  have HB8 := Lib.hid (HB7.out.trans (hb8.mono HB7.out.size)); clear hb8
  go_wp2_with fail
  go_ret
  exact ⟨rfl, HB8.out⟩
end Go.Proofs.Ytmlkgealjbjlgaa

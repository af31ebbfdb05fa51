/- The law CleanGrace (cordwainlaw14): it answers true, whatever the input. -/
import Derived.Test.YtbbekgliaedigaaClH
namespace Go.Proofs.Ytbbekgliaedigaa
open Go.RowKit Go.Maps
set_option maxRecDepth 100000

theorem cg.lies2 (g : Nat) (t : Int) (hv : Bool) (w w1 w2 w3 w4 w5 w6 : World) (ht : 0 ≤ t ∧ t ≤ 1125899906842624) (hg : g = w.heap.size) (h1 : w1 = w.alloc (.cells #[.int .u8 107] 5 (1, 2))) (h2 : w2 = w1.alloc (.cells #[.int .u8 118] 5 (1, 2)))
    (h3 : w3 = w2.alloc (.cells #[.int .i64 0, .int .i64 0, .bool true, .slice (some ⟨g, 0, none⟩) 1 1, .bool true, .slice (some ⟨g + 1, 0, none⟩) 1 1] 54)) (h4 : w4 = w3.alloc (.cells #[.int .i64 1, .int .i64 t, .bool true, .slice (some ⟨g, 0, none⟩) 1 1, .bool hv, .slice none 0 0] 54)) (h5 : w5 = w4.alloc (.cells #[.int .i64 0, .int .i64 0, .int .i64 0, .int .i64 0, .int .i64 0, .slice (some ⟨g + 1 + 1, 0, none⟩) 1 1, .int .i64 1, .int .i64 1, .int .i64 0, .int .i64 0, .int .i64 0, .slice (some ⟨g + 1 + 1 + 1, 0, none⟩) 1 1] 47)) (h6 : w6 = w5.alloc (.cells #[.slice (some ⟨g + 1 + 1 + 1 + 1, 0, none⟩) 2 2, .slice none 0 0] 43)) :
    cl.SegsAt w6 (some ⟨g + 1 + 1 + 1 + 1 + 1, 0, none⟩) [cg.l2 [107] t hv [118] [], []] ∧ Below w.heap.size w w6 := by
  have s1 : w1.heap.size = g + 1 := by rw [h1, hg]; simp
  have s2 : w2.heap.size = g + 1 + 1 := by rw [h2]; simp [s1]
  have s3 : w3.heap.size = g + 1 + 1 + 1 := by rw [h3]; simp [s2]
  have s4 : w4.heap.size = g + 1 + 1 + 1 + 1 := by rw [h4]; simp [s3]
  have s5 : w5.heap.size = g + 1 + 1 + 1 + 1 + 1 := by rw [h5]; simp [s4]
  have b6 : Below w5.heap.size w5 w6 := by rw [h6]; exact (Below.refl _ _).alloc (Nat.le_refl _) _
  have b5 : Below w4.heap.size w4 w6 := (show Below w4.heap.size w4 w5 by rw [h5]; exact (Below.refl _ _).alloc (Nat.le_refl _) _).trans (b6.mono (by omega))
  have b4 : Below w3.heap.size w3 w6 := (show Below w3.heap.size w3 w4 by rw [h4]; exact (Below.refl _ _).alloc (Nat.le_refl _) _).trans (b5.mono (by omega))
  have b3 : Below w2.heap.size w2 w6 := (show Below w2.heap.size w2 w3 by rw [h3]; exact (Below.refl _ _).alloc (Nat.le_refl _) _).trans (b4.mono (by omega))
  have b2 : Below w1.heap.size w1 w6 := (show Below w1.heap.size w1 w2 by rw [h2]; exact (Below.refl _ _).alloc (Nat.le_refl _) _).trans (b3.mono (by omega))
  have b1 : Below w.heap.size w w6 := (show Below w.heap.size w w1 by rw [h1]; exact (Below.refl _ _).alloc (Nat.le_refl _) _).trans (b2.mono (by omega))
  have a1 : At w6 (some ⟨g, 0, none⟩) 1 (byteAt [107]) := At.below (by rw [h1]; exact cg.byte1 w 107 _ _ g hg) b2 (Nat.le_refl _)
  have a2 : At w6 (some ⟨g + 1, 0, none⟩) 1 (byteAt [118]) := At.below (by rw [h2]; exact cg.byte1 w1 118 _ _ _ s1.symm) b3 (Nat.le_refl _)
  have a3 : At w6 (some ⟨g + 1 + 1, 0, none⟩) 6 (fun j => (#[.int .i64 0, .int .i64 0, .bool true, .slice (some ⟨g, 0, none⟩) 1 1, .bool true, .slice (some ⟨g + 1, 0, none⟩) 1 1] : Array Value).getD j undef) := At.below (by rw [h3, ← s2]; exact At.new w2 _ _ rfl) b4 (Nat.le_refl _)
  have a4 : At w6 (some ⟨g + 1 + 1 + 1, 0, none⟩) 6 (fun j => (#[.int .i64 1, .int .i64 t, .bool true, .slice (some ⟨g, 0, none⟩) 1 1, .bool hv, .slice none 0 0] : Array Value).getD j undef) := At.below (by rw [h4, ← s3]; exact At.new w3 _ _ rfl) b5 (Nat.le_refl _)
  have a5 : At w6 (some ⟨g + 1 + 1 + 1 + 1, 0, none⟩) 12 (fun j => (#[.int .i64 0, .int .i64 0, .int .i64 0, .int .i64 0, .int .i64 0, .slice (some ⟨g + 1 + 1, 0, none⟩) 1 1, .int .i64 1, .int .i64 1, .int .i64 0, .int .i64 0, .int .i64 0, .slice (some ⟨g + 1 + 1 + 1, 0, none⟩) 1 1] : Array Value).getD j undef) := At.below (by rw [h5, ← s4]; exact At.new w4 _ _ rfl) b6 (Nat.le_refl _)
  have a6 : At w6 (some ⟨g + 1 + 1 + 1 + 1 + 1, 0, none⟩) 2 (fun j => (#[.slice (some ⟨g + 1 + 1 + 1 + 1, 0, none⟩) 2 2, .slice none 0 0] : Array Value).getD j undef) := by rw [h6, ← s5]; exact At.new w5 _ _ rfl
  have v1 : ∀ (x : Nat) (p : Nat), x < 256 → At w6 (some ⟨p, 0, none⟩) 1 (byteAt [x]) → BytesV w6 (.slice (some ⟨p, 0, none⟩) 1 1) [x] := fun x p hx h => ⟨_, 1, rfl, h, Nat.le_refl _, by unfold maxLen; omega, by simpa using hx⟩
  have v0 : BytesV w6 (.slice none 0 0) [] := ⟨none, 0, rfl, fun h => absurd h (by simp), Nat.le_refl _, Nat.zero_le _, by simp⟩
  have i0 : ∀ z : Int, 0 ≤ z → z ≤ 1125899906842624 → i64ok z := fun z h1 h2 => ⟨by omega, by omega⟩
  have hb : BatsAt w6 (some ⟨g + 1 + 1 + 1 + 1, 0, none⟩) (cg.l2 [107] t hv [118] []) := by
    refine ⟨_, a5, fun i b hi => ?_⟩
    match i, hi with
    | 0, hi =>
      obtain rfl : (⟨0, 0, 0, 0, 0, [cg.r 0 0 [107] true [118]]⟩ : Bat) = b := by simpa [cg.l2] using hi
      refine ⟨_, rfl, ⟨_, 1, _, rfl, Nat.le_refl _, by unfold maxLen; omega, a3, fun j r hr => ?_⟩, i0 _ (by decide) (by decide), i0 _ (by decide) (by decide), i0 _ (by decide) (by decide), i0 _ (by decide) (by decide), i0 _ (by decide) (by decide)⟩
      match j, hr with
      | 0, hr =>
        obtain rfl : cg.r 0 0 [107] true [118] = r := by simpa using hr
        exact ⟨_, _, rfl, v1 107 _ (by omega) a1, v1 118 _ (by omega) a2, i0 _ (by decide) (by decide), i0 _ (by decide) (by decide)⟩
      | j + 1, hr => simp at hr
    | 1, hi =>
      obtain rfl : (⟨1, 1, 0, 0, 0, [cg.r 1 t [107] hv []]⟩ : Bat) = b := by simpa [cg.l2] using hi
      refine ⟨_, rfl, ⟨_, 1, _, rfl, Nat.le_refl _, by unfold maxLen; omega, a4, fun j r hr => ?_⟩, i0 1 (by decide) (by decide), i0 1 (by decide) (by decide), i0 0 (by decide) (by decide), i0 0 (by decide) (by decide), i0 0 (by decide) (by decide)⟩
      match j, hr with
      | 0, hr =>
        obtain rfl : cg.r 1 t [107] hv [] = r := by simpa using hr
        exact ⟨_, _, rfl, v1 107 _ (by omega) a1, v0, i0 1 (by decide) (by decide), i0 _ ht.1 ht.2⟩
      | j + 1, hr => simp at hr
    | i + 2, hi => simp [cg.l2] at hi
  refine ⟨⟨_, a6, fun i bs hi => ?_⟩, b1⟩
  match i, hi with
  | 0, hi =>
    obtain rfl : cg.l2 [107] t hv [118] [] = bs := by simpa using hi
    exact ⟨_, 2, rfl, Nat.le_refl _, by unfold maxLen; omega, hb⟩
  | 1, hi =>
    obtain rfl : [] = bs := by simpa using hi
    exact ⟨none, 0, rfl, Nat.le_refl _, Nat.zero_le _, fun _ => undef, fun h => absurd h (by simp), fun i b h => by simp at h⟩
  | i + 2, hi => simp at hi
set_option maxHeartbeats 4000000 in
theorem law14.grace (t grace now : Int) (hv : Bool) (w : World) (ht : -9223372036854775808 ≤ t ∧ t ≤ 9223372036854775807) (hgr : -9223372036854775808 ≤ grace ∧ grace ≤ 9223372036854775807) (hnow : -9223372036854775808 ≤ now ∧ now ≤ 9223372036854775807) :
    Calls Try.prog 10 #[.int .i64 t, .int .i64 grace, .int .i64 now, .bool hv] w fun e w' => e = .returned (.bool true) ∧ Below w.heap.size w w' := by
  have HAW := Lib.hid (fun wx => law14.awake_any wx)
  have hcase : t < 0 ∨ (¬ t < 0 ∧ 1125899906842624 < t) ∨ (¬ t < 0 ∧ ¬ 1125899906842624 < t ∧ grace < 0) ∨ (¬ t < 0 ∧ ¬ 1125899906842624 < t ∧ ¬ grace < 0 ∧ 1125899906842624 < grace) ∨ (¬ t < 0 ∧ ¬ 1125899906842624 < t ∧ ¬ grace < 0 ∧ ¬ 1125899906842624 < grace ∧ now < 0) ∨ (¬ t < 0 ∧ ¬ 1125899906842624 < t ∧ ¬ grace < 0 ∧ ¬ 1125899906842624 < grace ∧ ¬ now < 0 ∧ 1125899906842624 < now) ∨ (¬ t < 0 ∧ ¬ 1125899906842624 < t ∧ ¬ grace < 0 ∧ ¬ 1125899906842624 < grace ∧ ¬ now < 0 ∧ ¬ 1125899906842624 < now) := by omega
  rcases hcase with c0 | ⟨c0, c1⟩ | ⟨c0, c1, c2⟩ | ⟨c0, c1, c2, c3⟩ | ⟨c0, c1, c2, c3, c4⟩ | ⟨c0, c1, c2, c3, c4, c5⟩ | ⟨c0, c1, c2, c3, c4, c5⟩
  case inr.inr.inr.inr.inr.inr =>
    have k1 : (convert 23 23 (.slice (some ⟨w.heap.size, 0, none⟩) 1 1)).run Try.prog (w.alloc (.cells #[.int .u8 107] 5)) = .ok (.slice (some ⟨w.heap.size, 0, none⟩) 1 1) (w.alloc (.cells #[.int .u8 107] 5 (1, 2))) := conv_mark 23 5 Try.underlying23 Try.underlying5 w #[.int .u8 107] 1 1 _ (by simp)
    have k2 : (convert 23 23 (.slice (some ⟨w.heap.size + 1, 0, none⟩) 1 1)).run Try.prog ((w.alloc (.cells #[.int .u8 107] 5 (1, 2))).alloc (.cells #[.int .u8 118] 5)) = .ok (.slice (some ⟨w.heap.size + 1, 0, none⟩) 1 1) ((w.alloc (.cells #[.int .u8 107] 5 (1, 2))).alloc (.cells #[.int .u8 118] 5 (1, 2))) := conv_mark 23 5 Try.underlying23 Try.underlying5 (w.alloc (.cells #[.int .u8 107] 5 (1, 2))) #[.int .u8 118] 1 1 _ (by simp)
    go_enter Try.func10, Try.ntmps10
    go_wp2_with fail
    obtain ⟨g, hg⟩ : ∃ g, g = w.heap.size := ⟨_, rfl⟩
    rw [← hg]
    obtain ⟨w1, hw1⟩ : ∃ w1, w1 = w.alloc (.cells #[.int .u8 107] 5 (1, 2)) := ⟨_, rfl⟩
    rw [← hw1]
    obtain ⟨w2, hw2⟩ : ∃ w2, w2 = w1.alloc (.cells #[.int .u8 118] 5 (1, 2)) := ⟨_, rfl⟩
    rw [← hw2]
    obtain ⟨w3, hw3⟩ : ∃ w3, w3 = w2.alloc (.cells #[.int .i64 0, .int .i64 0, .bool true, .slice (some ⟨g, 0, none⟩) 1 1, .bool true, .slice (some ⟨g + 1, 0, none⟩) 1 1] 54) := ⟨_, rfl⟩
    rw [← hw3]
    obtain ⟨w4, hw4⟩ : ∃ w4, w4 = w3.alloc (.cells #[.int .i64 1, .int .i64 t, .bool true, .slice (some ⟨g, 0, none⟩) 1 1, .bool hv, .slice none 0 0] 54) := ⟨_, rfl⟩
    rw [← hw4]
    obtain ⟨w5, hw5⟩ : ∃ w5, w5 = w4.alloc (.cells #[.int .i64 0, .int .i64 0, .int .i64 0, .int .i64 0, .int .i64 0, .slice (some ⟨g + 1 + 1, 0, none⟩) 1 1, .int .i64 1, .int .i64 1, .int .i64 0, .int .i64 0, .int .i64 0, .slice (some ⟨g + 1 + 1 + 1, 0, none⟩) 1 1] 47) := ⟨_, rfl⟩
    rw [← hw5]
    obtain ⟨w6, hw6⟩ : ∃ w6, w6 = w5.alloc (.cells #[.slice (some ⟨g + 1 + 1 + 1 + 1, 0, none⟩) 2 2, .slice none 0 0] 43) := ⟨_, rfl⟩
    rw [← hw6]
    obtain ⟨hseg, hb6⟩ := cg.lies2 g t hv w w1 w2 w3 w4 w5 w6 ⟨by omega, by omega⟩ hg hw1 hw2 hw3 hw4 hw5 hw6
    have HB6 := Lib.hid hb6; clear hb6 hw1 hw2 hw3 hw4 hw5 hw6 hg k1 k2
    obtain ⟨G, hgo, hgk⟩ := cg.go2 [107] t hv [118] []
    have hall := cl.all_any (some ⟨g + 1 + 1 + 1 + 1 + 1, 0, none⟩) 2 2 [cg.l2 [107] t hv [118] [], []] 0 now 9 9 grace 0 0 0 0 0 false false w6 hseg rfl (by omega) (by simp [cg.l2, cg.r, fo.Small]) (by simp [cg.l2, rc.flat]) (by simp [cg.l2, cg.r]; omega) (by unfold kb.Most; omega) ⟨by omega, by omega⟩ ⟨by omega, by omega⟩
    have hbeh : (([cg.l2 [107] t hv [118] [], []] : List (List Bat)).take (2 - 1)).flatten = cg.l2 [107] t hv [118] [] := by simp
    rw [hbeh, hgo] at hall
    unfold cl.AllPost at hall
    dsimp only at hall
    rw [cg.outs, cg.gone, cg.left2 [107] G t now grace hv [118] [] hgk] at hall
    by_cases hc : hv = false ∧ grace < now - t
    · rw [if_pos hc] at hall
      rw [show ((rc.flat (cg.l2 [107] t hv [118] [])).length : Int) - ((rc.flat ([] : List Bat)).length : Int) = 2 from by simp [cg.l2, rc.flat]] at hall
      have HALL := Lib.hid hall; clear hall hseg hbeh hgo hgk
      obtain ⟨rfl, hc2⟩ := hc
      have hd1 : ¬ now ≤ t := by omega
      have hd2 : ¬ now - t ≤ grace := by omega
      have hd3 : decide (now ≤ t) = false := decide_eq_false hd1
      have hd4 : decide (now - t ≤ grace) = false := decide_eq_false hd2
      refine HALL.out.mono ?_
      rintro e w7 ⟨A5, c5, rfl, -, -, hs5, hb7⟩
      have HB7 := Lib.hid (HB6.out.trans (hb7.mono HB6.out.size)); clear hb7 HB6 HALL
      obtain ⟨p, po, D, cD, hA, hp, d0, -, -, -⟩ := hs5.at' (i := 0) (bs := []) rfl
      subst hA
      simp only [List.length_nil, Nat.add_zero] at d0
      clear hs5
      go_wp2_with fail
      refine (HAW.out w7).mono ?_
      rintro e w8 ⟨rfl, hb8⟩
      have HB8 := Lib.hid (show Below w.heap.size w w8 from HB7.out.trans (hb8.mono HB7.out.size)); clear hb8
      go_wp2_with fail
      go_ret
      exact ⟨rfl, HB8.out⟩
    · rw [if_neg hc] at hall
      rw [show ((rc.flat (cg.l2 [107] t hv [118] [])).length : Int) - ((rc.flat [(⟨1, 1, 0, 0, 0, [cg.r 1 t [107] hv []]⟩ : Bat)]).length : Int) = 1 from by simp [cg.l2, rc.flat]] at hall
      have HALL := Lib.hid hall; clear hall hseg hbeh hgo hgk
      refine HALL.out.mono ?_
      rintro e w7 ⟨A5, c5, rfl, -, -, hs5, hb7⟩
      have HB7 := Lib.hid (HB6.out.trans (hb7.mono HB6.out.size)); clear hb7 HB6 HALL
      obtain ⟨p, po, D, cD, hA, hp, d0, -, -, hbd⟩ := hs5.at' (i := 0) (bs := [⟨1, 1, 0, 0, 0, [cg.r 1 t [107] hv []]⟩]) rfl
      subst hA
      obtain ⟨q, qo, v, hD, hq, e0, -⟩ := hbd.at' (k := 0) (x := ⟨1, 1, 0, 0, 0, [cg.r 1 t [107] hv []]⟩) rfl
      subst hD
      simp only [List.length_singleton, Nat.zero_mul, Nat.add_zero] at d0 e0
      clear hbd hs5
      have hthree : hv = true ∨ (hv = false ∧ now ≤ t) ∨ (hv = false ∧ ¬ now ≤ t ∧ now - t ≤ grace) := by
        cases hv with
        | true => exact .inl rfl
        | false => by_cases h : now ≤ t
                   · exact .inr (.inl ⟨rfl, h⟩)
                   · exact .inr (.inr ⟨rfl, h, by have : ¬ grace < now - t := fun h' => hc ⟨rfl, h'⟩; omega⟩)
      clear hc
      rcases hthree with rfl | ⟨rfl, h1⟩ | ⟨rfl, h1, h2⟩
      all_goals
        go_wp2_with fail
        refine (HAW.out w7).mono ?_
        rintro e w8 ⟨rfl, hb8⟩
        have HB8 := Lib.hid (show Below w.heap.size w w8 from HB7.out.trans (hb8.mono HB7.out.size)); clear hb8
        go_wp2_with fail
        go_ret
        exact ⟨rfl, HB8.out⟩
  all_goals
    go_enter Try.func10, Try.ntmps10
    go_wp2_with fail
    refine (HAW.out w).mono ?_
    rintro e w2 ⟨rfl, hb2⟩
    have HB2 := Lib.hid hb2; clear hb2
    go_wp2_with fail
    go_ret
    exact ⟨rfl, HB2.out⟩
end Go.Proofs.Ytbbekgliaedigaa

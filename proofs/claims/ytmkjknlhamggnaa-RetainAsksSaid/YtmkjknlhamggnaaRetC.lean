/- Contracts of retain.Front, retain.Trim. -/
import Derived.Test.YtmkjknlhamggnaaRetB
namespace Go.Proofs.Ytmkjknlhamggnaa
open Go.RowKit

/-- May segment j go, by size or by age? f: the segments' numbers. -/
def ret.goes (f : Nat → Nat → Int) (n : Nat) (kb ka now : Int) (j : Nat) : Bool :=
  decide (0 < kb ∧ kb < ret.suf (f · 2) n (n - j)) || decide (0 < ka ∧ ka < now - f j 4)
/-- k are the first ones that go. -/
def ret.FrontIs (f : Nat → Nat → Int) (n : Nat) (kb ka now : Int) (k : Nat) : Prop :=
  k ≤ n - 1 ∧ (∀ j, j < k → ret.goes f n kb ka now j = true) ∧ (k + 1 < n → ret.goes f n kb ka now k = false)

theorem ret.goes_yes {f : Nat → Nat → Int} {n : Nat} {kb ka now : Int} {j : Nat} (h : (0 < kb ∧ kb < ret.suf (f · 2) n (n - j)) ∨ (0 < ka ∧ ka < now - f j 4)) : ret.goes f n kb ka now j = true := by
  simpa [ret.goes] using h
theorem ret.goes_no {f : Nat → Nat → Int} {n : Nat} {kb ka now : Int} {j : Nat} (h1 : ¬ (0 < kb ∧ kb < ret.suf (f · 2) n (n - j))) (h2 : ¬ (0 < ka ∧ ka < now - f j 4)) : ret.goes f n kb ka now j = false := by
  simp only [ret.goes, decide_eq_false h1, decide_eq_false h2]; rfl
theorem ret.goes_step {f : Nat → Nat → Int} {n : Nat} {kb ka now : Int} {k : Nat} (h : ∀ j, j < k → ret.goes f n kb ka now j = true) (hk : ret.goes f n kb ka now k = true) : ∀ j, j < k + 1 → ret.goes f n kb ka now j = true := fun j hj => by
  by_cases e : j = k
  · subst e; exact hk
  · exact h j (by omega)

set_option maxHeartbeats 800000 in
theorem ret.front_any (A : Option Addr) (n c : Nat) (f : Nat → Nat → Int) (V : Nat → Value) (c0 c1 c2 kb ka c6 c7 : Int) (c5 c8 : Bool) (now : Int) (w : World) (hn : n ≤ 17592186044416) (hat : At w A (n * 5) V)
    (hV : ∀ i j, i < n → j < 5 → V (i * 5 + j) = .int .i64 (f i j)) (hM : ∀ i, i < n → 0 ≤ f i 4 ∧ f i 4 ≤ 1125899906842624) (hw : 0 ≤ now) (hw' : now ≤ 1125899906842624) (hka : ka ≤ 9223372036854775807) :
    Calls Try.prog 26 #[.slice A n c, .agg #[.int .i64 c0, .int .i64 c1, .int .i64 c2, .int .i64 kb, .int .i64 ka, .bool c5, .int .i64 c6, .int .i64 c7, .bool c8], .int .i64 now] w
      fun e w' => (∃ k : Nat, e = .returned (.int .i64 k) ∧ ret.FrontIs f n kb ka now k) ∧ Below w.heap.size w w' := by
  have HAT := Lib.hid hat; clear hat
  have HV := Lib.hid hV; clear hV
  have HM := Lib.hid hM; clear hM
  go_enter Try.func26, Try.ntmps26
  go_wp2_with fail
  go_step3
  go_wp2_with fail
  refine (ret.sums_any A n c V (f · 2) _ hn (HAT.out.alloc _) (fun i hi => HV.out i 2 hi (by omega))).mono ?_
  rintro e w1 ⟨rfl, hrow, hb⟩
  simp only [World.size_alloc] at hrow hb
  have hcf3 : w1.cell? ⟨w.heap.size, 3, none⟩ = some (.int .i64 kb) := by rw [hb.cell (by simp)]; simp [go_sem]
  have hcf4 : w1.cell? ⟨w.heap.size, 4, none⟩ = some (.int .i64 ka) := by rw [hb.cell (by simp)]; simp [go_sem]
  have hb0 : Below w.heap.size w w1 := ((Below.refl _ _).alloc (Nat.le_refl _) _).trans (hb.mono (by omega))
  have hz1 := hrow.lt
  clear hb
  have HB0 := Lib.hid hb0; clear hb0
  have HROW := Lib.hid hrow; clear hrow
  have HC3 := Lib.hid hcf3; clear hcf3
  have HC4 := Lib.hid hcf4; clear hcf4
  go_wp2
  go_step3
  go_wp2
  go_loopw [8, 15] (fun g i wr => ∃ k : Nat, k ≤ n ∧ (0 < n → k < n) ∧ i = .int .i64 k ∧ g = .int .i64 k ∧ (∀ j, j < k → ret.goes f n kb ka now j = true) ∧ Below w1.heap.size w1 wr) (fun _ i _ => n - (intOf i).toNat)
  case atStart => exact ⟨0, by omega, fun h => h, rfl, rfl, fun j hj => absurd hj (by omega), Below.refl _ _⟩
  case round =>
    obtain ⟨k, hk, hk', rfl, rfl, hgo, hb⟩ := hrel
    have HGO := Lib.hid hgo; clear hgo
    have HK' := Lib.hid hk'; clear hk'
    have HB := Lib.hid hb; clear hb
    by_cases hlt : k < n
    · obtain ⟨b, off, rfl, hbb, hc⟩ := HAT.out (by omega)
      have hcx : ∀ j, j < 5 → wr.cell? ⟨b, off + k * 5 + j, none⟩ = some (.int .i64 (f k j)) := fun j hj => by
        rw [HB.out.cell (by show b < w1.heap.size; omega), HB0.out.cell (by exact hbb), Nat.add_assoc, hc _ (by omega), HV.out k j hlt hj]
      clear hc
      have hx0 : wr.cell? ⟨b, off + k * 5, none⟩ = some (.int .i64 (f k 0)) := hcx 0 (by omega)
      have hx1 := hcx 1 (by omega)
      have hx2 := hcx 2 (by omega)
      have hx3 := hcx 3 (by omega)
      have hx4 := hcx 4 (by omega)
      clear hcx
      have hc3 : wr.cell? ⟨w.heap.size, 3, none⟩ = some (.int .i64 kb) := (HB.out.cell (by show w.heap.size < w1.heap.size; omega)).trans HC3.out
      have hc4 : wr.cell? ⟨w.heap.size, 4, none⟩ = some (.int .i64 ka) := (HB.out.cell (by show w.heap.size < w1.heap.size; omega)).trans HC4.out
      have hcl : wr.cell? ⟨w.heap.size + 1, k, none⟩ = some (.int .i64 (ret.suf (f · 2) n (n - k))) := by
        rw [HB.out.cell (by show w.heap.size + 1 < w1.heap.size; omega), HROW.out.cell hlt]; unfold ret.rowAt; rw [if_pos (by omega)]
      have hz2 : w.heap.size + 1 < wr.heap.size := Nat.lt_of_lt_of_le hz1 HB.out.size
      have hzz : w.heap.size < wr.heap.size := by omega
      have hi1 : (k : Int) < n := by omega
      have hi0 : (0 : Int) ≤ k := by omega
      have hblo : Below w.heap.size w wr := HB0.out.trans (HB.out.mono (by omega))
      have HBLO := Lib.hid hblo; clear hblo
      by_cases hlast : k = n - 1
      · have he : ((k : Int) == (n : Int) - 1) = true := by simp; omega
        clear hlast
        go_wp2
        try rw [Exit.noGoto_ret]
        go_ret
        exact ⟨⟨k, rfl, by have := beq_iff_eq.1 he; omega, HGO.out, fun h => by have := beq_iff_eq.1 he; omega⟩, HBLO.out.alloc (by omega) _⟩
      · have hne : ((k : Int) == (n : Int) - 1) = false := by simp; omega
        have hmm := HM.out k hlt
        have hkn : k ≤ 17592186044416 := by omega
        by_cases hkb : 0 < kb
        · have d1 : decide (0 < kb) = true := by simpa using hkb
          go_wp2_with fail
          go_quiet (fail)
          go_wp2_with (go_at_call 39; refine (ret.older_any _ _ _ _ (by omega) (by omega) (by omega) (by omega) (by omega) (by omega)).mono ?_; rintro e w' ⟨rfl, rfl⟩)
          all_goals first
            | (go_roundw
               case rel =>
                 have hg : ret.goes f n kb ka now k = true := ret.goes_yes (by omega)
                 exact ⟨k + 1, by omega, fun _ => by omega, by go_num, by go_num, ret.goes_step HGO.out hg, bdrew (HB.out.alloc HB.out.size _) _⟩
               case measure => simp [intOf]; omega)
            | (try rw [Exit.noGoto_ret]
               go_ret
               have hg : ret.goes f n kb ka now k = false := ret.goes_no (by omega) (by omega)
               exact ⟨⟨k, rfl, by omega, HGO.out, fun _ => hg⟩, bdrew (HBLO.out.alloc (by omega) _) _⟩)
        · have d1 : decide (0 < kb) = false := by simpa using hkb
          go_wp2_with fail
          go_quiet (fail)
          go_wp2_with (go_at_call 39; refine (ret.older_any _ _ _ _ (by omega) (by omega) (by omega) (by omega) (by omega) (by omega)).mono ?_; rintro e w' ⟨rfl, rfl⟩)
          all_goals first
            | (go_roundw
               case rel =>
                 have hg : ret.goes f n kb ka now k = true := ret.goes_yes (by omega)
                 exact ⟨k + 1, by omega, fun _ => by omega, by go_num, by go_num, ret.goes_step HGO.out hg, bdrew (HB.out.alloc HB.out.size _) _⟩
               case measure => simp [intOf]; omega)
            | (try rw [Exit.noGoto_ret]
               go_ret
               have hg : ret.goes f n kb ka now k = false := ret.goes_no (by omega) (by omega)
               exact ⟨⟨k, rfl, by omega, HGO.out, fun _ => hg⟩, bdrew (HBLO.out.alloc (by omega) _) _⟩)
    · have h0 : n = 0 := by
        rcases Nat.eq_zero_or_pos n with h | h
        · exact h
        · have := HK'.out h; omega
      have hblo : Below w.heap.size w wr := HB0.out.trans (HB.out.mono (by omega))
      have HBLO := Lib.hid hblo; clear hblo
      go_wp2
      try rw [Exit.noGoto_ret]
      go_ret
      exact ⟨⟨0, ret_num (by omega), by omega, fun j hj => absurd hj (by omega), fun h => absurd h (by omega)⟩, HBLO.out⟩
end Go.Proofs.Ytmkjknlhamggnaa

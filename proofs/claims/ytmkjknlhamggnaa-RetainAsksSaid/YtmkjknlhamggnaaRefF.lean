/- Contract of the reference's Front (cordwainref10). -/
import Derived.Test.YtmkjknlhamggnaaRefA
namespace Go.Proofs.Ytmkjknlhamggnaa
open Go.RowKit

/-- The sum of m numbers from i on, each held. -/
def ret.hsum (B : Nat → Int) (i : Nat) : Nat → Int
  | 0 => 0
  | m + 1 => ret.hsum B i m + ret.held (B (i + m))
theorem ret.hsum_cons (B : Nat → Int) (i m : Nat) : ret.hsum B i (m + 1) = ret.held (B i) + ret.hsum B (i + 1) m := by
  induction m with
  | zero => simp [ret.hsum]
  | succ m ih => rw [ret.hsum, ih, ret.hsum]; rw [show i + 1 + m = i + (m + 1) by omega]; omega
theorem ret.hsum_pos (B : Nat → Int) (i m : Nat) : 0 ≤ ret.hsum B i m := by
  induction m with
  | zero => simp [ret.hsum]
  | succ m ih =>
    have := ret.held_bd (B (i + m))
    rw [ret.hsum]; omega
theorem ret.suf_hsum (B : Nat → Int) (n d : Nat) (hd : d ≤ n) : ret.suf B n d = min (ret.hsum B (n - d) d) 1125899906842624 := by
  induction d with
  | zero => simp only [ret.suf, ret.hsum]; omega
  | succ d ih =>
    have hi := ih (by omega)
    have hp := ret.hsum_pos B (n - d) d
    have hb := ret.held_bd (B (n - (d + 1)))
    rw [ret.suf, hi, ret.hsum_cons, show n - (d + 1) + 1 = n - d by omega]
    generalize ret.held (B (n - (d + 1))) = x at *
    unfold ret.held
    omega
theorem ret.rsum_hsum (f : Nat → Nat → Int) (i m : Nat) : ret.rsum (fun j => f (i + j)) m = min (ret.hsum (f · 2) i m) 1125899906842624 := by
  induction m with
  | zero => simp only [ret.rsum, ret.hsum]; omega
  | succ m ih =>
    have hp := ret.hsum_pos (f · 2) i m
    have hb := ret.held_bd (f (i + m) 2)
    rw [ret.rsum, ih, ret.hsum]
    show min (_ + min (max (f (i + m) 2) 0) _) _ = min (_ + ret.held (f (i + m) 2)) _
    unfold ret.held at *
    omega
theorem ret.rsum_suf' (f : Nat → Nat → Int) (n i : Nat) (hi : i ≤ n) : ret.rsum (fun j => f (i + j)) (n - i) = ret.suf (f · 2) n (n - i) := by
  rw [ret.rsum_hsum, ret.suf_hsum _ n (n - i) (by omega), show n - (n - i) = i by omega]

theorem ret.refolder_pos (n t a : Int) (w : World) (ht : 0 ≤ t) (ht' : t ≤ 1125899906842624) (hn : 0 ≤ n) (hn' : n ≤ 1125899906842624) (ha : 0 < a) :
    Calls Try.prog 40 #[.int .i64 n, .int .i64 t, .int .i64 a] w fun e w' => e = .returned (.bool (decide (a < n - t))) ∧ w' = w := by
  refine (ret.refolder_any n t a w ht ht' hn hn').mono ?_
  rintro e w' ⟨rfl, rfl⟩
  exact ⟨by rw [ret.older_say _ _ _ ha], rfl⟩

set_option maxHeartbeats 1000000 in
theorem ret.reffront_any (A : Option Addr) (n c : Nat) (f : Nat → Nat → Int) (V : Nat → Value) (c0 c1 c2 kb ka c6 c7 : Int) (c5 c8 : Bool) (now : Int) (w : World) (hn : n ≤ 17592186044416) (hnc : n ≤ c ∧ c ≤ maxLen) (hat : At w A (n * 5) V)
    (hV : ∀ i j, i < n → j < 5 → V (i * 5 + j) = .int .i64 (f i j)) (hM : ∀ i, i < n → 0 ≤ f i 4 ∧ f i 4 ≤ 1125899906842624) (hw : 0 ≤ now) (hw' : now ≤ 1125899906842624) :
    Calls Try.prog 27 #[.slice A n c, .agg #[.int .i64 c0, .int .i64 c1, .int .i64 c2, .int .i64 kb, .int .i64 ka, .bool c5, .int .i64 c6, .int .i64 c7, .bool c8], .int .i64 now] w
      fun e w' => (∃ k : Nat, e = .returned (.int .i64 k) ∧ ret.FrontIs f n kb ka now k) ∧ Below w.heap.size w w' := by
  have HAT := Lib.hid hat; clear hat
  have HV := Lib.hid hV; clear hV
  have HM := Lib.hid hM; clear hM
  obtain ⟨hnc, hcm⟩ := hnc
  unfold maxLen at hcm
  go_enter Try.func27, Try.ntmps27
  go_wp2_with fail
  go_loopw [7] (fun i wr => ∃ k : Nat, k ≤ n - 1 ∧ i = .int .i64 k ∧ (∀ j, j < k → ret.goes f n kb ka now j = true) ∧ Below w.heap.size w wr ∧ w.heap.size < wr.heap.size ∧ wr.cell? ⟨w.heap.size, 3, none⟩ = some (.int .i64 kb) ∧ wr.cell? ⟨w.heap.size, 4, none⟩ = some (.int .i64 ka)) (fun i _ => n - (intOf i).toNat)
  case atStart => exact ⟨0, by omega, rfl, fun j hj => absurd hj (by omega), (Below.refl _ _).alloc (Nat.le_refl _) _, by simp, by simp [go_sem], by simp [go_sem]⟩
  case round =>
    obtain ⟨k, hk, rfl, hgo, hb, hzz, hc3, hc4⟩ := hrel
    have HGO := Lib.hid hgo; clear hgo
    have HB := Lib.hid hb; clear hb
    by_cases hlt : k + 1 < n
    · obtain ⟨b, off, rfl, hbb, hc⟩ := HAT.out (by omega)
      have hcx : ∀ j, j < n * 5 → wr.cell? ⟨b, off + j, none⟩ = some (V j) := fun j hj => by
        rw [HB.out.cell (by exact hbb), hc _ hj]
      clear hc
      have HCX := Lib.hid hcx; clear hcx
      have hx4 : wr.cell? ⟨b, off + k * 5 + 4, none⟩ = some (.int .i64 (f k 4)) := by rw [Nat.add_assoc, HCX.out _ (by omega), HV.out k 4 (by omega) (by omega)]
      have hi1 : (k : Int) + 1 < n := by omega
      have hi0 : (0 : Int) ≤ k := by omega
      have hkn : k < n := by omega
      have hcap : c ≠ k := by omega
      have hmc : k < c := by omega
      have hmm := HM.out k (by omega)
      have hbz : b < wr.heap.size := by omega
      have hz := ret.rsum_suf' f n k (by omega)
      have hsum : ∀ m : Nat, Calls Try.prog 31 #[.slice (some ⟨b, off + k * 5, none⟩) (n - k) (c - k)] (wr.drewN m) fun e w' => e = .returned (.int .i64 (ret.suf (f · 2) n (n - k))) ∧ w' = wr.drewN m := fun m => by
        rw [← hz]
        refine (ret.refsum_any _ (n - k) _ (fun j => V (k * 5 + j)) (fun j => f (k + j)) (wr.drewN m) (by omega) (fun _ => ⟨b, off + k * 5, rfl, by simpa [go_sem] using hbz, fun j hj => ?_⟩) (fun i hi => ?_)).mono ?_
        · have := HCX.out (k * 5 + j) (by omega)
          rw [← Nat.add_assoc] at this
          simpa [go_sem] using this
        · show V (k * 5 + (i * 5 + 2)) = _
          rw [show k * 5 + (i * 5 + 2) = (k + i) * 5 + 2 by omega]; exact HV.out (k + i) 2 (by omega) (by omega)
        rintro e w' ⟨rfl, rfl⟩
        exact ⟨rfl, rfl⟩
      have HSUM := Lib.hid hsum; clear hsum
      have hold : 0 < ka → ∀ w' : World, Calls Try.prog 40 #[.int .i64 now, .int .i64 (f k 4), .int .i64 ka] w' fun e w'' => e = .returned (.bool (decide (ka < now - f k 4))) ∧ w'' = w' := fun h w' => ret.refolder_pos now (f k 4) ka w' hmm.1 hmm.2 hw hw' h
      have HOLD := Lib.hid hold; clear hold
      clear hz
      by_cases hkb : 0 < kb
      · have d1 : decide (0 < kb) = true := by simpa using hkb
        by_cases hka : 0 < ka
        · have d2 : decide (0 < ka) = true := by simpa using hka
          go_wp2_with fail
          go_quiet ((go_at_call 31; exact Calls.quiet_of_same (HSUM.out _)))
          have hb2 : Below w.heap.size w (wr.drewN nq) := bdrew HB.out _
          have hz2 : w.heap.size < (wr.drewN nq).heap.size := by simpa [go_sem] using hzz
          have q3 : (wr.drewN nq).cell? ⟨w.heap.size, 3, none⟩ = some (.int .i64 kb) := by simpa [go_sem] using hc3
          have q4 : (wr.drewN nq).cell? ⟨w.heap.size, 4, none⟩ = some (.int .i64 ka) := by simpa [go_sem] using hc4
          have q5 : (wr.drewN nq).cell? ⟨b, off + k * 5 + 4, none⟩ = some (.int .i64 (f k 4)) := by simpa [go_sem] using hx4
          clear HB HSUM HCX hc3 hc4 hx4 hzz hbz
          generalize wr.drewN nq = w2 at hb2 hz2 q3 q4 q5 ⊢
          have HB2 := Lib.hid hb2; clear hb2
          go_wp2_with fail
          go_quiet ((go_at_call 40; exact Calls.quiet_of_same (HOLD.out hka _)))
          have hdec : ∀ p : Prop, [Decidable p] → decide p = true ∨ decide p = false := fun p _ => by cases decide p <;> simp
          rcases hdec (kb < ret.suf (f · 2) n (n - k)) with e1 | e1 <;> rcases hdec (ka < now - f k 4) with e2 | e2
          all_goals
            clear hdec
            go_wp2
            simp only [decide_eq_true_eq, decide_eq_false_iff_not] at e1 e2
            first
              | (go_roundw
                 case rel =>
                   have hg : ret.goes f n kb ka now k = true := ret.goes_yes (by omega)
                   exact ⟨k + 1, by omega, by go_num, ret.goes_step HGO.out hg, bdrew HB2.out _, by simpa [go_sem] using hz2, by simpa [go_sem] using q3, by simpa [go_sem] using q4⟩
                 case measure => simp [intOf]; omega)
              | (try rw [Exit.noGoto_ret]
                 go_ret
                 have hg : ret.goes f n kb ka now k = false := ret.goes_no (by omega) (by omega)
                 exact ⟨⟨k, rfl, by omega, HGO.out, fun _ => hg⟩, bdrew HB2.out _⟩)
        · have d2 : decide (0 < ka) = false := by simpa using hka
          go_wp2_with fail
          go_quiet ((go_at_call 31; exact Calls.quiet_of_same (HSUM.out _)))
          have hb2 : Below w.heap.size w (wr.drewN nq) := bdrew HB.out _
          have hz2 : w.heap.size < (wr.drewN nq).heap.size := by simpa [go_sem] using hzz
          have q3 : (wr.drewN nq).cell? ⟨w.heap.size, 3, none⟩ = some (.int .i64 kb) := by simpa [go_sem] using hc3
          have q4 : (wr.drewN nq).cell? ⟨w.heap.size, 4, none⟩ = some (.int .i64 ka) := by simpa [go_sem] using hc4
          have q5 : (wr.drewN nq).cell? ⟨b, off + k * 5 + 4, none⟩ = some (.int .i64 (f k 4)) := by simpa [go_sem] using hx4
          clear HB HSUM HCX hc3 hc4 hx4 hzz hbz
          generalize wr.drewN nq = w2 at hb2 hz2 q3 q4 q5 ⊢
          have HB2 := Lib.hid hb2; clear hb2
          go_wp2_with fail
          go_quiet ((go_at_call 40; exact Calls.quiet_of_same (HOLD.out hka _)))
          have hdec : ∀ p : Prop, [Decidable p] → decide p = true ∨ decide p = false := fun p _ => by cases decide p <;> simp
          rcases hdec (kb < ret.suf (f · 2) n (n - k)) with e1 | e1 <;> rcases hdec (ka < now - f k 4) with e2 | e2
          all_goals
            clear hdec
            go_wp2
            simp only [decide_eq_true_eq, decide_eq_false_iff_not] at e1 e2
            first
              | (go_roundw
                 case rel =>
                   have hg : ret.goes f n kb ka now k = true := ret.goes_yes (by omega)
                   exact ⟨k + 1, by omega, by go_num, ret.goes_step HGO.out hg, bdrew HB2.out _, by simpa [go_sem] using hz2, by simpa [go_sem] using q3, by simpa [go_sem] using q4⟩
                 case measure => simp [intOf]; omega)
              | (try rw [Exit.noGoto_ret]
                 go_ret
                 have hg : ret.goes f n kb ka now k = false := ret.goes_no (by omega) (by omega)
                 exact ⟨⟨k, rfl, by omega, HGO.out, fun _ => hg⟩, bdrew HB2.out _⟩)
      · have d1 : decide (0 < kb) = false := by simpa using hkb
        by_cases hka : 0 < ka
        · have d2 : decide (0 < ka) = true := by simpa using hka
          go_wp2_with fail
          go_quiet ((go_at_call 31; exact Calls.quiet_of_same (HSUM.out _)))
          have hb2 : Below w.heap.size w (wr.drewN nq) := bdrew HB.out _
          have hz2 : w.heap.size < (wr.drewN nq).heap.size := by simpa [go_sem] using hzz
          have q3 : (wr.drewN nq).cell? ⟨w.heap.size, 3, none⟩ = some (.int .i64 kb) := by simpa [go_sem] using hc3
          have q4 : (wr.drewN nq).cell? ⟨w.heap.size, 4, none⟩ = some (.int .i64 ka) := by simpa [go_sem] using hc4
          have q5 : (wr.drewN nq).cell? ⟨b, off + k * 5 + 4, none⟩ = some (.int .i64 (f k 4)) := by simpa [go_sem] using hx4
          clear HB HSUM HCX hc3 hc4 hx4 hzz hbz
          generalize wr.drewN nq = w2 at hb2 hz2 q3 q4 q5 ⊢
          have HB2 := Lib.hid hb2; clear hb2
          go_wp2_with fail
          go_quiet ((go_at_call 40; exact Calls.quiet_of_same (HOLD.out hka _)))
          have hdec : ∀ p : Prop, [Decidable p] → decide p = true ∨ decide p = false := fun p _ => by cases decide p <;> simp
          rcases hdec (kb < ret.suf (f · 2) n (n - k)) with e1 | e1 <;> rcases hdec (ka < now - f k 4) with e2 | e2
          all_goals
            clear hdec
            go_wp2
            simp only [decide_eq_true_eq, decide_eq_false_iff_not] at e1 e2
            first
              | (go_roundw
                 case rel =>
                   have hg : ret.goes f n kb ka now k = true := ret.goes_yes (by omega)
                   exact ⟨k + 1, by omega, by go_num, ret.goes_step HGO.out hg, bdrew HB2.out _, by simpa [go_sem] using hz2, by simpa [go_sem] using q3, by simpa [go_sem] using q4⟩
                 case measure => simp [intOf]; omega)
              | (try rw [Exit.noGoto_ret]
                 go_ret
                 have hg : ret.goes f n kb ka now k = false := ret.goes_no (by omega) (by omega)
                 exact ⟨⟨k, rfl, by omega, HGO.out, fun _ => hg⟩, bdrew HB2.out _⟩)
        · have d2 : decide (0 < ka) = false := by simpa using hka
          go_wp2_with fail
          go_quiet ((go_at_call 31; exact Calls.quiet_of_same (HSUM.out _)))
          have hb2 : Below w.heap.size w (wr.drewN nq) := bdrew HB.out _
          have hz2 : w.heap.size < (wr.drewN nq).heap.size := by simpa [go_sem] using hzz
          have q3 : (wr.drewN nq).cell? ⟨w.heap.size, 3, none⟩ = some (.int .i64 kb) := by simpa [go_sem] using hc3
          have q4 : (wr.drewN nq).cell? ⟨w.heap.size, 4, none⟩ = some (.int .i64 ka) := by simpa [go_sem] using hc4
          have q5 : (wr.drewN nq).cell? ⟨b, off + k * 5 + 4, none⟩ = some (.int .i64 (f k 4)) := by simpa [go_sem] using hx4
          clear HB HSUM HCX hc3 hc4 hx4 hzz hbz
          generalize wr.drewN nq = w2 at hb2 hz2 q3 q4 q5 ⊢
          have HB2 := Lib.hid hb2; clear hb2
          go_wp2_with fail
          go_quiet ((go_at_call 40; exact Calls.quiet_of_same (HOLD.out hka _)))
          have hdec : ∀ p : Prop, [Decidable p] → decide p = true ∨ decide p = false := fun p _ => by cases decide p <;> simp
          rcases hdec (kb < ret.suf (f · 2) n (n - k)) with e1 | e1 <;> rcases hdec (ka < now - f k 4) with e2 | e2
          all_goals
            clear hdec
            go_wp2
            simp only [decide_eq_true_eq, decide_eq_false_iff_not] at e1 e2
            first
              | (go_roundw
                 case rel =>
                   have hg : ret.goes f n kb ka now k = true := ret.goes_yes (by omega)
                   exact ⟨k + 1, by omega, by go_num, ret.goes_step HGO.out hg, bdrew HB2.out _, by simpa [go_sem] using hz2, by simpa [go_sem] using q3, by simpa [go_sem] using q4⟩
                 case measure => simp [intOf]; omega)
              | (try rw [Exit.noGoto_ret]
                 go_ret
                 have hg : ret.goes f n kb ka now k = false := ret.goes_no (by omega) (by omega)
                 exact ⟨⟨k, rfl, by omega, HGO.out, fun _ => hg⟩, bdrew HB2.out _⟩)
    · have hi : ¬ ((k : Int) + 1 < n) := by omega
      go_wp2
      go_ret
      exact ⟨⟨k, rfl, hk, HGO.out, fun h => absurd h hlt⟩, HB.out⟩
end Go.Proofs.Ytmkjknlhamggnaa

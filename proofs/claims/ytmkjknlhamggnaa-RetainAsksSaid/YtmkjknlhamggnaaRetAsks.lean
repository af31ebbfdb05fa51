/- The walk of the law RetainAsks: it answers true, whatever the input. -/
import Derived.Test.YtmkjknlhamggnaaRefF
import Derived.Test.YtmkjknlhamggnaaRetE
import Derived.Deep.RegionHeld3
namespace Go.Proofs.Ytmkjknlhamggnaa
open Go.RowKit

theorem Below.next {a b c : World} {R : Prop} (h : Below a.heap.size a b ∧ R) (hb : Below b.heap.size b c) : Below a.heap.size a c := h.1.trans (hb.mono h.1.size)
theorem Below.of {n : Nat} {a b : World} {R : Prop} (h : Below n a b ∧ R) : Below n a b := h.1
theorem ret.rsum_total (f : Nat → Nat → Int) (n : Nat) : ret.rsum f n = ret.total (f · 2) n := by
  have := ret.rsum_suf' f n 0 (Nat.zero_le _)
  simpa [ret.total] using this

set_option maxRecDepth 100000 in
set_option maxHeartbeats 2000000 in
theorem ret.lawAsks (A : Option Addr) (n c : Nat) (V : Nat → Value) (f : Nat → Nat → Int) (c0 c1 c2 c3 c4 : Int) (c5 : Bool) (c6 c7 : Int) (c8 : Bool) (now start more : Int) (w : World) (hn : n ≤ c ∧ c ≤ maxLen) (hat : At w A (n * 5) V)
    (hV : ∀ i j, i < n → j < 5 → V (i * 5 + j) = .int .i64 (f i j)) (hs0 : -9223372036854775808 ≤ c0 ∧ c0 ≤ 9223372036854775807) (hs1 : -9223372036854775808 ≤ c1 ∧ c1 ≤ 9223372036854775807) (hs4 : c4 ≤ 9223372036854775807) :
    Calls Try.prog 6 #[.slice A n c, .agg #[.int .i64 c0, .int .i64 c1, .int .i64 c2, .int .i64 c3, .int .i64 c4, .bool c5, .int .i64 c6, .int .i64 c7, .bool c8], .int .i64 now, .int .i64 start, .int .i64 more] w fun e w' => e = .returned (.bool true) ∧ Below w.heap.size w w' := by
  obtain ⟨hnc, hcm⟩ := hn
  unfold maxLen at hcm
  have HAT := Lib.hid hat; clear hat
  have HV := Lib.hid hV; clear hV
  go_enter Try.func6, Try.ntmps6
  go_wp2_with fail
  refine (ret.small_any A n c V f now _ (by omega) (HAT.out.alloc _) HV.out).mono ?_
  rintro e wa ⟨⟨s, rfl, hs⟩, hwa⟩

  have hq0 : wa.cell? ⟨w.heap.size, 0, none⟩ = some (.int .i64 c0) := by rw [← hwa]; simp [go_sem]
  have hq1 : wa.cell? ⟨w.heap.size, 1, none⟩ = some (.int .i64 c1) := by rw [← hwa]; simp [go_sem]
  have hq2 : wa.cell? ⟨w.heap.size, 2, none⟩ = some (.int .i64 c2) := by rw [← hwa]; simp [go_sem]
  have hq3 : wa.cell? ⟨w.heap.size, 3, none⟩ = some (.int .i64 c3) := by rw [← hwa]; simp [go_sem]
  have hq4 : wa.cell? ⟨w.heap.size, 4, none⟩ = some (.int .i64 c4) := by rw [← hwa]; simp [go_sem]
  have hq5 : wa.cell? ⟨w.heap.size, 5, none⟩ = some (.bool c5) := by rw [← hwa]; simp [go_sem]
  have hq6 : wa.cell? ⟨w.heap.size, 6, none⟩ = some (.int .i64 c6) := by rw [← hwa]; simp [go_sem]
  have hq7 : wa.cell? ⟨w.heap.size, 7, none⟩ = some (.int .i64 c7) := by rw [← hwa]; simp [go_sem]
  have hq8 : wa.cell? ⟨w.heap.size, 8, none⟩ = some (.bool c8) := by rw [← hwa]; simp [go_sem]
  have hba : Below w.heap.size w wa := by rw [← hwa]; exact (Below.refl _ _).alloc (Nat.le_refl _) _
  have hza : w.heap.size < wa.heap.size := by rw [← hwa]; simp
  clear hwa
  have HBA := Lib.hid hba; clear hba
  by_cases hin : s = true ∧ 0 ≤ more ∧ more ≤ 1099511627776
  · obtain ⟨rfl, hm1, hm2⟩ := hin
    obtain ⟨hn60, hw1, hw2, hmost⟩ := hs rfl
    clear hs
    have HM := Lib.hid hmost; clear hmost
    have d1 : decide (more < 0) = false := by simp; omega
    have d2 : decide (1099511627776 < more) = false := by simp; omega
    go_wp2_with fail
    refine (ret.made_any A n c V f wa (by omega) (HAT.out.below HBA.out (Nat.le_refl _)) HV.out).mono ?_
    rintro e w1 ⟨⟨v, rfl, hown⟩, hb1⟩
    obtain ⟨A1, c1', rfl, hc1, hat1⟩ := own_at hown
    clear hown
    have hr0 : w1.cell? ⟨w.heap.size, 0, none⟩ = some (.int .i64 c0) := (hb1.cell (by exact hza)).trans hq0
    have hr1 : w1.cell? ⟨w.heap.size, 1, none⟩ = some (.int .i64 c1) := (hb1.cell (by exact hza)).trans hq1
    have hr2 : w1.cell? ⟨w.heap.size, 2, none⟩ = some (.int .i64 c2) := (hb1.cell (by exact hza)).trans hq2
    have hr3 : w1.cell? ⟨w.heap.size, 3, none⟩ = some (.int .i64 c3) := (hb1.cell (by exact hza)).trans hq3
    have hr4 : w1.cell? ⟨w.heap.size, 4, none⟩ = some (.int .i64 c4) := (hb1.cell (by exact hza)).trans hq4
    have hr5 : w1.cell? ⟨w.heap.size, 5, none⟩ = some (.bool c5) := (hb1.cell (by exact hza)).trans hq5
    have hr6 : w1.cell? ⟨w.heap.size, 6, none⟩ = some (.int .i64 c6) := (hb1.cell (by exact hza)).trans hq6
    have hr7 : w1.cell? ⟨w.heap.size, 7, none⟩ = some (.int .i64 c7) := (hb1.cell (by exact hza)).trans hq7
    have hr8 : w1.cell? ⟨w.heap.size, 8, none⟩ = some (.bool c8) := (hb1.cell (by exact hza)).trans hq8
    clear hq0 hq1 hq2 hq3 hq4 hq5 hq6 hq7 hq8
    have hz1 : w.heap.size < w1.heap.size := by have := hb1.size; omega
    have hbw1 : Below w.heap.size w w1 := HBA.out.trans (hb1.mono HBA.out.size)
    clear hb1 HBA
    have HBW1 := Lib.hid hbw1; clear hbw1
    have HAT1 := Lib.hid hat1; clear hat1
    clear hc1 hza
    go_wp2
    go_loopw [12] (fun i wr => ∃ k : Nat, k ≤ n ∧ i = .int .i64 k ∧ Below w1.heap.size w1 wr) (fun i _ => n - (intOf i).toNat)
    case atStart => exact ⟨0, by omega, rfl, Below.refl _ _⟩
    case round =>
      obtain ⟨k, hk, rfl, hb⟩ := hrel
      have hv0 : wr.cell? ⟨w.heap.size, 0, none⟩ = some (.int .i64 c0) := (hb.cell (by exact hz1)).trans hr0
      have hv1 : wr.cell? ⟨w.heap.size, 1, none⟩ = some (.int .i64 c1) := (hb.cell (by exact hz1)).trans hr1
      have hv2 : wr.cell? ⟨w.heap.size, 2, none⟩ = some (.int .i64 c2) := (hb.cell (by exact hz1)).trans hr2
      have hv3 : wr.cell? ⟨w.heap.size, 3, none⟩ = some (.int .i64 c3) := (hb.cell (by exact hz1)).trans hr3
      have hv4 : wr.cell? ⟨w.heap.size, 4, none⟩ = some (.int .i64 c4) := (hb.cell (by exact hz1)).trans hr4
      have hv5 : wr.cell? ⟨w.heap.size, 5, none⟩ = some (.bool c5) := (hb.cell (by exact hz1)).trans hr5
      have hv6 : wr.cell? ⟨w.heap.size, 6, none⟩ = some (.int .i64 c6) := (hb.cell (by exact hz1)).trans hr6
      have hv7 : wr.cell? ⟨w.heap.size, 7, none⟩ = some (.int .i64 c7) := (hb.cell (by exact hz1)).trans hr7
      have hv8 : wr.cell? ⟨w.heap.size, 8, none⟩ = some (.bool c8) := (hb.cell (by exact hz1)).trans hr8
      clear hr0 hr1 hr2 hr3 hr4 hr5 hr6 hr7 hr8
      have hbw : Below w.heap.size w wr := HBW1.out.trans (hb.mono HBW1.out.size)
      have hatw : At wr A (n * 5) V := HAT.out.below hbw (Nat.le_refl _)
      have hatx : At wr A1 (n * 5) (fun j => (rows5 f n).getD j undef) := HAT1.out.below hb (Nat.le_refl _)
      have HB := Lib.hid hb; clear hb
      have HBW := Lib.hid hbw; clear hbw
      have HATW := Lib.hid hatw; clear hatw
      have HATX := Lib.hid hatx; clear hatx
      clear HAT HAT1
      by_cases hlt : k < n
      · obtain ⟨b, off, rfl, hbb, hc⟩ := HATW.out (by omega)
        obtain ⟨b1, off1, rfl, hbb1, hcx⟩ := HATX.out (by omega)
        have hmm := HM.out k hlt
        have hki : (k : Int) < n := by omega
        have hki0 : (0 : Int) ≤ k := by omega
        have hl0 : wr.cell? ⟨b, off + k * 5, none⟩ = some (.int .i64 (f k 0)) := by rw [hc _ (by omega)]; exact congrArg some (HV.out k 0 hlt (by omega))
        have hx0 : wr.cell? ⟨b1, off1 + k * 5, none⟩ = some (.int .i64 (f k 0)) := by rw [hcx _ (by omega)]; exact congrArg some (rows5_get f n k 0 hlt (by omega))
        have hl1 : wr.cell? ⟨b, off + k * 5 + 1, none⟩ = some (.int .i64 (f k 1)) := by rw [Nat.add_assoc, hc _ (by omega)]; exact congrArg some (HV.out k 1 hlt (by omega))
        have hx1 : wr.cell? ⟨b1, off1 + k * 5 + 1, none⟩ = some (.int .i64 (f k 1)) := by rw [Nat.add_assoc, hcx _ (by omega)]; exact congrArg some (rows5_get f n k 1 hlt (by omega))
        have hl2 : wr.cell? ⟨b, off + k * 5 + 2, none⟩ = some (.int .i64 (f k 2)) := by rw [Nat.add_assoc, hc _ (by omega)]; exact congrArg some (HV.out k 2 hlt (by omega))
        have hx2 : wr.cell? ⟨b1, off1 + k * 5 + 2, none⟩ = some (.int .i64 (f k 2)) := by rw [Nat.add_assoc, hcx _ (by omega)]; exact congrArg some (rows5_get f n k 2 hlt (by omega))
        have hl3 : wr.cell? ⟨b, off + k * 5 + 3, none⟩ = some (.int .i64 (f k 3)) := by rw [Nat.add_assoc, hc _ (by omega)]; exact congrArg some (HV.out k 3 hlt (by omega))
        have hx3 : wr.cell? ⟨b1, off1 + k * 5 + 3, none⟩ = some (.int .i64 (f k 3)) := by rw [Nat.add_assoc, hcx _ (by omega)]; exact congrArg some (rows5_get f n k 3 hlt (by omega))
        have hl4 : wr.cell? ⟨b, off + k * 5 + 4, none⟩ = some (.int .i64 (f k 4)) := by rw [Nat.add_assoc, hc _ (by omega)]; exact congrArg some (HV.out k 4 hlt (by omega))
        have hx4 : wr.cell? ⟨b1, off1 + k * 5 + 4, none⟩ = some (.int .i64 (f k 4)) := by rw [Nat.add_assoc, hcx _ (by omega)]; exact congrArg some (rows5_get f n k 4 hlt (by omega))
        clear hc hcx
        have hzz : w.heap.size < wr.heap.size := by have := HB.out.size; omega
        by_cases hby : f k 2 ≤ 1125899906842624
        · have hall : ∀ w' : World, Below wr.heap.size wr w' → (Below wr.heap.size wr w' ∧ w'.cell? ⟨w.heap.size, 0, none⟩ = some (.int .i64 c0) ∧ w'.cell? ⟨w.heap.size, 1, none⟩ = some (.int .i64 c1) ∧ w'.cell? ⟨w.heap.size, 2, none⟩ = some (.int .i64 c2) ∧ w'.cell? ⟨w.heap.size, 3, none⟩ = some (.int .i64 c3) ∧ w'.cell? ⟨w.heap.size, 4, none⟩ = some (.int .i64 c4) ∧ w'.cell? ⟨w.heap.size, 5, none⟩ = some (.bool c5) ∧ w'.cell? ⟨w.heap.size, 6, none⟩ = some (.int .i64 c6) ∧ w'.cell? ⟨w.heap.size, 7, none⟩ = some (.int .i64 c7) ∧ w'.cell? ⟨w.heap.size, 8, none⟩ = some (.bool c8) ∧ w'.cell? ⟨b, off + k * 5, none⟩ = some (.int .i64 (f k 0)) ∧ w'.cell? ⟨b, off + k * 5 + 1, none⟩ = some (.int .i64 (f k 1)) ∧ w'.cell? ⟨b, off + k * 5 + 2, none⟩ = some (.int .i64 (f k 2)) ∧ w'.cell? ⟨b, off + k * 5 + 3, none⟩ = some (.int .i64 (f k 3)) ∧ w'.cell? ⟨b, off + k * 5 + 4, none⟩ = some (.int .i64 (f k 4)) ∧ w'.cell? ⟨b1, off1 + k * 5, none⟩ = some (.int .i64 (f k 0)) ∧ w'.cell? ⟨b1, off1 + k * 5 + 1, none⟩ = some (.int .i64 (f k 1)) ∧ w'.cell? ⟨b1, off1 + k * 5 + 2, none⟩ = some (.int .i64 (f k 2)) ∧ w'.cell? ⟨b1, off1 + k * 5 + 3, none⟩ = some (.int .i64 (f k 3)) ∧ w'.cell? ⟨b1, off1 + k * 5 + 4, none⟩ = some (.int .i64 (f k 4))) := fun w' h =>
            ⟨h, (h.cell (by exact hzz)).trans hv0, (h.cell (by exact hzz)).trans hv1, (h.cell (by exact hzz)).trans hv2, (h.cell (by exact hzz)).trans hv3, (h.cell (by exact hzz)).trans hv4, (h.cell (by exact hzz)).trans hv5, (h.cell (by exact hzz)).trans hv6, (h.cell (by exact hzz)).trans hv7, (h.cell (by exact hzz)).trans hv8, (h.cell (by exact hbb)).trans hl0, (h.cell (by exact hbb)).trans hl1, (h.cell (by exact hbb)).trans hl2, (h.cell (by exact hbb)).trans hl3, (h.cell (by exact hbb)).trans hl4, (h.cell (by exact hbb1)).trans hx0, (h.cell (by exact hbb1)).trans hx1, (h.cell (by exact hbb1)).trans hx2, (h.cell (by exact hbb1)).trans hx3, (h.cell (by exact hbb1)).trans hx4⟩
          have HALL := Lib.hid hall; clear hall
          go_wp2_with fail
          go_region_held3 (fun w' => Below wr.heap.size wr w' ∧ w'.cell? ⟨w.heap.size, 0, none⟩ = some (.int .i64 c0) ∧ w'.cell? ⟨w.heap.size, 1, none⟩ = some (.int .i64 c1) ∧ w'.cell? ⟨w.heap.size, 2, none⟩ = some (.int .i64 c2) ∧ w'.cell? ⟨w.heap.size, 3, none⟩ = some (.int .i64 c3) ∧ w'.cell? ⟨w.heap.size, 4, none⟩ = some (.int .i64 c4) ∧ w'.cell? ⟨w.heap.size, 5, none⟩ = some (.bool c5) ∧ w'.cell? ⟨w.heap.size, 6, none⟩ = some (.int .i64 c6) ∧ w'.cell? ⟨w.heap.size, 7, none⟩ = some (.int .i64 c7) ∧ w'.cell? ⟨w.heap.size, 8, none⟩ = some (.bool c8) ∧ w'.cell? ⟨b, off + k * 5, none⟩ = some (.int .i64 (f k 0)) ∧ w'.cell? ⟨b, off + k * 5 + 1, none⟩ = some (.int .i64 (f k 1)) ∧ w'.cell? ⟨b, off + k * 5 + 2, none⟩ = some (.int .i64 (f k 2)) ∧ w'.cell? ⟨b, off + k * 5 + 3, none⟩ = some (.int .i64 (f k 3)) ∧ w'.cell? ⟨b, off + k * 5 + 4, none⟩ = some (.int .i64 (f k 4)) ∧ w'.cell? ⟨b1, off1 + k * 5, none⟩ = some (.int .i64 (f k 0)) ∧ w'.cell? ⟨b1, off1 + k * 5 + 1, none⟩ = some (.int .i64 (f k 1)) ∧ w'.cell? ⟨b1, off1 + k * 5 + 2, none⟩ = some (.int .i64 (f k 2)) ∧ w'.cell? ⟨b1, off1 + k * 5 + 3, none⟩ = some (.int .i64 (f k 3)) ∧ w'.cell? ⟨b1, off1 + k * 5 + 4, none⟩ = some (.int .i64 (f k 4)))
            (first
              | exact HALL.out _ (Below.refl _ _).drew
              | exact HALL.out _ (Below.next (by assumption) (by assumption)))
            (first
              | (go_at_call 24; refine (ret.rolls_any _ _ _ _ _ _ _ _ _ _ _ _ _ _ _ _ _ hby hmm.2.2.1 hmm.2.2.2 hw1 hw2 hm1 (by omega) hs0.1 hs0.2 hs1.1 hs1.2).mono ?_; rintro e w' ⟨rfl, hb⟩)
              | (go_at_call 25; refine (ret.refrolls_any _ _ _ _ _ _ _ _ _ _ _ _ _ _ _ _ _ hby hmm.2.2.1 hmm.2.2.2 hw1 hw2 hm1 (by omega)).mono ?_; rintro e w' ⟨rfl, hb⟩))
          go_wp2
          go_roundw
          case rel => exact ⟨k + 1, by omega, by go_num, HB.out.trans ((Below.of (by assumption)).mono HB.out.size)⟩
          case measure => simp [intOf]; omega
        · go_wp2_with (go_at_call 22; refine (ret.awake_any _).mono ?_; rintro e w' ⟨rfl, hb⟩)
          go_ret
          exact ⟨rfl, HBW.out.trans (Below.mono (by assumption) HBW.out.size)⟩
      · obtain rfl : k = n := by omega
        clear hk hlt
        have hzz : w.heap.size < wr.heap.size := by have := HB.out.size; omega
        have hall : ∀ w' : World, Below wr.heap.size wr w' → (Below wr.heap.size wr w' ∧ w'.cell? ⟨w.heap.size, 0, none⟩ = some (.int .i64 c0) ∧ w'.cell? ⟨w.heap.size, 1, none⟩ = some (.int .i64 c1) ∧ w'.cell? ⟨w.heap.size, 2, none⟩ = some (.int .i64 c2) ∧ w'.cell? ⟨w.heap.size, 3, none⟩ = some (.int .i64 c3) ∧ w'.cell? ⟨w.heap.size, 4, none⟩ = some (.int .i64 c4) ∧ w'.cell? ⟨w.heap.size, 5, none⟩ = some (.bool c5) ∧ w'.cell? ⟨w.heap.size, 6, none⟩ = some (.int .i64 c6) ∧ w'.cell? ⟨w.heap.size, 7, none⟩ = some (.int .i64 c7) ∧ w'.cell? ⟨w.heap.size, 8, none⟩ = some (.bool c8)) := fun w' h =>
          ⟨h, (h.cell (by exact hzz)).trans hv0, (h.cell (by exact hzz)).trans hv1, (h.cell (by exact hzz)).trans hv2, (h.cell (by exact hzz)).trans hv3, (h.cell (by exact hzz)).trans hv4, (h.cell (by exact hzz)).trans hv5, (h.cell (by exact hzz)).trans hv6, (h.cell (by exact hzz)).trans hv7, (h.cell (by exact hzz)).trans hv8⟩
        have HALL := Lib.hid hall; clear hall
        have hxx : ∀ w' : World, Below wr.heap.size wr w' → At w' A1 (k * 5) (fun j => (rows5 f k).getD j undef) := fun w' h => HATX.out.below h (Nat.le_refl _)
        have HXX := Lib.hid hxx; clear hxx
        have hll : ∀ w' : World, Below wr.heap.size wr w' → At w' A (k * 5) V := fun w' h => HATW.out.below h (Nat.le_refl _)
        have HLL := Lib.hid hll; clear hll
        have htot := ret.rsum_total f k
        have HTOT := Lib.hid htot; clear htot
        have h17 : k ≤ 17592186044416 := by omega
        have h63 : k ≤ 9223372036854775807 := by omega
        have hmost2 : ∀ i, i < k → 0 ≤ f i 4 ∧ f i 4 ≤ 1125899906842624 := fun i hi => ⟨(HM.out i hi).1, (HM.out i hi).2.1⟩
        have HM2 := Lib.hid hmost2; clear hmost2
        have hlen : k ≤ c ∧ c ≤ maxLen := ⟨hnc, by unfold maxLen; omega⟩
        have HLEN := Lib.hid hlen; clear hlen
        go_wp2_with fail
        go_region_held3 (fun w' => Below wr.heap.size wr w' ∧ w'.cell? ⟨w.heap.size, 0, none⟩ = some (.int .i64 c0) ∧ w'.cell? ⟨w.heap.size, 1, none⟩ = some (.int .i64 c1) ∧ w'.cell? ⟨w.heap.size, 2, none⟩ = some (.int .i64 c2) ∧ w'.cell? ⟨w.heap.size, 3, none⟩ = some (.int .i64 c3) ∧ w'.cell? ⟨w.heap.size, 4, none⟩ = some (.int .i64 c4) ∧ w'.cell? ⟨w.heap.size, 5, none⟩ = some (.bool c5) ∧ w'.cell? ⟨w.heap.size, 6, none⟩ = some (.int .i64 c6) ∧ w'.cell? ⟨w.heap.size, 7, none⟩ = some (.int .i64 c7) ∧ w'.cell? ⟨w.heap.size, 8, none⟩ = some (.bool c8))
          (first
            | assumption
            | exact HALL.out _ (Below.refl _ _).drew
            | exact HALL.out _ (Below.next (by assumption) (by assumption)))
          (first
            | (go_at_call 26; refine (ret.front_any _ k _ f _ _ _ _ _ _ _ _ _ _ _ _ h17 (HXX.out _ (by first | exact (Below.refl _ _).drew | exact Below.of (by assumption))) (fun i j hi hj => rows5_get f k i j hi hj) HM2.out hw1 hw2 hs4).mono ?_; rintro e w' ⟨⟨k1, rfl, hk1⟩, hb⟩)
            | (go_at_call 27; refine (ret.reffront_any _ k _ f _ _ _ _ _ _ _ _ _ _ _ _ h17 HLEN.out (HLL.out _ (by first | exact (Below.refl _ _).drew | exact Below.of (by assumption))) HV.out HM2.out hw1 hw2).mono ?_; rintro e w' ⟨⟨k2, rfl, hk2⟩, hb⟩; obtain rfl := ret.frontIs_one hk1 hk2)
            | (go_at_call 28; refine (ret.trim_any _ k _ _ (f · 1) start _ h17 (HXX.out _ (by first | exact (Below.refl _ _).drew | exact Below.of (by assumption))) (fun i hi => rows5_get f k i 1 hi (by omega))).mono ?_; rintro e w' ⟨⟨k3, rfl, hk3⟩, rfl⟩)
            | (go_at_call 29; refine (ret.reftrim_any _ k _ _ (f · 1) start _ h17 (HLL.out _ (by first | exact (Below.refl _ _).drew | exact Below.of (by assumption))) (fun i hi => HV.out i 1 hi (by omega))).mono ?_; rintro e w' ⟨⟨k4, rfl, hk4⟩, rfl⟩; obtain rfl := ret.trimIs_one hk3 hk4)
            | (go_at_call 30; refine (ret.sum_any _ k _ _ (f · 2) _ h17 (HXX.out _ (by first | exact (Below.refl _ _).drew | exact Below.of (by assumption))) (fun i hi => rows5_get f k i 2 hi (by omega))).mono ?_; rintro e w' ⟨rfl, hb⟩)
            | (go_at_call 31; refine (ret.refsum_any _ k _ _ f _ h63 (HLL.out _ (by first | exact (Below.refl _ _).drew | exact Below.of (by assumption))) (fun i hi => HV.out i 2 hi (by omega))).mono ?_; rintro e w' ⟨rfl, rfl⟩; rw [HTOT.out])
            | (go_at_call 22; refine (ret.awake_any _).mono ?_; rintro e w' ⟨rfl, hb⟩))
        go_wp2
        go_ret
        exact ⟨rfl, HBW.out.trans ((Below.of (by assumption)).mono HBW.out.size)⟩
  · have HIN := Lib.hid hin; clear hin
    clear hs
    cases s
    · go_wp2_with (go_at_call 22; refine (ret.awake_any _).mono ?_; rintro e w' ⟨rfl, hb⟩)
      go_ret
      exact ⟨rfl, HBA.out.trans (Below.mono (by assumption) HBA.out.size)⟩
    · go_wp2_with (go_at_call 22; refine (ret.awake_any _).mono ?_; rintro e w' ⟨rfl, hb⟩)
      all_goals first
        | (go_ret; exact ⟨rfl, HBA.out.trans (Below.mono (by assumption) HBA.out.size)⟩)
        | (exfalso; have := HIN.out; simp at this; omega)
end Go.Proofs.Ytmkjknlhamggnaa

/- The reference of chapter 5: Check. -/
import Derived.Test.YtahncanmfjmfnaaBwC
namespace Go.Proofs.Ytahncanmfjmfnaa
open Go.RowKit

set_option maxRecDepth 20000 in
set_option maxHeartbeats 12000000 in
theorem ref.check_any (b : Bat) (A : Option Addr) (c : Nat) (w : World) (hv : RecsV w (.slice A b.recs.length c) b.recs) :
    Calls Try.prog 29 #[b.hval A b.recs.length c] w fun e w' => e = .returned (.int .i64 b.check) ∧ Below w.heap.size w w' := by
  obtain ⟨x0, x1, x2, x3, x4, rs⟩ := b
  dsimp only at *
  have hbool : ∀ r : Bool, (r = true ↔ ¬ (⟨x0, x1, x2, x3, x4, rs⟩ : Bat).may) → Value.bool r = .bool (decide (¬ (⟨x0, x1, x2, x3, x4, rs⟩ : Bat).may)) := fun r h => by
    congr 1
    by_cases hm : (⟨x0, x1, x2, x3, x4, rs⟩ : Bat).may
    · have : r = false := by cases r <;> simp_all
      rw [this]; exact (decide_eq_false (fun h => h hm)).symm
    · rw [h.2 hm]; exact (decide_eq_true hm).symm
  have HBOOL := Lib.hid hbool; clear hbool
  have HV := Lib.hid hv; clear hv
  obtain ⟨w1, hw1⟩ : ∃ w1, w1 = w.alloc (.cells #[.int .i64 x0, .int .i64 x1, .int .i64 x2, .int .i64 x3, .int .i64 x4, .slice A rs.length c] 42) := ⟨_, rfl⟩
  have hbk : Blk w1 w.heap.size 42 #[.int .i64 x0, .int .i64 x1, .int .i64 x2, .int .i64 x3, .int .i64 x4, .slice A rs.length c] := by rw [hw1]; exact Blk.new _ _ _
  have hb1 : Below w.heap.size w w1 := by rw [hw1]; exact (Below.refl _ w).alloc (Nat.le_refl _) _
  have hlt1 : w.heap.size < w1.heap.size := hbk.lt
  have HBK := Lib.hid hbk; clear hbk
  have HB1 := Lib.hid hb1; clear hb1
  have HW1 := Lib.hid hw1; clear hw1
  unfold Bat.hval at *
  go_enter Try.func29, Try.ntmps29
  go_upto_region 1 with fail
  rw [← HW1.out]
  clear HW1
  generalize (Value.agg #[.int .i64 x0, .int .i64 x1, .int .i64 x2, .int .i64 x3, .int .i64 x4, .slice A rs.length c]) = V0
  go_cut [70] from 6 to 70 (fun s70 wx => s70 = .bool (decide (¬ (⟨x0, x1, x2, x3, x4, rs⟩ : Bat).may)) ∧ wx = w1)
  case first =>
    have hall : (x0 < 0) ∨ (¬ x0 < 0 ∧ 4611686018427387904 < x0) ∨ (¬ x0 < 0 ∧ ¬ 4611686018427387904 < x0 ∧ x1 < x0) ∨ (¬ x0 < 0 ∧ ¬ 4611686018427387904 < x0 ∧ ¬ x1 < x0 ∧ 4611686018427387904 < x1) ∨ (¬ x0 < 0 ∧ ¬ 4611686018427387904 < x0 ∧ ¬ x1 < x0 ∧ ¬ 4611686018427387904 < x1 ∧ x2 < 0) ∨ (¬ x0 < 0 ∧ ¬ 4611686018427387904 < x0 ∧ ¬ x1 < x0 ∧ ¬ 4611686018427387904 < x1 ∧ ¬ x2 < 0 ∧ 1099511627776 < x2) ∨ (¬ x0 < 0 ∧ ¬ 4611686018427387904 < x0 ∧ ¬ x1 < x0 ∧ ¬ 4611686018427387904 < x1 ∧ ¬ x2 < 0 ∧ ¬ 1099511627776 < x2 ∧ x3 < 0) ∨ (¬ x0 < 0 ∧ ¬ 4611686018427387904 < x0 ∧ ¬ x1 < x0 ∧ ¬ 4611686018427387904 < x1 ∧ ¬ x2 < 0 ∧ ¬ 1099511627776 < x2 ∧ ¬ x3 < 0 ∧ 32767 < x3) ∨ (¬ x0 < 0 ∧ ¬ 4611686018427387904 < x0 ∧ ¬ x1 < x0 ∧ ¬ 4611686018427387904 < x1 ∧ ¬ x2 < 0 ∧ ¬ 1099511627776 < x2 ∧ ¬ x3 < 0 ∧ ¬ 32767 < x3 ∧ x4 < 0) ∨ (¬ x0 < 0 ∧ ¬ 4611686018427387904 < x0 ∧ ¬ x1 < x0 ∧ ¬ 4611686018427387904 < x1 ∧ ¬ x2 < 0 ∧ ¬ 1099511627776 < x2 ∧ ¬ x3 < 0 ∧ ¬ 32767 < x3 ∧ ¬ x4 < 0 ∧ 2147483647 < x4) ∨ (¬ x0 < 0 ∧ ¬ 4611686018427387904 < x0 ∧ ¬ x1 < x0 ∧ ¬ 4611686018427387904 < x1 ∧ ¬ x2 < 0 ∧ ¬ 1099511627776 < x2 ∧ ¬ x3 < 0 ∧ ¬ 32767 < x3 ∧ ¬ x4 < 0 ∧ ¬ 2147483647 < x4 ∧ ¬ x2 = 0) ∨ (¬ x0 < 0 ∧ ¬ 4611686018427387904 < x0 ∧ ¬ x1 < x0 ∧ ¬ 4611686018427387904 < x1 ∧ ¬ x2 < 0 ∧ ¬ 1099511627776 < x2 ∧ ¬ x3 < 0 ∧ ¬ 32767 < x3 ∧ ¬ x4 < 0 ∧ ¬ 2147483647 < x4 ∧ x2 = 0 ∧ ¬ x3 = 0) ∨ (¬ x0 < 0 ∧ ¬ 4611686018427387904 < x0 ∧ ¬ x1 < x0 ∧ ¬ 4611686018427387904 < x1 ∧ ¬ x2 < 0 ∧ ¬ 1099511627776 < x2 ∧ ¬ x3 < 0 ∧ ¬ 32767 < x3 ∧ ¬ x4 < 0 ∧ ¬ 2147483647 < x4 ∧ x2 = 0 ∧ x3 = 0 ∧ ¬ x4 = 0) ∨ (¬ x0 < 0 ∧ ¬ 4611686018427387904 < x0 ∧ ¬ x1 < x0 ∧ ¬ 4611686018427387904 < x1 ∧ ¬ x2 < 0 ∧ ¬ 1099511627776 < x2 ∧ ¬ x3 < 0 ∧ ¬ 32767 < x3 ∧ ¬ x4 < 0 ∧ ¬ 2147483647 < x4 ∧ x2 = 0 ∧ x3 = 0 ∧ x4 = 0) := by
      by_cases h0 : x0 < 0
      · exact .inl h0
      by_cases h1 : 4611686018427387904 < x0
      · exact .inr (.inl ⟨h0, h1⟩)
      by_cases h2 : x1 < x0
      · exact .inr (.inr (.inl ⟨h0, h1, h2⟩))
      by_cases h3 : 4611686018427387904 < x1
      · exact .inr (.inr (.inr (.inl ⟨h0, h1, h2, h3⟩)))
      by_cases h4 : x2 < 0
      · exact .inr (.inr (.inr (.inr (.inl ⟨h0, h1, h2, h3, h4⟩))))
      by_cases h5 : 1099511627776 < x2
      · exact .inr (.inr (.inr (.inr (.inr (.inl ⟨h0, h1, h2, h3, h4, h5⟩)))))
      by_cases h6 : x3 < 0
      · exact .inr (.inr (.inr (.inr (.inr (.inr (.inl ⟨h0, h1, h2, h3, h4, h5, h6⟩))))))
      by_cases h7 : 32767 < x3
      · exact .inr (.inr (.inr (.inr (.inr (.inr (.inr (.inl ⟨h0, h1, h2, h3, h4, h5, h6, h7⟩)))))))
      by_cases h8 : x4 < 0
      · exact .inr (.inr (.inr (.inr (.inr (.inr (.inr (.inr (.inl ⟨h0, h1, h2, h3, h4, h5, h6, h7, h8⟩))))))))
      by_cases h9 : 2147483647 < x4
      · exact .inr (.inr (.inr (.inr (.inr (.inr (.inr (.inr (.inr (.inl ⟨h0, h1, h2, h3, h4, h5, h6, h7, h8, h9⟩)))))))))
      by_cases g0 : x2 = 0
      · by_cases g1 : x3 = 0
        · by_cases g2 : x4 = 0
          · exact .inr (.inr (.inr (.inr (.inr (.inr (.inr (.inr (.inr (.inr (.inr (.inr (.inr (⟨h0, h1, h2, h3, h4, h5, h6, h7, h8, h9, g0, g1, g2⟩)))))))))))))
          · exact .inr (.inr (.inr (.inr (.inr (.inr (.inr (.inr (.inr (.inr (.inr (.inr (.inl ⟨h0, h1, h2, h3, h4, h5, h6, h7, h8, h9, g0, g1, g2⟩))))))))))))
        · exact .inr (.inr (.inr (.inr (.inr (.inr (.inr (.inr (.inr (.inr (.inr (.inl ⟨h0, h1, h2, h3, h4, h5, h6, h7, h8, h9, g0, g1⟩)))))))))))
      · exact .inr (.inr (.inr (.inr (.inr (.inr (.inr (.inr (.inr (.inr (.inl ⟨h0, h1, h2, h3, h4, h5, h6, h7, h8, h9, g0⟩))))))))))
    have c0 : w1.cell? ⟨w.heap.size, 0, none⟩ = some (.int .i64 x0) := HBK.out.cell 0 rfl
    have c1 : w1.cell? ⟨w.heap.size, 1, none⟩ = some (.int .i64 x1) := HBK.out.cell 1 rfl
    have c2 : w1.cell? ⟨w.heap.size, 2, none⟩ = some (.int .i64 x2) := HBK.out.cell 2 rfl
    have c3 : w1.cell? ⟨w.heap.size, 3, none⟩ = some (.int .i64 x3) := HBK.out.cell 3 rfl
    have c4 : w1.cell? ⟨w.heap.size, 4, none⟩ = some (.int .i64 x4) := HBK.out.cell 4 rfl
    rcases hall with k0 | ⟨k0, k1⟩ | ⟨k0, k1, k2⟩ | ⟨k0, k1, k2, k3⟩ | ⟨k0, k1, k2, k3, k4⟩ | ⟨k0, k1, k2, k3, k4, k5⟩ | ⟨k0, k1, k2, k3, k4, k5, k6⟩ | ⟨k0, k1, k2, k3, k4, k5, k6, k7⟩ | ⟨k0, k1, k2, k3, k4, k5, k6, k7, k8⟩ | ⟨k0, k1, k2, k3, k4, k5, k6, k7, k8, k9⟩ | ⟨k0, k1, k2, k3, k4, k5, k6, k7, k8, k9, k10⟩ | ⟨k0, k1, k2, k3, k4, k5, k6, k7, k8, k9, k10, k11⟩ | ⟨k0, k1, k2, k3, k4, k5, k6, k7, k8, k9, k10, k11, k12⟩ | ⟨k0, k1, k2, k3, k4, k5, k6, k7, k8, k9, k10, k11, k12⟩
    all_goals
      go_wp2_with fail
      all_goals
        go_meet
        case rel =>
          refine ⟨HBOOL.out _ ?_, rfl⟩
          unfold Bat.may
          simp
          try omega
  case rest =>
    obtain ⟨rfl, rfl⟩ := hcut
    clear HBOOL
    have hpost : ∀ (x : Int), x = (⟨x0, x1, x2, x3, x4, rs⟩ : Bat).check → Ending.returned (.int .i64 x) = Ending.returned (.int .i64 (⟨x0, x1, x2, x3, x4, rs⟩ : Bat).check) := fun x h => by rw [h]
    have HPOST := Lib.hid hpost; clear hpost
    have hlen : rs.length ≤ maxLen := by
      obtain ⟨A', c', V, h, h1, h2, -⟩ := HV.out
      exact Nat.le_trans h1 h2
    unfold maxLen at hlen
    have c5 : wc.cell? ⟨w.heap.size, 5, none⟩ = some (.slice A rs.length c) := HBK.out.cell 5 rfl
    by_cases hm : (⟨x0, x1, x2, x3, x4, rs⟩ : Bat).may
    · rw [decide_eq_false (fun h => h hm)]
      have hm' := hm
      unfold Bat.may at hm'
      obtain ⟨m0, m1, m2, m3, -⟩ := hm'
      dsimp only at m0 m1 m2 m3
      have HM := Lib.hid hm; clear hm
      by_cases h100 : 100 < rs.length
      · have hans : (3 : Int) = (⟨x0, x1, x2, x3, x4, rs⟩ : Bat).check := by unfold Bat.check; rw [if_neg (fun h => h HM.out), if_pos h100]
        have HANS := Lib.hid hans; clear hans
        go_wp2
        go_ret
        exact ⟨HPOST.out 3 HANS.out, HB1.out⟩
      · go_wp2_with fail
        go_loopw [3, 4] (fun l i wr => ∃ (j : Nat) (ah arf : Int), j ≤ rs.length ∧ i = .int .i64 (j : Int) ∧ l = .int .i64 arf ∧ (∀ o : Int, (o < x0 ∨ o ≤ arf) ↔ o ≤ ah) ∧ -1 ≤ ah ∧ ah ≤ 4611686018427387904 ∧ bat.chks x1 (x0 - 1) rs = bat.chks x1 ah (rs.drop j) ∧ Below wc.heap.size wc wr) (fun _ i _ => rs.length - (intOf i).toNat)
        case atStart => exact ⟨0, x0 - 1, -1, by omega, rfl, rfl, fun o => by omega, by omega, by omega, rfl, Below.refl _ _⟩
        case round =>
          obtain ⟨j, ah, arf, hj, rfl, rfl, hiff, ha0, ha1, hch, hbw⟩ := hrel
          have HIFF := Lib.hid hiff; clear hiff
          have HBW := Lib.hid hbw; clear hbw c5
          have hbw2 := HB1.out.trans (HBW.out.mono HB1.out.size)
          have HBW2 := Lib.hid hbw2; clear hbw2
          have hbkr := (chg_of (P := fun _ => False) HBW.out).blk HBK.out id
          have e5 : wr.cell? ⟨w.heap.size, 5, none⟩ = some (.slice A rs.length c) := hbkr.cell 5 rfl
          by_cases hlt : j < rs.length
          · obtain ⟨x, hx⟩ : ∃ x, rs[j]? = some x := ⟨_, List.getElem?_eq_getElem hlt⟩
            obtain ⟨p, off, c', kv, vv, hA, -, -, hp, d0, d1, d2, d3, d4, d5, hk, hvv, -, -⟩ := (HV.out.below HBW2.out (Nat.le_refl _)).at' hx
            obtain ⟨rfl, rfl⟩ : A = some ⟨p, off, none⟩ ∧ c = c' := by simpa using hA
            obtain ⟨Ak, ck, rfl, -, -, -, -⟩ := hk
            obtain ⟨Av, cv, rfl, -, -, -, -⟩ := hvv
            have hdrop : rs.drop j = x :: rs.drop (j + 1) := by
              obtain ⟨h1, h2⟩ := List.getElem?_eq_some_iff.1 hx
              rw [← h2, List.drop_eq_getElem_cons h1]
            have hrk := ref.rchk_of (last := x1) HIFF.out x
            rw [hdrop, bat.chks_cons] at hch
            have hrc := fun wx => ref.record_any x (⟨x0, x1, x2, x3, x4, rs⟩ : Bat) Ak ck Av cv (some ⟨p, off, none⟩) c arf wx
            dsimp only at hrc
            rw [hrk] at hrc
            obtain ⟨E, hE⟩ : ∃ E, E = if x.off ≤ ah ∨ x1 < x.off then 1 else x.chk := ⟨_, rfl⟩
            rw [← hE] at hrc
            unfold Rec.hval Bat.hval at hrc
            have HRC := Lib.hid hrc; clear hrc hrk hdrop hA hx
            have hcase : (E ≠ 0 ∧ bat.chks x1 (x0 - 1) rs = E) ∨ (E = 0 ∧ ¬ (x.off ≤ ah ∨ x1 < x.off) ∧ bat.chks x1 (x0 - 1) rs = bat.chks x1 x.off (rs.drop (j + 1))) := by
              by_cases ho : x.off ≤ ah ∨ x1 < x.off
              · rw [if_pos ho] at hE hch
                exact .inl ⟨by rw [hE]; decide, by rw [hch, hE]⟩
              · rw [if_neg ho] at hE hch
                by_cases hc : x.chk = 0
                · rw [if_neg (fun h => h hc)] at hch
                  exact .inr ⟨by rw [hE, hc], ho, hch⟩
                · rw [if_pos hc] at hch
                  exact .inl ⟨by rw [hE]; exact hc, by rw [hch, hE]⟩
            clear hch hE
            have HKR := Lib.hid hbkr; clear hbkr
            have r0 : ∀ y : Later wr (fun _ => False), y.1.cell? ⟨p, off + j * 6, none⟩ = some (.int .i64 x.off) := fun y => ((y.2.below (Nat.le_refl _) (fun _ q => q.elim)).cell hp).trans d0
            have r1 : ∀ y : Later wr (fun _ => False), y.1.cell? ⟨p, off + j * 6 + 1, none⟩ = some (.int .i64 x.time) := fun y => ((y.2.below (Nat.le_refl _) (fun _ q => q.elim)).cell hp).trans d1
            have r2 : ∀ y : Later wr (fun _ => False), y.1.cell? ⟨p, off + j * 6 + 2, none⟩ = some (.bool x.hasKey) := fun y => ((y.2.below (Nat.le_refl _) (fun _ q => q.elim)).cell hp).trans d2
            have r3 : ∀ y : Later wr (fun _ => False), y.1.cell? ⟨p, off + j * 6 + 3, none⟩ = some (.slice Ak x.key.length ck) := fun y => ((y.2.below (Nat.le_refl _) (fun _ q => q.elim)).cell hp).trans d3
            have r4 : ∀ y : Later wr (fun _ => False), y.1.cell? ⟨p, off + j * 6 + 4, none⟩ = some (.bool x.hasVal) := fun y => ((y.2.below (Nat.le_refl _) (fun _ q => q.elim)).cell hp).trans d4
            have r5 : ∀ y : Later wr (fun _ => False), y.1.cell? ⟨p, off + j * 6 + 5, none⟩ = some (.slice Av x.val.length cv) := fun y => ((y.2.below (Nat.le_refl _) (fun _ q => q.elim)).cell hp).trans d5
            have s5 : ∀ y : Later wr (fun _ => False), y.1.cell? ⟨w.heap.size, 5, none⟩ = some (.slice (some ⟨p, off, none⟩) rs.length c) := fun y => (y.2.blk HKR.out id).cell 5 rfl
            clear d1 d2 d3 d4 d5
            go_upto_region 9 with fail
            have hS0 : later wr (fun _ => False) wr.drew := later_of ((Chg.refl _ _).drew)
            refine wp_plan (S := fun w0 => ∃ x : Later wr (fun _ => False), w0 = x.1) (by kernel_rfl) hS0 ?_
            intro hS K5 hK5
            have HS := Lib.hid hS; clear hS hS0
            refine plan_group [true, true, true, true, true, false, true] [0, 1, 2, 3, 4, 6] 3 (by dsimp only [sel]) (by rfl) rfl (by kernel_rfl) (by kernel_rfl) HS.out ?_
            (repeat go_big_quiet_step (fail)); refine wpQuiet_nil ?_
            have g0 : wr.drew.cell? ⟨w.heap.size, 0, none⟩ = some (.int .i64 x0) := HKR.out.cell 0 rfl
            have g1 : wr.drew.cell? ⟨w.heap.size, 1, none⟩ = some (.int .i64 x1) := HKR.out.cell 1 rfl
            have g2 : wr.drew.cell? ⟨w.heap.size, 2, none⟩ = some (.int .i64 x2) := HKR.out.cell 2 rfl
            have g3 : wr.drew.cell? ⟨w.heap.size, 3, none⟩ = some (.int .i64 x3) := HKR.out.cell 3 rfl
            have g4 : wr.drew.cell? ⟨w.heap.size, 4, none⟩ = some (.int .i64 x4) := HKR.out.cell 4 rfl
            have g5 : wr.drew.cell? ⟨w.heap.size, 5, none⟩ = some (.slice (some ⟨p, off, none⟩) rs.length c) := HKR.out.cell 5 rfl
            refine plan_one [false, false, false, false, false, true] 5 2 (by dsimp only [sel]) (by rfl) rfl (by kernel_rfl) ?_; intro K1 hK1; go_wp2_with fail
            refine ⟨HS.out, ?_⟩
            clear g0 g1 g2 g3 g4 g5
            refine plan_one [false, false, false, false, false, false, false, true] 7 1 (by dsimp only [sel]) (by rfl) rfl (by kernel_rfl) ?_; intro K1 hK1; go_wp2_with fail
            refine (HRC.out _).mono ?_
            rintro e z1 ⟨rfl, hz⟩
            have HZ := Lib.hid (show Below wr.heap.size wr z1 from (bdrew (Below.refl _ wr) 1).trans hz); clear hz
            go_wp2_with fail
            refine ⟨later_of (chg_of HZ.out), ?_⟩
            refine plan_group [false, false, false, false, false, false, false, false, true] [8] 0 (by dsimp only [sel]) (by rfl) rfl (by kernel_rfl) (by kernel_rfl) (later_of (chg_of HZ.out)) ?_
            (repeat go_big_quiet_step (fail)); refine wpQuiet_nil ?_
            refine wp_plan_end (by kernel_rfl) ?_
            clear HS r0 r1 r2 r3 r4 r5 s5 e5
            have z5 : z1.cell? ⟨w.heap.size, 5, none⟩ = some (.slice (some ⟨p, off, none⟩) rs.length c) := ((chg_of (P := fun _ => False) HZ.out).blk HKR.out id).cell 5 rfl
            have z0 : z1.cell? ⟨p, off + j * 6, none⟩ = some (.int .i64 x.off) := (HZ.out.cell hp).trans d0
            have hzp : p < z1.heap.size := by have := HZ.out.size; omega
            clear d0
            have HBZ := Lib.hid (HBW.out.trans (HZ.out.mono HBW.out.size))
            have hr0 := HBZ.out.size
            refine hK5 _ _ ?_
            rcases hcase with ⟨hE, hch⟩ | ⟨hE, ho, hch⟩
            · have hd : (E != 0) = true := by simpa using hE
              have hans : E = (⟨x0, x1, x2, x3, x4, rs⟩ : Bat).check := by
                unfold Bat.check
                rw [if_neg (fun h => h HM.out), if_neg h100, if_pos (by rw [show bat.chks (⟨x0, x1, x2, x3, x4, rs⟩ : Bat).last ((⟨x0, x1, x2, x3, x4, rs⟩ : Bat).base - 1) (⟨x0, x1, x2, x3, x4, rs⟩ : Bat).recs = E from hch]; exact hE)]
                exact hch.symm
              have HANS := Lib.hid hans; clear hans hch hE
              go_wp2
              go_ret
              exact ⟨HPOST.out E HANS.out, HB1.out.trans (HBZ.out.mono HB1.out.size)⟩
            · subst hE
              have HCH := Lib.hid hch; clear hch
              go_wp2_with fail
              go_roundw
              case rel => exact ⟨j + 1, x.off, x.off, by omega, by go_num, rfl, fun o => by have := (HIFF.out (x0 - 1)).1 (by omega); omega, by omega, by omega, HCH.out, HBZ.out⟩
              case measure => simp [intOf]; omega
          · obtain rfl : j = rs.length := by omega
            rw [List.drop_length, bat.chks_nil] at hch
            have hok : ∀ r ∈ rs, r.ok := bat.chks_ok m3 rs (x0 - 1) (by omega) hch
            have hfl : (⟨x0, x1, x2, x3, x4, rs⟩ : Bat).flags := bat.chks_flags rs (x0 - 1) hch
            have hans : (⟨x0, x1, x2, x3, x4, rs⟩ : Bat).check = if 65536 < (⟨x0, x1, x2, x3, x4, rs⟩ : Bat).bytes.length then 3 else 0 := by
              have hsz := Bat.bytes_len (⟨x0, x1, x2, x3, x4, rs⟩ : Bat) hfl
              unfold Bat.check
              rw [if_neg (fun h => h HM.out), if_neg h100, if_neg (by rw [show bat.chks (⟨x0, x1, x2, x3, x4, rs⟩ : Bat).last ((⟨x0, x1, x2, x3, x4, rs⟩ : Bat).base - 1) (⟨x0, x1, x2, x3, x4, rs⟩ : Bat).recs = 0 from hch]; exact fun h => h rfl)]
              by_cases h6 : 65536 < (⟨x0, x1, x2, x3, x4, rs⟩ : Bat).bytes.length
              · rw [if_pos (by omega), if_pos h6]
              · rw [if_neg (by omega), if_neg h6]
            have henc := ref.encode_any (⟨x0, x1, x2, x3, x4, rs⟩ : Bat) A c wr (HV.out.below HBW2.out (Nat.le_refl _)) HM.out (by dsimp only; omega) hok hfl
            have hbb : (⟨x0, x1, x2, x3, x4, rs⟩ : Bat).bytes.length ≤ 300000 := by
              have h1 := Bat.sum_le (Bat.first rs) x0 rs hok
              have h2 := Bat.bytes_len (⟨x0, x1, x2, x3, x4, rs⟩ : Bat) hfl
              unfold Bat.size at h2
              dsimp only at h2
              omega
            unfold Bat.hval at henc
            dsimp only at henc
            have HENC := Lib.hid henc; clear henc
            have HANS := Lib.hid hans; clear hans hch hfl hok
            have q0 : wr.cell? ⟨w.heap.size, 0, none⟩ = some (.int .i64 x0) := hbkr.cell 0 rfl
            have q1 : wr.cell? ⟨w.heap.size, 1, none⟩ = some (.int .i64 x1) := hbkr.cell 1 rfl
            have q2 : wr.cell? ⟨w.heap.size, 2, none⟩ = some (.int .i64 x2) := hbkr.cell 2 rfl
            have q3 : wr.cell? ⟨w.heap.size, 3, none⟩ = some (.int .i64 x3) := hbkr.cell 3 rfl
            have q4 : wr.cell? ⟨w.heap.size, 4, none⟩ = some (.int .i64 x4) := hbkr.cell 4 rfl
            generalize hL : (⟨x0, x1, x2, x3, x4, rs⟩ : Bat).bytes = L at *
            clear hL hbkr
            go_wp2_with fail
            refine HENC.out.mono ?_
            rintro e w4 ⟨v4, rfl, ha4⟩
            obtain ⟨A4, c4, rfl, -, -⟩ := ha4.at'
            have HB4 := Lib.hid (HBW2.out.trans (ha4.2.mono HBW2.out.size)); clear ha4
            by_cases hbig : 65536 < L.length
            · go_wp2
              go_ret
              exact ⟨HPOST.out 3 (by rw [HANS.out, if_pos hbig]), HB4.out⟩
            · go_wp2
              go_ret
              exact ⟨HPOST.out 0 (by rw [HANS.out, if_neg hbig]), HB4.out⟩
    · rw [decide_eq_true hm]
      have hans : (1 : Int) = (⟨x0, x1, x2, x3, x4, rs⟩ : Bat).check := by unfold Bat.check; rw [if_pos hm]
      have HANS := Lib.hid hans; clear hans hm
      go_wp2
      go_ret
      exact ⟨HPOST.out 1 HANS.out, HB1.out⟩
end Go.Proofs.Ytahncanmfjmfnaa

/- The law package's does (cordwainlaw4): a step, at the program's disk and at the document's. -/
import Derived.Test.YthffkbcjidbdaaaDsC
import Derived.Test.YthffkbcjidbdaaaRfX
namespace Go.Proofs.Ythffkbcjidbdaaa
open Go.RowKit Go.Maps
set_option maxRecDepth 100000

set_option maxHeartbeats 8000000 in
theorem law4.does_any (kind : Int) (sa st : ByteArray) (b : List Nat) (nn : Int) (X : Option Addr) (m cX : Nat) (B p q : Nat) (M Q : RDisk) (n : Nat) (w : World) (h : DTwo B w p q M Q n) (hB : B ≤ w.heap.size) (hn : n ≤ 40000) (hat : At w X m (byteAt b)) (hml : b.length = m) (hXB : ∀ g off, X = some ⟨g, off, none⟩ → 0 < m → g < B)
    (hm : m ≤ 4294967296) (hb : ∀ y ∈ b, y < 256) (hsa : sa.size ≤ maxLen) (hst : st.size ≤ maxLen) (hnn : -9223372036854775808 ≤ nn ∧ nn ≤ 9223372036854775807) :
    Calls Try.prog 14 #[.pointer (some ⟨p, 0, none⟩), .pointer (some ⟨q, 0, none⟩), .agg #[.int .i64 kind, .string sa, .string st, .slice X m cX, .int .i64 nn]] w fun e w' =>
      e = .returned (.tuple #[.int .i64 (M.stepE ⟨kind, sa, st, b, nn⟩), .int .i64 (Q.stepE ⟨kind, sa, st, b, nn⟩)]) ∧ DTwo B w' p q (M.step ⟨kind, sa, st, b, nn⟩) (Q.step ⟨kind, sa, st, b, nn⟩) (n + 2) ∧ Below B w w' := by
  obtain ⟨F, G, hp, hr, hqw, hF, hG, hFG, ⟨l1, l2, l3⟩, ⟨l4, l5⟩, l6, l7⟩ := h
  have hup := hp.up
  have hgu := hr.up
  obtain ⟨z, hz⟩ : ∃ z, z = w.heap.size := ⟨_, rfl⟩
  obtain ⟨w1, hw1⟩ : ∃ w1, w1 = w.alloc (.cells #[.int .i64 kind, .string sa, .string st, .slice X m cX, .int .i64 nn] 36) := ⟨_, rfl⟩
  have hbs : Blk w1 z 36 #[.int .i64 kind, .string sa, .string st, .slice X m cX, .int .i64 nn] := by rw [hw1, hz]; exact Blk.new _ _ _
  have hb1 : Below w.heap.size w w1 := by rw [hw1]; exact (Below.refl _ _).alloc (Nat.le_refl _) _
  have hw1s := hb1.size
  have HZF := Lib.hid (show ¬ F z ∧ ¬ G z from ⟨fun a => by have := hup.2.2.1 z a; omega, fun a => by have := hgu.2 z a; omega⟩)
  have HXF := Lib.hid (show ∀ g off, X = some ⟨g, off, none⟩ → 0 < m → ¬ F g from fun g off e h0 hg => by have := hXB g off e h0; have := hF g hg; omega)
  have HXQ := Lib.hid (show ∀ g off, X = some ⟨g, off, none⟩ → 0 < m → g ≠ q from fun g off e h0 hg => by have := hXB g off e h0; have := hG q hgu.1; omega)
  have HATX := Lib.hid (show At w1 X m (byteAt b) from hat.below hb1 (Nat.le_refl _))
  have HATX2 := Lib.hid (show ∀ wa, Chg w1.drew wa F → At wa X m (byteAt b) from fun wa hc => hc.at' (HATX.out.below (bdrew (Below.refl _ w1) 1) (Nat.le_refl _)) fun h0 g off e hg => HXF.out g off e h0 hg)
  have HP := Lib.hid (show PDisk w1 p M F n from hp.below hb1)
  have HR := Lib.hid (show RefD w1 q Q G from hr.below hb1)
  have HM := Lib.hid (show M.small ∧ Q.small ∧ Q.WF ∧ True from ⟨by unfold RDisk.small; omega, by unfold RDisk.small; omega, hqw, trivial⟩)
  have HSW := Lib.hid (show ∀ x : DStep, (∀ y ∈ x.b, y < 256) → x.n ≤ 9223372036854775807 → (Q.step x).WF from fun x h1 h2 => RDisk.step_wf hqw h1 h2)
  have HL := Lib.hid (And.intro (And.intro l1 (And.intro l2 l3)) (And.intro (And.intro l4 l5) (And.intro l6 l7)))
  have HML := Lib.hid hml; have HBB := Lib.hid hb; have HNN := Lib.hid hnn
  have HFB := Lib.hid hF; have HGB := Lib.hid hG; have HFG := Lib.hid hFG
  have HBW := Lib.hid (show B ≤ w1.heap.size by omega)
  have HW1 := Lib.hid (And.intro hw1 (hb1.mono hB))
  have HBS := Lib.hid hbs
  clear hup hgu hp hr hqw hF hG hFG hml hb hnn hXB hat hbs hb1 hw1 l4 l5 l6 l7
  have q1 : ∀ x : Later w1 (fun k => k ≠ z), x.1.cell? ⟨z, 1, none⟩ = some (.string sa) := fun x => (x.2.blk HBS.out fun h => h rfl).cell 1 rfl
  have q2 : ∀ x : Later w1 (fun k => k ≠ z), x.1.cell? ⟨z, 2, none⟩ = some (.string st) := fun x => (x.2.blk HBS.out fun h => h rfl).cell 2 rfl
  have q3 : ∀ x : Later w1 (fun k => k ≠ z), x.1.cell? ⟨z, 3, none⟩ = some (.slice X m cX) := fun x => (x.2.blk HBS.out fun h => h rfl).cell 3 rfl
  have q4 : ∀ x : Later w1 (fun k => k ≠ z), x.1.cell? ⟨z, 4, none⟩ = some (.int .i64 nn) := fun x => (x.2.blk HBS.out fun h => h rfl).cell 4 rfl
  have k0 : w1.cell? ⟨z, 0, none⟩ = some (.int .i64 kind) := HBS.out.cell 0 rfl
  have k4 : w1.cell? ⟨z, 4, none⟩ = some (.int .i64 nn) := HBS.out.cell 4 rfl
  have HQ4 := Lib.hid q4
  go_enter Try.func14, Try.ntmps14
  go_upto_region 1 with fail
  rw [← HW1.out.1, ← hz]
  clear hz
  by_cases h1 : kind = 1
  · subst h1
    go_upto_region 3 with fail
    have hS0 : later w1 (fun k => k ≠ z) w1.drew := later_of ((Chg.refl _ _).drew)
    refine wp_plan (S := fun w0 => ∃ x : Later w1 (fun k => k ≠ z), w0 = x.1) (by kernel_rfl) hS0 ?_
    intro hS' K5 hK5
    have HS := Lib.hid hS'; clear hS' hS0
    refine plan_group [true, true, true, true, true, false, true, true, true, true, true] [0, 1, 2, 3, 4, 6, 7, 8, 9, 10] 4 (by dsimp only [sel]) (by rfl) rfl (by kernel_rfl) (by kernel_rfl) HS.out ?_
    (repeat go_big_quiet_step (fail)); refine wpQuiet_nil ?_
    refine plan_one [false, false, false, false, false, true] 5 3 (by dsimp only [sel]) (by rfl) rfl (by kernel_rfl) ?_; intro K1 hK1; go_wp2_with fail
    refine (PDisk.append (HP.out.below (bdrew (Below.refl _ w1) 1)) (by omega) HM.out.1 (HATX.out.below (bdrew (Below.refl _ w1) 1) (Nat.le_refl _)) HML.out HBB.out HXF.out (by omega) (by omega)).mono ?_
    rintro e wa ⟨rfl, g1, g2⟩
    have hr2 := (HR.out.below (bdrew (Below.refl _ w1) 1)).keep g2 fun k hk hf => HFG.out k hf hk
    have hla : later w1 (fun k => k ≠ z) wa := later_of (((Chg.refl w1 (fun k => k ≠ z)).drew).trans g2 fun k _ hk e => HZF.out.1 (e ▸ hk))
    have HA := Lib.hid (And.intro g1 (And.intro g2 (And.intro hr2 hla))); clear g1 g2 hr2 hla
    go_wp2_with fail
    refine ⟨HA.out.2.2.2, ?_⟩
    refine plan_one [false, false, false, false, false, false, false, false, false, false, false, true] 11 2 (by dsimp only [sel]) (by rfl) rfl (by kernel_rfl) ?_; intro K1 hK1; go_wp2_with fail
    refine (rf.Append_any sa X m cX b q Q G wa HA.out.2.2.1 HM.out.2.2.1 HM.out.2.1 (by omega) (HATX2.out wa HA.out.2.1) HML.out HBB.out HXQ.out (by omega) (by omega) (by omega) (by omega)).mono ?_
    rintro e wb ⟨rfl, g3, g4⟩
    have hlb : later w1 (fun k => k ≠ z) wb := later_of ((((Chg.refl w1 (fun k => k ≠ z)).drew).trans HA.out.2.1 fun k _ hk e => HZF.out.1 (e ▸ hk)).trans g4 fun k _ hk e => HZF.out.2 (by rw [← e, hk]; exact HR.out.up.1))
    have hnx := DTwo.next (M := M) (M' := M.app sa b) (Q' := Q.app sa b) (show B ≤ w1.drew.heap.size from HBW.out) (HR.out.below (bdrew (Below.refl _ w1) 1)) HFB.out HGB.out HFG.out (HSW.out ⟨1, sa, st, b, nn⟩ HBB.out HNN.out.2) HL.out (M.step_near ⟨1, sa, st, b, nn⟩) (Q.step_near ⟨1, sa, st, b, nn⟩) HA.out.1 HA.out.2.1 g3 g4
    have HB := Lib.hid (And.intro hlb hnx); clear hlb hnx g3 g4
    go_wp2_with fail
    refine ⟨HB.out.1, ?_⟩
    refine plan_group [false, false, false, false, false, false, false, false, false, false, false, false, true, true] [12, 13] 0 (by dsimp only [sel]) (by rfl) rfl (by kernel_rfl) (by kernel_rfl) HB.out.1 ?_
    (repeat go_big_quiet_step (fail)); refine wpQuiet_nil ?_
    refine wp_plan_end (by kernel_rfl) ?_
    go_wp2_with fail
    go_ret2
    exact ⟨rfl, HB.out.2.1, HW1.out.2.trans ((bdrew (Below.refl _ w1) 1).trans HB.out.2.2)⟩
  by_cases h2 : kind = 2
  · subst h2
    clear h1
    go_upto_region 5 with fail
    have hS0 : later w1 (fun k => k ≠ z) w1.drew := later_of ((Chg.refl _ _).drew)
    refine wp_plan (S := fun w0 => ∃ x : Later w1 (fun k => k ≠ z), w0 = x.1) (by kernel_rfl) hS0 ?_
    intro hS' K5 hK5
    have HS := Lib.hid hS'; clear hS' hS0
    refine plan_group [true, true, true, true, true, false, true, true, true, true, true] [0, 1, 2, 3, 4, 6, 7, 8, 9, 10] 4 (by dsimp only [sel]) (by rfl) rfl (by kernel_rfl) (by kernel_rfl) HS.out ?_
    (repeat go_big_quiet_step (fail)); refine wpQuiet_nil ?_
    refine plan_one [false, false, false, false, false, true] 5 3 (by dsimp only [sel]) (by rfl) rfl (by kernel_rfl) ?_; intro K1 hK1; go_wp2_with fail
    refine (PDisk.truncate (HP.out.below (bdrew (Below.refl _ w1) 1)) (by omega) HM.out.1 HNN.out (by omega)).mono ?_
    rintro e wa ⟨rfl, g1, g2⟩
    have hr2 := (HR.out.below (bdrew (Below.refl _ w1) 1)).keep g2 fun k hk hf => HFG.out k hf hk
    have hla : later w1 (fun k => k ≠ z) wa := later_of (((Chg.refl w1 (fun k => k ≠ z)).drew).trans g2 fun k _ hk e => HZF.out.1 (e ▸ hk))
    have HA := Lib.hid (And.intro (g1.mono (Nat.le_add_right _ 2)) (And.intro g2 (And.intro hr2 hla))); clear g1 g2 hr2 hla
    go_wp2_with fail
    refine ⟨HA.out.2.2.2, ?_⟩
    refine plan_one [false, false, false, false, false, false, false, false, false, false, false, true] 11 2 (by dsimp only [sel]) (by rfl) rfl (by kernel_rfl) ?_; intro K1 hK1; go_wp2_with fail
    refine (rf.Truncate_any sa nn q Q G wa HA.out.2.2.1 HM.out.2.2.1 HM.out.2.1 (by omega) HNN.out (by omega) (by omega) (by omega)).mono ?_
    rintro e wb ⟨rfl, g3, g4⟩
    have hlb : later w1 (fun k => k ≠ z) wb := later_of ((((Chg.refl w1 (fun k => k ≠ z)).drew).trans HA.out.2.1 fun k _ hk e => HZF.out.1 (e ▸ hk)).trans g4 fun k _ hk e => HZF.out.2 (by rw [← e, hk]; exact HR.out.up.1))
    have hnx := DTwo.next (M := M) (M' := M.trunc sa nn) (Q' := Q.trunc sa nn) (show B ≤ w1.drew.heap.size from HBW.out) (HR.out.below (bdrew (Below.refl _ w1) 1)) HFB.out HGB.out HFG.out (HSW.out ⟨2, sa, st, b, nn⟩ HBB.out HNN.out.2) HL.out (M.step_near ⟨2, sa, st, b, nn⟩) (Q.step_near ⟨2, sa, st, b, nn⟩) HA.out.1 HA.out.2.1 g3 g4
    have HB := Lib.hid (And.intro hlb hnx); clear hlb hnx g3 g4
    go_wp2_with fail
    refine ⟨HB.out.1, ?_⟩
    refine plan_group [false, false, false, false, false, false, false, false, false, false, false, false, true, true] [12, 13] 0 (by dsimp only [sel]) (by rfl) rfl (by kernel_rfl) (by kernel_rfl) HB.out.1 ?_
    (repeat go_big_quiet_step (fail)); refine wpQuiet_nil ?_
    refine wp_plan_end (by kernel_rfl) ?_
    go_wp2_with fail
    go_ret2
    exact ⟨rfl, HB.out.2.1, HW1.out.2.trans ((bdrew (Below.refl _ w1) 1).trans HB.out.2.2)⟩
  by_cases h3 : kind = 3
  · subst h3
    clear h1
    clear h2
    go_upto_region 7 with fail
    have hS0 : later w1 (fun k => k ≠ z) w1.drew := later_of ((Chg.refl _ _).drew)
    refine wp_plan (S := fun w0 => ∃ x : Later w1 (fun k => k ≠ z), w0 = x.1) (by kernel_rfl) hS0 ?_
    intro hS' K5 hK5
    have HS := Lib.hid hS'; clear hS' hS0
    refine plan_group [true, true, true, false, true, true, true] [0, 1, 2, 4, 5, 6] 4 (by dsimp only [sel]) (by rfl) rfl (by kernel_rfl) (by kernel_rfl) HS.out ?_
    (repeat go_big_quiet_step (fail)); refine wpQuiet_nil ?_
    refine plan_one [false, false, false, true] 3 3 (by dsimp only [sel]) (by rfl) rfl (by kernel_rfl) ?_; intro K1 hK1; go_wp2_with fail
    refine (PDisk.sync (HP.out.below (bdrew (Below.refl _ w1) 1)) (by omega) HM.out.1).mono ?_
    rintro e wa ⟨rfl, g1, g2⟩
    have hr2 := (HR.out.below (bdrew (Below.refl _ w1) 1)).keep g2 fun k hk hf => HFG.out k hf hk
    have hla : later w1 (fun k => k ≠ z) wa := later_of (((Chg.refl w1 (fun k => k ≠ z)).drew).trans g2 fun k _ hk e => HZF.out.1 (e ▸ hk))
    have HA := Lib.hid (And.intro (g1.mono (Nat.le_add_right _ 2)) (And.intro g2 (And.intro hr2 hla))); clear g1 g2 hr2 hla
    go_wp2_with fail
    refine ⟨HA.out.2.2.2, ?_⟩
    refine plan_one [false, false, false, false, false, false, false, true] 7 2 (by dsimp only [sel]) (by rfl) rfl (by kernel_rfl) ?_; intro K1 hK1; go_wp2_with fail
    refine (rf.Sync_any sa q Q G wa HA.out.2.2.1 HM.out.2.2.1 HM.out.2.1 (by omega) (by omega) (by omega) (by omega)).mono ?_
    rintro e wb ⟨rfl, g3, g4⟩
    have hlb : later w1 (fun k => k ≠ z) wb := later_of ((((Chg.refl w1 (fun k => k ≠ z)).drew).trans HA.out.2.1 fun k _ hk e => HZF.out.1 (e ▸ hk)).trans g4 fun k _ hk e => HZF.out.2 (by rw [← e, hk]; exact HR.out.up.1))
    have hnx := DTwo.next (M := M) (M' := M.sync sa) (Q' := Q.sync sa) (show B ≤ w1.drew.heap.size from HBW.out) (HR.out.below (bdrew (Below.refl _ w1) 1)) HFB.out HGB.out HFG.out (HSW.out ⟨3, sa, st, b, nn⟩ HBB.out HNN.out.2) HL.out (M.step_near ⟨3, sa, st, b, nn⟩) (Q.step_near ⟨3, sa, st, b, nn⟩) HA.out.1 HA.out.2.1 g3 g4
    have HB := Lib.hid (And.intro hlb hnx); clear hlb hnx g3 g4
    go_wp2_with fail
    refine ⟨HB.out.1, ?_⟩
    refine plan_group [false, false, false, false, false, false, false, false, true, true] [8, 9] 0 (by dsimp only [sel]) (by rfl) rfl (by kernel_rfl) (by kernel_rfl) HB.out.1 ?_
    (repeat go_big_quiet_step (fail)); refine wpQuiet_nil ?_
    refine wp_plan_end (by kernel_rfl) ?_
    go_wp2_with fail
    go_ret2
    exact ⟨rfl, HB.out.2.1, HW1.out.2.trans ((bdrew (Below.refl _ w1) 1).trans HB.out.2.2)⟩
  by_cases h4 : kind = 4
  · subst h4
    clear h1
    clear h2
    clear h3
    go_upto_region 9 with fail
    have hS0 : later w1 (fun k => k ≠ z) w1.drew := later_of ((Chg.refl _ _).drew)
    refine wp_plan (S := fun w0 => ∃ x : Later w1 (fun k => k ≠ z), w0 = x.1) (by kernel_rfl) hS0 ?_
    intro hS' K5 hK5
    have HS := Lib.hid hS'; clear hS' hS0
    refine plan_group [true, true, true, true, true, false, true, true, true, true, true] [0, 1, 2, 3, 4, 6, 7, 8, 9, 10] 4 (by dsimp only [sel]) (by rfl) rfl (by kernel_rfl) (by kernel_rfl) HS.out ?_
    (repeat go_big_quiet_step (fail)); refine wpQuiet_nil ?_
    refine plan_one [false, false, false, false, false, true] 5 3 (by dsimp only [sel]) (by rfl) rfl (by kernel_rfl) ?_; intro K1 hK1; go_wp2_with fail
    refine (PDisk.rename (HP.out.below (bdrew (Below.refl _ w1) 1)) (by omega) (by omega) HM.out.1 (by omega)).mono ?_
    rintro e wa ⟨rfl, g1, g2⟩
    have hr2 := (HR.out.below (bdrew (Below.refl _ w1) 1)).keep g2 fun k hk hf => HFG.out k hf hk
    have hla : later w1 (fun k => k ≠ z) wa := later_of (((Chg.refl w1 (fun k => k ≠ z)).drew).trans g2 fun k _ hk e => HZF.out.1 (e ▸ hk))
    have HA := Lib.hid (And.intro g1 (And.intro g2 (And.intro hr2 hla))); clear g1 g2 hr2 hla
    go_wp2_with fail
    refine ⟨HA.out.2.2.2, ?_⟩
    refine plan_one [false, false, false, false, false, false, false, false, false, false, false, true] 11 2 (by dsimp only [sel]) (by rfl) rfl (by kernel_rfl) ?_; intro K1 hK1; go_wp2_with fail
    refine (rf.Rename_any sa st q Q G wa HA.out.2.2.1 HM.out.2.2.1 HM.out.2.1 (by omega) (by omega) (by omega) (by omega) (by omega)).mono ?_
    rintro e wb ⟨rfl, g3, g4⟩
    have hlb : later w1 (fun k => k ≠ z) wb := later_of ((((Chg.refl w1 (fun k => k ≠ z)).drew).trans HA.out.2.1 fun k _ hk e => HZF.out.1 (e ▸ hk)).trans g4 fun k _ hk e => HZF.out.2 (by rw [← e, hk]; exact HR.out.up.1))
    have hnx := DTwo.next (M := M) (M' := M.ren sa st) (Q' := Q.ren sa st) (show B ≤ w1.drew.heap.size from HBW.out) (HR.out.below (bdrew (Below.refl _ w1) 1)) HFB.out HGB.out HFG.out (HSW.out ⟨4, sa, st, b, nn⟩ HBB.out HNN.out.2) HL.out (M.step_near ⟨4, sa, st, b, nn⟩) (Q.step_near ⟨4, sa, st, b, nn⟩) HA.out.1 HA.out.2.1 g3 g4
    have HB := Lib.hid (And.intro hlb hnx); clear hlb hnx g3 g4
    go_wp2_with fail
    refine ⟨HB.out.1, ?_⟩
    refine plan_group [false, false, false, false, false, false, false, false, false, false, false, false, true, true] [12, 13] 0 (by dsimp only [sel]) (by rfl) rfl (by kernel_rfl) (by kernel_rfl) HB.out.1 ?_
    (repeat go_big_quiet_step (fail)); refine wpQuiet_nil ?_
    refine wp_plan_end (by kernel_rfl) ?_
    go_wp2_with fail
    go_ret2
    exact ⟨rfl, HB.out.2.1, HW1.out.2.trans ((bdrew (Below.refl _ w1) 1).trans HB.out.2.2)⟩
  by_cases h5 : kind = 5
  · subst h5
    clear h1
    clear h2
    clear h3
    clear h4
    go_upto_region 11 with fail
    have hS0 : later w1 (fun k => k ≠ z) w1.drew := later_of ((Chg.refl _ _).drew)
    refine wp_plan (S := fun w0 => ∃ x : Later w1 (fun k => k ≠ z), w0 = x.1) (by kernel_rfl) hS0 ?_
    intro hS' K5 hK5
    have HS := Lib.hid hS'; clear hS' hS0
    refine plan_group [true, true, true, false, true, true, true] [0, 1, 2, 4, 5, 6] 4 (by dsimp only [sel]) (by rfl) rfl (by kernel_rfl) (by kernel_rfl) HS.out ?_
    (repeat go_big_quiet_step (fail)); refine wpQuiet_nil ?_
    refine plan_one [false, false, false, true] 3 3 (by dsimp only [sel]) (by rfl) rfl (by kernel_rfl) ?_; intro K1 hK1; go_wp2_with fail
    refine (PDisk.remove (HP.out.below (bdrew (Below.refl _ w1) 1)) (by omega) HM.out.1 (by omega)).mono ?_
    rintro e wa ⟨rfl, g1, g2⟩
    have hr2 := (HR.out.below (bdrew (Below.refl _ w1) 1)).keep g2 fun k hk hf => HFG.out k hf hk
    have hla : later w1 (fun k => k ≠ z) wa := later_of (((Chg.refl w1 (fun k => k ≠ z)).drew).trans g2 fun k _ hk e => HZF.out.1 (e ▸ hk))
    have HA := Lib.hid (And.intro g1 (And.intro g2 (And.intro hr2 hla))); clear g1 g2 hr2 hla
    go_wp2_with fail
    refine ⟨HA.out.2.2.2, ?_⟩
    refine plan_one [false, false, false, false, false, false, false, true] 7 2 (by dsimp only [sel]) (by rfl) rfl (by kernel_rfl) ?_; intro K1 hK1; go_wp2_with fail
    refine (rf.Remove_any sa q Q G wa HA.out.2.2.1 HM.out.2.2.1 HM.out.2.1 (by omega) (by omega) (by omega) (by omega)).mono ?_
    rintro e wb ⟨rfl, g3, g4⟩
    have hlb : later w1 (fun k => k ≠ z) wb := later_of ((((Chg.refl w1 (fun k => k ≠ z)).drew).trans HA.out.2.1 fun k _ hk e => HZF.out.1 (e ▸ hk)).trans g4 fun k _ hk e => HZF.out.2 (by rw [← e, hk]; exact HR.out.up.1))
    have hnx := DTwo.next (M := M) (M' := M.rem sa) (Q' := Q.rem sa) (show B ≤ w1.drew.heap.size from HBW.out) (HR.out.below (bdrew (Below.refl _ w1) 1)) HFB.out HGB.out HFG.out (HSW.out ⟨5, sa, st, b, nn⟩ HBB.out HNN.out.2) HL.out (M.step_near ⟨5, sa, st, b, nn⟩) (Q.step_near ⟨5, sa, st, b, nn⟩) HA.out.1 HA.out.2.1 g3 g4
    have HB := Lib.hid (And.intro hlb hnx); clear hlb hnx g3 g4
    go_wp2_with fail
    refine ⟨HB.out.1, ?_⟩
    refine plan_group [false, false, false, false, false, false, false, false, true, true] [8, 9] 0 (by dsimp only [sel]) (by rfl) rfl (by kernel_rfl) (by kernel_rfl) HB.out.1 ?_
    (repeat go_big_quiet_step (fail)); refine wpQuiet_nil ?_
    refine wp_plan_end (by kernel_rfl) ?_
    go_wp2_with fail
    go_ret2
    exact ⟨rfl, HB.out.2.1, HW1.out.2.trans ((bdrew (Below.refl _ w1) 1).trans HB.out.2.2)⟩
  clear q1 q2 q3 q4
  have hstep : ∀ R : RDisk, R.step ⟨kind, sa, st, b, nn⟩ = (if kind = 6 then R.dir else if kind = 7 then R.cutAt nn else R) ∧ R.stepE ⟨kind, sa, st, b, nn⟩ = (if kind = 6 then R.actE [] else 0) := fun R => by
    unfold RDisk.step RDisk.stepE
    dsimp only
    rw [if_neg h1, if_neg h2, if_neg h3, if_neg h4, if_neg h5, if_neg h1, if_neg h2, if_neg h3, if_neg h4, if_neg h5]
    exact ⟨rfl, rfl⟩
  by_cases h6 : kind = 6
  · subst h6
    clear h1 h2 h3 h4 h5 hstep
    go_wp2_with (first
      | (go_at_call 40; refine (rf.SyncDir_any q Q G wa HA.out.2.2 HM.out.2.2.1 HM.out.2.1).mono ?_; rintro e wb ⟨rfl, g3, g4⟩; have HB := Lib.hid (And.intro g3 g4); clear g3 g4)
      | (go_at_call 24; refine (PDisk.syncDir HP.out HM.out.1 (by omega)).mono ?_; rintro e wa ⟨rfl, g1, g2⟩; have hr2 := HR.out.keep g2 (fun k hk hf => HFG.out k hf hk); have HA := Lib.hid (And.intro g1 (And.intro g2 hr2)); clear g1 g2 hr2))
    go_ret2
    have hnx := DTwo.next (M := M) (M' := M.dir) (Q' := Q.dir) HBW.out HR.out HFB.out HGB.out HFG.out (HSW.out ⟨6, sa, st, b, nn⟩ HBB.out HNN.out.2) HL.out (M.step_near ⟨6, sa, st, b, nn⟩) (Q.step_near ⟨6, sa, st, b, nn⟩) (HA.out.1.mono (Nat.le_add_right _ 2)) HA.out.2.1 HB.out.1 HB.out.2
    exact ⟨rfl, hnx.1, HW1.out.2.trans hnx.2⟩
  by_cases h7 : kind = 7
  · subst h7
    clear h1 h2 h3 h4 h5 h6 hstep
    go_upto_region 16 with (go_at_call 25; refine (PDisk.cut HP.out HNN.out).mono ?_; rintro e wa ⟨rfl, g1, g2⟩; have hr2 := HR.out.keep g2 (fun k hk hf => HFG.out k hf hk); have hla : Chg w1 wa (fun k => k ≠ z) := g2.mono fun k _ hk e => HZF.out.1 (e ▸ hk); have HA := Lib.hid (And.intro g1 (And.intro g2 hr2)); have k5 := HQ4.out ⟨wa, hla⟩; dsimp only at k5; clear g1 g2 hr2 hla)
    go_wp2_with (go_at_call 41; go_loud (refine (rf.Cut_any nn q Q G wa HA.out.2.2).mono ?_; rintro e wb ⟨rfl, g3, g4⟩; have HB := Lib.hid (And.intro g3 g4); clear g3 g4))
    go_ret2
    have hg : PDisk wa p (M.cutAt nn) (dk.grow F w1 wa) (n + 2) := by
      obtain ⟨-, -, hl, -⟩ := HP.out.up
      exact (HA.out.1.wide (fun k hk => ⟨.inl hk, Nat.lt_of_lt_of_le (hl k hk) HA.out.2.1.size⟩) fun _ hk => hk.2).mono (Nat.le_add_right _ 2)
    have hnx := DTwo.next (M := M) (M' := M.cutAt nn) (Q' := Q.cutAt nn) HBW.out HR.out HFB.out HGB.out HFG.out (HSW.out ⟨7, sa, st, b, nn⟩ HBB.out HNN.out.2) HL.out (M.step_near ⟨7, sa, st, b, nn⟩) (Q.step_near ⟨7, sa, st, b, nn⟩) hg HA.out.2.1 HB.out.1 HB.out.2
    exact ⟨rfl, hnx.1, HW1.out.2.trans hnx.2⟩
  have hno : ∀ R : RDisk, R.step ⟨kind, sa, st, b, nn⟩ = R ∧ R.stepE ⟨kind, sa, st, b, nn⟩ = 0 := fun R => by
    rw [(hstep R).1, (hstep R).2, if_neg h6, if_neg h7, if_neg h6]
    exact ⟨rfl, rfl⟩
  have HNO := Lib.hid hno; clear hno hstep
  go_wp2_with fail
  go_ret2
  rw [(HNO.out M).1, (HNO.out M).2, (HNO.out Q).1, (HNO.out Q).2]
  obtain ⟨⟨a1, a2, a3⟩, ⟨a4, a5⟩, a6, a7⟩ := HL.out
  exact ⟨rfl, ⟨F, G, HP.out.mono (Nat.le_add_right _ 2), HR.out, HM.out.2.2.1, HFB.out, HGB.out, HFG.out, ⟨by omega, by omega, by omega⟩, ⟨by omega, by omega⟩, by omega, by omega⟩, HW1.out.2⟩
end Go.Proofs.Ythffkbcjidbdaaa

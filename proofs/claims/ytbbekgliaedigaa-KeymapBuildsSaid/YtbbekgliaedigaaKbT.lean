/- The walk of the law KeymapBuilds: it answers true, whatever the input. -/
import Derived.Test.YtbbekgliaedigaaKbR
import Derived.Test.YtbbekgliaedigaaKeyH
namespace Go.Proofs.Ytbbekgliaedigaa
open Go.RowKit Go.Maps

set_option maxRecDepth 100000 in
set_option maxHeartbeats 4000000 in
theorem law12.builds (A : Option Addr) (n c : Nat) (bs : List Bat) (f most : Int) (w : World) (hbs : BatsAt w A bs) (hbn : bs.length = n) (hcm : n ≤ c ∧ c ≤ maxLen) :
    Calls Try.prog 4 #[.slice A n c, .int .i64 f, .int .i64 most] w fun e w' => e = .returned (.bool true) ∧ Below w.heap.size w w' := by
  obtain ⟨hnc, hcm⟩ := hcm
  unfold maxLen at hcm
  have hbw := alike.batches_sum A bs c 4000 w hbs (by unfold maxLen; omega) (by omega)
  rw [hbn] at hbw
  have HBW := Lib.hid hbw; clear hbw
  have HBS := Lib.hid hbs; clear hbs
  have HBN := Lib.hid hbn; clear hbn
  have HAW := Lib.hid (fun wx => key.awake_any wx)
  go_enter Try.func4, Try.ntmps4
  go_wp2_with fail
  refine HBW.out.mono ?_
  rintro e w1 ⟨⟨W0, rfl, hwt⟩, hb1⟩
  have HB1 := Lib.hid hb1; clear hb1 HBW
  have HWT := Lib.hid hwt; clear hwt
  by_cases hbad : 4000 < W0 ∨ 60 < n
  · have hb3 : 4000 < W0 ∨ (W0 ≤ 4000 ∧ 60 < n) := by omega
    clear hbad
    rcases hb3 with h1 | ⟨h1, h2⟩
    all_goals
      go_wp2_with fail
      refine (HAW.out w1).mono ?_
      rintro e w2 ⟨rfl, hb2⟩
      have HB2 := Lib.hid (show Below w.heap.size w w2 from HB1.out.trans (hb2.mono HB1.out.size)); clear hb2
      go_wp2_with fail
      go_ret
      exact ⟨rfl, HB2.out⟩
  have hw0 : W0 ≤ 4000 := by omega
  have hn60 : n ≤ 60 := by omega
  clear hbad
  have hflat := weight_flat bs W0 (HWT.out hw0) hw0
  have HFL := Lib.hid hflat; clear hflat HWT
  go_wp2_with fail
  go_loopw [7] (fun s7 wx => ∃ k : Nat, k ≤ n ∧ s7 = .int .i64 (k : Int) ∧ (∀ b ∈ bs.take k, b.last ≤ 4611686018427387904) ∧ Below w.heap.size w wx) (fun s7 _ => n - (intOf s7).toNat)
  case atStart => exact ⟨0, by omega, rfl, by simp, HB1.out⟩
  case round =>
    obtain ⟨k, hk, rfl, hla, hbr⟩ := hrel
    have HBR := Lib.hid hbr; clear hbr HB1
    have HLA := Lib.hid hla; clear hla
    by_cases hkn : k < n
    · have hkn' : (k : Int) < n := by omega
      obtain ⟨x, hx⟩ : ∃ y, bs[k]? = some y := ⟨_, List.getElem?_eq_getElem (by rw [HBN.out]; exact hkn)⟩
      obtain ⟨b2, o2, v2, hA, hb2l, -, d1, -, -, -, -, -, -, hi1, -⟩ := (HBS.out.below HBR.out (Nat.le_refl _)).at' hx
      subst hA
      have HX := Lib.hid hx; clear hx
      by_cases hl : x.last ≤ 4611686018427387904
      · have hl' : ¬ 4611686018427387904 < x.last := by omega
        go_wp2_with fail
        go_roundw
        case rel =>
          refine ⟨k + 1, by omega, by go_num, fun b hb => ?_, HBR.out⟩
          obtain ⟨hkl, hkx⟩ := List.getElem?_eq_some_iff.1 HX.out
          rw [List.take_succ_eq_append_getElem hkl, hkx] at hb
          rcases List.mem_append.1 hb with h | h
          · exact HLA.out b h
          · obtain rfl := List.mem_singleton.1 h
            exact hl
        case measure => simp [intOf]; omega
      · have hl' : 4611686018427387904 < x.last := by omega
        go_wp2_with fail
        refine (HAW.out wr).mono ?_
        rintro e w2 ⟨rfl, hb2⟩
        have HB2 := Lib.hid (show Below w.heap.size w w2 from HBR.out.trans (hb2.mono HBR.out.size)); clear hb2
        go_wp2_with fail
        go_ret
        exact ⟨rfl, HB2.out⟩
    · obtain rfl : k = n := by omega
      have hlast : ∀ b ∈ bs, b.last ≤ 4611686018427387904 := fun b hb => HLA.out b (by rw [List.take_of_length_le (by rw [HBN.out]; exact Nat.le_refl _)]; exact hb)
      obtain ⟨M, hM⟩ : ∃ M, M = min (max most 1) 1000000 := ⟨_, rfl⟩
      have hfl10 : (rc.flat bs).length ≤ 10000 ∧ ∀ r ∈ rc.flat bs, r.key.length ≤ 10000 := by
        obtain ⟨h1, h2⟩ := HFL.out
        exact ⟨by omega, fun r hr => by have := h2 r hr; omega⟩
      have hrecs : ∀ b ∈ bs, b.recs.length ≤ 1000000 ∧ b.last ≤ 4611686018427387904 := fun b hb => ⟨by
        have h1 := hfl10.1
        obtain ⟨s, t, rfl⟩ := List.append_of_mem hb
        unfold rc.flat at h1
        rw [List.map_append, List.flatten_append, List.length_append, List.map_cons, List.flatten_cons, List.length_append] at h1
        omega, hlast b hb⟩
      have hkb := kb.build_any A bs k c f most M wr (HBS.out.below HBR.out (Nat.le_refl _)) HBN.out (by omega) hrecs hM
      have hrb := fun (wx : World) (h : Below w.heap.size w wx) => rb.build_any A bs k c f most M wx (HBS.out.below h (Nat.le_refl _)) HBN.out (by omega) hlast hfl10 hM
      unfold kb.Post at hkb
      unfold rb.Post at hrb
      clear hlast hrecs hfl10 hM
      generalize kb.go f M 0 (fun _ => none) f bs = R at *
      obtain ⟨N, g, up⟩ := R
      dsimp only at hkb hrb
      have HKB := Lib.hid hkb; clear hkb
      have HRB := Lib.hid hrb; clear hrb
      go_wp2_with fail
      refine HKB.out.mono ?_
      rintro e w3 ⟨⟨p, b, rfl, hkm, hp, hb⟩, hb3⟩
      have HKM := Lib.hid hkm; clear hkm
      have HB3 := Lib.hid (HBR.out.trans (hb3.mono HBR.out.size)); clear hb3 HBR
      go_wp2_with fail
      refine (HRB.out w3 HB3.out).mono ?_
      rintro e w4 ⟨⟨r, l, rfl, hrm, his, hall, hl10⟩, hb4⟩
      have HB4 := Lib.hid (HB3.out.trans (hb4.mono HB3.out.size))
      have hkm4 := HKM.out.keep hb4
      obtain ⟨A3, c3, hat3, q13⟩ := hrm.cell
      have hNl := his.len
      rw [← hNl] at q13 hl10
      have hkeys := fun (wx : World) (h : Below w4.heap.size w4 wx) => KM.keysIs (hkm4.keep h) his (fun x hx => ⟨(hall x hx).1, (hall x hx).2⟩) hl10 10000 (by omega)
      have HKY := Lib.hid hkeys; clear hkeys
      have hsame := fun (wx : World) (A1 : Option Addr) (c1 : Nat) (l1 : List PItm) (h : Below w4.heap.size w4 wx) (ha : PAt wx A1 l1) (hb : ∀ x ∈ l1, PBytes wx x) (hl : l1.length = N) (hs : l1.map PItm.says = l.map PItm.says) => pf.same_true A1 N c1 l1 A3 c3 l wx hl (by omega) ha hb (hat3.below h (Nat.le_refl _)) (fun x hx => (hrm.bytes x hx).below (hb4.trans (h.mono hb4.size)) (Nat.le_refl _)) hs
      have HSAME := Lib.hid hsame; clear hsame
      have HNL := Lib.hid (And.intro hNl hl10); clear hNl hl10 hall his hrm hkm4 hb4 hat3 HKM HRB HB3
      go_upto_region 10 with fail
      have hS0 : ∃ x : Under w4, w4.drew = x.1 := under_of (bdrew (Below.refl _ _) 1)
      refine wp_plan (S := fun w0 => ∃ x : Under w4, w0 = x.1) (by kernel_rfl) hS0 ?_
      intro hS K5 hK5
      have HS := Lib.hid hS; clear hS hS0
      refine plan_group [true, true, true, true, true, true, true, true, true, false, true, true, true, true] [0, 1, 2, 3, 4, 5, 6, 7, 8, 10, 11, 12, 13] 7 (by dsimp only [sel]) (by rfl) rfl (by kernel_rfl) (by kernel_rfl) HS.out ?_
      (repeat go_big_quiet_step (fail)); refine wpQuiet_nil ?_
      clear q13
      refine plan_one [false, false, false, false, false, false, false, false, false, true] 9 6 (by dsimp only [sel]) (by rfl) rfl (by kernel_rfl) ?_; intro K1 hK1; go_wp2_with fail
      refine (HKY.out _ (bdrew (Below.refl _ _) 1)).mono ?_
      rintro e w5 ⟨A1, c1, l1, rfl, -, hat1, hpb1, -, hsays1, hb5⟩
      have hs1 := hsays1 (by have := HNL.out.1; have := HNL.out.2; omega)
      have hl1 : l1.length = N := by have := congrArg List.length hs1; rw [List.length_map, List.length_map] at this; have := HNL.out.1; omega
      rw [hl1]
      have HB5 := Lib.hid (show Below w4.heap.size w4 w5 from (bdrew (Below.refl _ w4) 1).trans (hb5.mono (Nat.le_of_eq rfl))); clear hb5
      have hsm := HSAME.out w5 A1 c1 l1 HB5.out hat1 hpb1 hl1 hs1
      have HSM := Lib.hid hsm; clear hsm hat1 hpb1 hsays1 hs1 hl1
      go_wp2_with fail
      refine ⟨under_of HB5.out, ?_⟩
      refine plan_one [false, false, false, false, false, false, false, false, false, false, false, false, false, false, true] 14 5 (by dsimp only [sel]) (by rfl) rfl (by kernel_rfl) ?_; intro K1 hK1; go_wp2_with fail
      refine HSM.out.mono ?_
      rintro e w6 ⟨rfl, q6, hq6⟩
      have HB6 := Lib.hid (show Below w4.heap.size w4 w6 by rw [hq6]; exact bdrew HB5.out q6); clear hq6
      go_wp2_with fail
      refine ⟨under_of HB6.out, ?_⟩
      refine plan_group [false, false, false, false, false, false, false, false, false, false, false, false, false, false, false, true, true] [15, 16] 3 (by dsimp only [sel]) (by rfl) rfl (by kernel_rfl) (by kernel_rfl) (under_of HB6.out) ?_
      (repeat go_big_quiet_step (fail)); refine wpQuiet_nil ?_
      refine plan_one [false, false, false, false, false, false, false, false, false, false, false, false, false, false, false, false, false, true] 17 2 (by dsimp only [sel]) (by rfl) rfl (by kernel_rfl) ?_; intro K1 hK1; go_wp2_with fail
      refine (HAW.out w6).mono ?_
      rintro e w7 ⟨rfl, hb7⟩
      have HB7 := Lib.hid (HB6.out.trans (hb7.mono HB6.out.size)); clear hb7
      go_wp2_with fail
      refine ⟨under_of HB7.out, ?_⟩
      refine plan_group [false, false, false, false, false, false, false, false, false, false, false, false, false, false, false, false, false, false, true, true] [18, 19] 0 (by dsimp only [sel]) (by rfl) rfl (by kernel_rfl) (by kernel_rfl) (under_of HB7.out) ?_
      (repeat go_big_quiet_step (fail)); refine wpQuiet_nil ?_
      refine wp_plan_end (by kernel_rfl) ?_
      go_wp2
      go_ret
      exact ⟨rfl, HB4.out.trans (HB7.out.mono HB4.out.size)⟩
end Go.Proofs.Ytbbekgliaedigaa

/- The law's shows (cordwainlaw4.shows) of both disks of the same. -/
import Derived.Test.YthffkbcjidbdaaaDpX
namespace Go.Proofs.Ythffkbcjidbdaaa
open Go.RowKit Go.Maps
set_option maxRecDepth 100000

/-- What stands at a name. -/
theorem RDisk.at_name {M : RDisk} (hw : M.WF) {j : Nat} {s : ByteArray} {f : Nat} (h : M.now[j]? = some (s, f)) : M.readE s = 0 ∧ M.size s = ((M.bytes s).length : Int) ∧ M.len f = ((M.bytes s).length : Int) ∧ M.shown[j]? = some (s, ((M.bytes s).length : Int)) ∧ dk.okName s = true := by
  have hl := rd.mem_look hw.rise (s := s) (f := f) (List.mem_of_getElem? h)
  have hb : M.bytes s = (M.file f).data := by unfold RDisk.bytes; rw [hl]
  have hlen : M.len f = ((M.bytes s).length : Int) := by rw [hb]; rfl
  refine ⟨by unfold RDisk.readE; rw [hl], by unfold RDisk.size; rw [hl]; exact hlen, hlen, ?_, (hw.good _ (List.mem_of_getElem? h)).2⟩
  unfold RDisk.shown
  rw [List.getElem?_map, h]
  show some (s, M.len f) = _
  rw [hlen]
theorem RefD.row {w : World} {q : Nat} {M : RDisk} {G : Nat → Prop} (h : RefD w q M G) : ∃ A c, w.cell? ⟨q, 2, none⟩ = some (.slice A M.now.length c) ∧ rf.NAt w A M.now ∧ w.cell? ⟨q, 7, none⟩ = some (.int .i64 M.ops) ∧ q < w.heap.size := by
  obtain ⟨fs, fv, nv, sv, av, h⟩ := h
  obtain ⟨A, c, rfl, hat⟩ := h.now_at
  exact ⟨A, c, h.blk.cell 2 rfl, hat, h.blk.cell 7 rfl, h.blk.lt⟩
set_option maxHeartbeats 8000000 in
theorem law4.shows_any (p q n : Nat) (M : RDisk) (F G : Nat → Prop) (w : World) (h : PDisk w p M F n) (hr : RefD w q M G) (hw : M.WF) (hn : n ≤ 900) :
    Calls Try.prog 15 #[.pointer (some ⟨p, 0, none⟩), .pointer (some ⟨q, 0, none⟩)] w fun e w' => e = .returned (.bool true) ∧ Below w.heap.size w w' := by
  obtain ⟨N, hN⟩ : ∃ N, N = M.now.length := ⟨_, rfl⟩
  have hNn : N ≤ 900 := by
    obtain ⟨D, ι, m', -, -, -, -, -, h6, -⟩ := h
    omega
  have hwalk : Calls Try.prog 18 #[.pointer (some ⟨p, 0, none⟩), .int .i64 1000] w fun e w' => ∃ Aa ca Al cl, e = .returned (.tuple #[.slice Aa N ca, .slice Al N cl]) ∧ At w' Aa N (fun j => ((M.now.map Prod.fst).map Value.string).getD j undef) ∧ At w' Al N (fun j => (dx.ints M.shown).getD j undef) ∧ Below w.heap.size w w' := by
    refine (law4.walk_any p M F n 1000 w h (by omega) (by omega)).mono ?_
    rintro e w' ⟨xs, Aa, ca, Al, cl, hxs, he, h1, h2, -, -, h3⟩
    have hsl : M.shown.length = N := by unfold RDisk.shown; rw [List.length_map, hN]
    have hx : xs = M.shown := by rw [hxs, List.take_of_length_le (by rw [hsl]; show N ≤ 1000; omega)]
    rw [hx, hsl] at he h1 h2
    rw [dx.strs_shown] at h1
    exact ⟨Aa, ca, Al, cl, he, h1, h2, h3⟩
  have HN := Lib.hid hN; clear hN
  have hD : ∀ wx, Below w.heap.size w wx → PDisk wx p M F n ∧ RefD wx q M G := fun wx hb => ⟨h.below hb, hr.below hb⟩
  have HD := Lib.hid (And.intro hD hw); clear hD hw h hr
  have HWK := Lib.hid hwalk; clear hwalk
  go_enter Try.func15, Try.ntmps15
  go_upto_region 5 with (first
    | (go_at_call 18; refine HWK.out.mono ?_; rintro a w1 ⟨Aa, ca, Al, cl, rfl, h1, h2, h3⟩; have H1 := Lib.hid (And.intro h1 (And.intro h2 h3)); clear h1 h2 h3)
    | (go_at_call 26; refine ((HD.out.1 w1 H1.out.2.2).1.names (by omega)).mono ?_; rintro a w2 ⟨v, rfl, h1, h2⟩; rw [← HN.out] at h1; obtain ⟨A3, c3, rfl, -, h4⟩ := own_at h1; rw [Nat.mul_one] at h4; have H2 := Lib.hid (And.intro h4 h2); clear h1 h2 h4))
  have hb2 : Below w.heap.size w w2 := H1.out.2.2.trans (H2.out.2.mono H1.out.2.2.size)
  have ha2 := H1.out.1.below H2.out.2 (Nat.le_refl _)
  have hs2 := H1.out.2.1.below H2.out.2 (Nat.le_refl _)
  obtain ⟨An, cn, k2, -, k7, hql⟩ := (HD.out.1 w2 hb2).2.row
  rw [← HN.out] at k2
  have hlat : ∀ wx, Below w2.heap.size w2 wx → later w2 (fun _ => False) wx := fun wx hb => later_of (chg_of hb)
  have htx := fun wx (hb : Below w2.heap.size w2 wx) => alike.texts_same Aa A3 N ca c3 (M.now.map Prod.fst) wx (by rw [List.length_map, ← HN.out]) (by omega) (ha2.below hb (Nat.le_refl _)) (H2.out.1.below hb (Nat.le_refl _))
  have H3 := Lib.hid (And.intro hb2 (And.intro ha2 (And.intro hs2 (And.intro hlat htx)))); clear hb2 ha2 hs2 hlat htx
  have p2 : w2.drew.cell? ⟨q, 2, none⟩ = some (.slice An N cn) := k2
  have p7 : ∀ x : Later w2 (fun _ => False), x.1.cell? ⟨q, 7, none⟩ = some (.int .i64 M.ops) := fun x => x.2.cellF k7 hql
  clear k2 k7
  have hS0 : later w2 (fun _ => False) w2.drew := later_of ((Chg.refl _ _).drew)
  refine wp_plan (S := fun w0 => ∃ x : Later w2 (fun _ => False), w0 = x.1) (by kernel_rfl) hS0 ?_
  intro hS' K5 hK5
  have HS := Lib.hid hS'; clear hS' hS0
  refine plan_group [true, true, true, true, true] [0, 1, 2, 3, 4] 32 (by dsimp only [sel]) (by rfl) rfl (by kernel_rfl) (by kernel_rfl) HS.out ?_
  (repeat go_big_quiet_step (fail)); refine wpQuiet_nil ?_
  refine plan_one [false, false, false, false, false, true] 5 31 (by dsimp only [sel]) (by rfl) rfl (by kernel_rfl) ?_; intro K1 hK1; go_wp2_with fail
  refine ⟨by first | exact HS.out | exact fun _ => HS.out, ?_⟩
  refine plan_group [false, false, false, false, false, false, true, true, true, true, true, true, true, true, true, true, true, true] [6, 7, 8, 9, 10, 11, 12, 13, 14, 15, 16, 17] 19 (by dsimp only [sel]) (by rfl) rfl (by kernel_rfl) (by kernel_rfl) HS.out ?_
  (repeat go_big_quiet_step (fail)); refine wpQuiet_nil ?_
  refine plan_one [false, false, false, false, false, false, false, false, false, false, false, false, false, false, false, false, false, false, true] 18 18 (by dsimp only [sel]) (by rfl) rfl (by kernel_rfl) ?_; intro K1 hK1; go_wp2_with fail
  refine (H3.out.2.2.2.2 w2.drew (bdrew (Below.refl _ w2) 1)).mono ?_
  rintro e w3 ⟨rfl, q1, -⟩
  have HB3 := Lib.hid (show Below w2.heap.size w2 w3 from (bdrew (Below.refl _ w2) 1).trans q1); clear q1
  go_wp2_with fail
  refine ⟨H3.out.2.2.2.1 _ HB3.out, ?_⟩
  refine plan_group [false, false, false, false, false, false, false, false, false, false, false, false, false, false, false, false, false, false, false, true, true, true, true, false, true] [19, 20, 21, 22, 24] 13 (by dsimp only [sel]) (by rfl) rfl (by kernel_rfl) (by kernel_rfl) (H3.out.2.2.2.1 _ HB3.out) ?_
  (repeat go_big_quiet_step (fail)); refine wpQuiet_nil ?_
  refine plan_one [false, false, false, false, false, false, false, false, false, false, false, false, false, false, false, false, false, false, false, false, false, false, false, true] 23 12 (by dsimp only [sel]) (by rfl) rfl (by kernel_rfl) ?_; intro K1 hK1; go_wp2_with fail
  refine ((HD.out.1 w3 (H3.out.1.trans (HB3.out.mono H3.out.1.size))).1.used).mono ?_
  rintro e w3' ⟨rfl, q1⟩
  subst q1
  go_wp2_with fail
  refine ⟨H3.out.2.2.2.1 _ HB3.out, ?_⟩
  refine plan_one [false, false, false, false, false, false, false, false, false, false, false, false, false, false, false, false, false, false, false, false, false, false, false, false, false, true] 25 11 (by dsimp only [sel]) (by rfl) rfl (by kernel_rfl) ?_; intro K1 hK1; go_wp2_with fail
  refine (rf.Used_any q M G w3 (HD.out.1 w3 (H3.out.1.trans (HB3.out.mono H3.out.1.size))).2 HD.out.2 (by rw [← HN.out]; omega)).mono ?_
  rintro e w4 ⟨rfl, q1, -⟩
  have HB4 := Lib.hid (show Below w2.heap.size w2 w4 from HB3.out.trans (q1.mono HB3.out.size)); clear q1
  go_wp2_with fail
  refine ⟨H3.out.2.2.2.1 _ HB4.out, ?_⟩
  refine plan_group [false, false, false, false, false, false, false, false, false, false, false, false, false, false, false, false, false, false, false, false, false, false, false, false, false, false, true, true, true, true, false, true, true, true, true] [26, 27, 28, 29, 31, 32, 33, 34] 3 (by dsimp only [sel]) (by rfl) rfl (by kernel_rfl) (by kernel_rfl) (H3.out.2.2.2.1 _ HB4.out) ?_
  (repeat go_big_quiet_step (fail)); refine wpQuiet_nil ?_
  refine plan_one [false, false, false, false, false, false, false, false, false, false, false, false, false, false, false, false, false, false, false, false, false, false, false, false, false, false, false, false, false, false, true] 30 2 (by dsimp only [sel]) (by rfl) rfl (by kernel_rfl) ?_; intro K1 hK1; go_wp2_with fail
  refine ((HD.out.1 w4 (H3.out.1.trans (HB4.out.mono H3.out.1.size))).1.ops).mono ?_
  rintro e w4' ⟨rfl, q1⟩
  subst q1
  go_wp2_with fail
  refine ⟨H3.out.2.2.2.1 _ HB4.out, ?_⟩
  refine plan_group [false, false, false, false, false, false, false, false, false, false, false, false, false, false, false, false, false, false, false, false, false, false, false, false, false, false, false, false, false, false, false, false, false, false, false, true, true] [35, 36] 0 (by dsimp only [sel]) (by rfl) rfl (by kernel_rfl) (by kernel_rfl) (H3.out.2.2.2.1 _ HB4.out) ?_
  (repeat go_big_quiet_step (fail)); refine wpQuiet_nil ?_
  refine wp_plan_end (by kernel_rfl) ?_
  have hst : At w4 Aa N (fun j => ((M.now.map Prod.fst).map Value.string).getD j undef) ∧ At w4 Al N (fun j => (dx.ints M.shown).getD j undef) ∧ Below w.heap.size w w4 := ⟨H3.out.2.1.below HB4.out (Nat.le_refl _), H3.out.2.2.1.below HB4.out (Nat.le_refl _), H3.out.1.trans (HB4.out.mono H3.out.1.size)⟩
  have HST := Lib.hid hst; clear hst p2 p7 HS H3 HB3 HB4 H1 H2 hql
  go_wp2_with fail
  go_loopw [8] (fun i wr => ∃ (j : Nat), j ≤ N ∧ i = .int .i64 (j : Int) ∧ At wr Aa N (fun j => ((M.now.map Prod.fst).map Value.string).getD j undef) ∧ At wr Al N (fun j => (dx.ints M.shown).getD j undef) ∧ Below w.heap.size w wr) (fun i _ => N - (intOf i).toNat)
  case atStart => exact ⟨0, by omega, rfl, HST.out⟩
  case round =>
    obtain ⟨j, hj, rfl, hat1, hat2, hb⟩ := hrel
    clear HST
    have H0 := Lib.hid (And.intro hat1 (And.intro hat2 hb)); clear hat1 hat2 hb
    by_cases hlt : j < N
    · have hlt' : (j : Int) < (N : Int) := by omega
      obtain ⟨⟨s, f⟩, hy⟩ : ∃ y, M.now[j]? = some y := ⟨_, List.getElem?_eq_getElem (by have := HN.out; omega)⟩
      obtain ⟨e1, e2, e3, e4, e5⟩ := RDisk.at_name HD.out.2 hy
      obtain ⟨L, hL⟩ : ∃ L, L = M.bytes s := ⟨_, rfl⟩
      rw [← hL] at e2 e3 e4
      obtain ⟨k, hk⟩ : ∃ k, k = L.length := ⟨_, rfl⟩
      rw [← hk] at e2 e3 e4
      have hkb : k ≤ 1099511627776 := by rw [hk, hL]; exact (HD.out.2.bytes_le s).1
      have hre := (HD.out.1 wr H0.out.2.2).1.read (s := s) (dk.ok_le e5)
      rw [e1, ← hL, ← hk] at hre
      have hrr := fun wx (hb : Below w.heap.size w wx) => rf.Read_any s q M G wx (HD.out.1 wx hb).2 HD.out.2 (by rw [← HN.out]; omega)
      rw [e1, ← hL, ← hk] at hrr
      have hsz := fun wx (hb : Below w.heap.size w wx) => (HD.out.1 wx hb).1.size (s := s) (dk.ok_le e5)
      rw [e2] at hsz
      have hc1 : ∀ wx, Below wr.heap.size wr wx → ∃ g o, Aa = some ⟨g, o, none⟩ ∧ g < wx.heap.size ∧ wx.cell? ⟨g, o + j, none⟩ = some (.string s) := fun wx hb => by
        obtain ⟨g, o, h1, h2, h3⟩ := (H0.out.1.below hb (Nat.le_refl _)) (by omega)
        refine ⟨g, o, h1, h2, (h3 j hlt).trans (congrArg some ?_)⟩
        dsimp only
        rw [List.getD_eq_getElem?_getD, List.getElem?_map, List.getElem?_map, hy]
        rfl
      have hc2 : ∀ wx, Below wr.heap.size wr wx → ∃ g o, Al = some ⟨g, o, none⟩ ∧ g < wx.heap.size ∧ wx.cell? ⟨g, o + j, none⟩ = some (.int .i64 (k : Int)) := fun wx hb => by
        obtain ⟨g, o, h1, h2, h3⟩ := (H0.out.2.1.below hb (Nat.le_refl _)) (by omega)
        refine ⟨g, o, h1, h2, (h3 j hlt).trans (congrArg some ?_)⟩
        unfold dx.ints
        dsimp only
        rw [List.getD_eq_getElem?_getD, List.getElem?_map, e4]
        rfl
      have hc3 : ∀ wx, Below w.heap.size w wx → ∃ An cn o, wx.cell? ⟨q, 2, none⟩ = some (.slice (some ⟨An, o, none⟩) N cn) ∧ wx.cell? ⟨An, o + j * 2, none⟩ = some (.string s) ∧ q < wx.heap.size ∧ An < wx.heap.size := fun wx hb => by
        obtain ⟨A, c, h1, h2, -, h3⟩ := (HD.out.1 wx hb).2.row
        rw [← HN.out] at h1
        obtain ⟨b, o, rfl, h4, h5, -⟩ := h2.at' hy
        exact ⟨b, c, o, h1, h5, h3, h4⟩
      have HE := Lib.hid (And.intro hre (And.intro hrr (And.intro hsz (And.intro hc1 (And.intro hc2 (And.intro hc3 hk.symm)))))); clear hre hrr hsz hc1 hc2 hc3 hk hL e1 e2 e3 e4 e5 hy
      obtain ⟨ga, oa, rfl, hga, d1⟩ := HE.out.2.2.2.1 wr (Below.refl _ _)
      have D1 := Lib.hid (And.intro hga d1)
      go_upto_region 11 with (go_at_call 16; refine HE.out.1.mono ?_; rintro a w5 ⟨v9, rfl, h4, h5⟩; obtain ⟨A9, c9, hv9, hc9, -, hat9⟩ := own_bytes h4; subst hv9; have H9 := Lib.hid (And.intro hat9 h5); clear h4 h5 hat9 hc9)
      have d2 : w5.cell? ⟨ga, oa + j, none⟩ = some (.string s) := (H9.out.2.cell D1.out.1).trans D1.out.2
      clear d1
      have hb5 : Below w.heap.size w w5 := H0.out.2.2.trans (H9.out.2.mono H0.out.2.2.size)
      have HB5 := Lib.hid hb5; clear hb5
      go_upto_region 12 with (go_at_call 17; refine (HE.out.2.1 w5 HB5.out).mono ?_; rintro a w6 ⟨v10, rfl, h4, h5, -⟩; obtain ⟨A10, c10, hv10, hc10, -, hat10⟩ := own_bytes h4; subst hv10; have H10 := Lib.hid (And.intro hat10 h5); clear h4 h5 hat10 hc10)
      clear d2 hga
      have hb6 : Below wr.heap.size wr w6 := H9.out.2.trans (H10.out.2.mono H9.out.2.size)
      have hbw6 : Below w.heap.size w w6 := HB5.out.trans (H10.out.2.mono HB5.out.size)
      obtain ⟨ga', oa', hAa, hga, d1⟩ := HE.out.2.2.2.1 w6 hb6
      obtain ⟨rfl, rfl⟩ : ga = ga' ∧ oa = oa' := by simpa using hAa
      clear hAa
      obtain ⟨gs, os, rfl, hgs, d2⟩ := HE.out.2.2.2.2.1 w6 hb6
      obtain ⟨An, cn, on, d3, d4, hql, hAn⟩ := HE.out.2.2.2.2.2.1 w6 hbw6
      have hkl := HE.out.2.2.2.2.2.2
      have hat9 := H9.out.1.below H10.out.2 (Nat.le_refl _)
      obtain ⟨str, hstr⟩ : ∃ str, str = strOf L := ⟨_, rfl⟩
      have k1 : ∀ y : Later w6 (fun _ => False), (convert 34 9 (.slice A9 k c9)).run Try.prog y.1 = .ok (.string str) y.1 := fun y => by rw [hstr]; exact conv_any (P := Try.prog) Try.underlying34 Try.underlying5 Try.underlying9 _ hkl (y.2.at' hat9 fun _ _ _ _ q => q)
      have k2 : ∀ y : Later w6 (fun _ => False), (convert 34 9 (.slice A10 k c10)).run Try.prog y.1 = .ok (.string str) y.1 := fun y => by rw [hstr]; exact conv_any (P := Try.prog) Try.underlying34 Try.underlying5 Try.underlying9 _ hkl (y.2.at' H10.out.1 fun _ _ _ _ q => q)
      have p1 : ∀ x : Later w6 (fun _ => False), x.1.cell? ⟨ga, oa + j, none⟩ = some (.string s) := fun x => x.2.cellF d1 hga
      have p2 : ∀ x : Later w6 (fun _ => False), x.1.cell? ⟨q, 2, none⟩ = some (.slice (some ⟨An, on, none⟩) N cn) := fun x => x.2.cellF d3 hql
      have p3 : ∀ x : Later w6 (fun _ => False), x.1.cell? ⟨An, on + j * 2, none⟩ = some (.string s) := fun x => x.2.cellF d4 hAn
      have p4 : ∀ x : Later w6 (fun _ => False), x.1.cell? ⟨gs, os + j, none⟩ = some (.int .i64 (k : Int)) := fun x => x.2.cellF d2 hgs
      have j1 : w6.drew.cell? ⟨ga, oa + j, none⟩ = some (.string s) := d1
      have j2 : w6.drew.cell? ⟨q, 2, none⟩ = some (.slice (some ⟨An, on, none⟩) N cn) := d3
      have j3 : w6.drew.cell? ⟨An, on + j * 2, none⟩ = some (.string s) := d4
      have j4 : w6.drew.cell? ⟨gs, os + j, none⟩ = some (.int .i64 (k : Int)) := d2
      have j5 : (convert 34 9 (.slice A10 k c10)).run Try.prog w6.drew = .ok (.string str) w6.drew := k2 ⟨w6.drew, (Chg.refl _ _).drew⟩
      have hnx : ∀ wx, Below w6.heap.size w6.drew wx → At wx (some ⟨ga, oa, none⟩) N (fun j => ((M.now.map Prod.fst).map Value.string).getD j undef) ∧ At wx (some ⟨gs, os, none⟩) N (fun j => (dx.ints M.shown).getD j undef) ∧ Below w.heap.size w wx := fun wx hx => by
        have hx' : Below wr.heap.size wr wx := hb6.trans (((bdrew (Below.refl _ w6) 1).trans hx).mono hb6.size)
        exact ⟨H0.out.1.below hx' (Nat.le_refl _), H0.out.2.1.below hx' (Nat.le_refl _), H0.out.2.2.trans (hx'.mono H0.out.2.2.size)⟩
      have HNX := Lib.hid (And.intro hnx (And.intro hbw6 hstr)); clear hnx hbw6 hb6 hstr hat9 hkl d1 d2 d3 d4 D1
      have hS0 : later w6 (fun _ => False) w6.drew := later_of ((Chg.refl _ _).drew)
      refine wp_plan (S := fun w0 => ∃ x : Later w6 (fun _ => False), w0 = x.1) (by kernel_rfl) hS0 ?_
      intro hS' K6 hK6
      have HS := Lib.hid hS'; clear hS' hS0
      refine plan_group [true, true, true, true, true, true, true, false, true] [0, 1, 2, 3, 4, 5, 6, 8] 37 (by dsimp only [sel]) (by rfl) rfl (by kernel_rfl) (by kernel_rfl) HS.out ?_
      (repeat go_big_quiet_step (fail)); refine wpQuiet_nil ?_
      refine plan_one [false, false, false, false, false, false, false, true] 7 36 (by dsimp only [sel]) (by rfl) rfl (by kernel_rfl) ?_; intro K1 hK1; go_wp2_with fail
      refine ⟨by first | exact HS.out | exact fun _ => HS.out, ?_⟩
      refine plan_group [false, false, false, false, false, false, false, false, false, true, true] [9, 10] 34 (by dsimp only [sel]) (by rfl) rfl (by kernel_rfl) (by kernel_rfl) HS.out ?_
      (repeat go_big_quiet_step (fail)); refine wpQuiet_nil ?_
      refine plan_one [false, false, false, false, false, false, false, false, false, false, false, true] 11 33 (by dsimp only [sel]) (by rfl) rfl (by kernel_rfl) ?_; intro K1 hK1; go_wp2_with fail
      refine ⟨by first | exact HS.out | exact fun _ => HS.out, ?_⟩
      refine plan_group [false, false, false, false, false, false, false, false, false, false, false, false, true, true, true, true, true, false, true, true] [12, 13, 14, 15, 16, 18, 19] 26 (by dsimp only [sel]) (by rfl) rfl (by kernel_rfl) (by kernel_rfl) HS.out ?_
      (repeat go_big_quiet_step (fail)); refine wpQuiet_nil ?_
      refine plan_one [false, false, false, false, false, false, false, false, false, false, false, false, false, false, false, false, false, true] 17 25 (by dsimp only [sel]) (by rfl) rfl (by kernel_rfl) ?_; intro K1 hK1; go_wp2_with fail
      refine ⟨by first | exact HS.out | exact fun _ => HS.out, ?_⟩
      refine plan_group [false, false, false, false, false, false, false, false, false, false, false, false, false, false, false, false, false, false, false, false, true, true, true, true, true, true] [20, 21, 22, 23, 24, 25] 19 (by dsimp only [sel]) (by rfl) rfl (by kernel_rfl) (by kernel_rfl) HS.out ?_
      (repeat go_big_quiet_step (fail)); refine wpQuiet_nil ?_
      refine plan_one [false, false, false, false, false, false, false, false, false, false, false, false, false, false, false, false, false, false, false, false, false, false, false, false, false, false, true] 26 18 (by dsimp only [sel]) (by rfl) rfl (by kernel_rfl) ?_; intro K1 hK1; go_wp2_with fail
      refine ⟨by first | exact HS.out | exact fun _ => HS.out, ?_⟩
      refine plan_group [false, false, false, false, false, false, false, false, false, false, false, false, false, false, false, false, false, false, false, false, false, false, false, false, false, false, false, true, true, true, true, true, true, true, true, true, true, true, true, false, false, true, true] [27, 28, 29, 30, 31, 32, 33, 34, 35, 36, 37, 38, 41, 42] 4 (by dsimp only [sel]) (by rfl) rfl (by kernel_rfl) (by kernel_rfl) HS.out ?_
      (repeat go_big_quiet_step (fail)); refine wpQuiet_nil ?_
      refine plan_one [false, false, false, false, false, false, false, false, false, false, false, false, false, false, false, false, false, false, false, false, false, false, false, false, false, false, false, false, false, false, false, false, false, false, false, false, false, false, false, true] 39 3 (by dsimp only [sel]) (by rfl) rfl (by kernel_rfl) ?_; intro K1 hK1; go_wp2_with fail
      refine ⟨by first | exact HS.out | exact fun _ => HS.out, ?_⟩
      refine plan_one [false, false, false, false, false, false, false, false, false, false, false, false, false, false, false, false, false, false, false, false, false, false, false, false, false, false, false, false, false, false, false, false, false, false, false, false, false, false, false, false, true] 40 2 (by dsimp only [sel]) (by rfl) rfl (by kernel_rfl) ?_; intro K1 hK1; go_wp2_with fail
      refine (HE.out.2.2.1 w6.drew (bdrew HNX.out.2.1 1)).mono ?_
      rintro e w7 ⟨rfl, q1, -⟩
      have HB7 := Lib.hid (show Below w6.heap.size w6.drew w7 from q1); clear q1
      go_wp2_with fail
      refine ⟨later_of (((Chg.refl w6 (fun _ => False)).drew).trans (chg_of (P := fun _ => False) HB7.out) fun _ _ q => q), ?_⟩
      refine plan_group [false, false, false, false, false, false, false, false, false, false, false, false, false, false, false, false, false, false, false, false, false, false, false, false, false, false, false, false, false, false, false, false, false, false, false, false, false, false, false, false, false, false, false, true, true] [43, 44] 0 (by dsimp only [sel]) (by rfl) rfl (by kernel_rfl) (by kernel_rfl) (later_of (((Chg.refl w6 (fun _ => False)).drew).trans (chg_of (P := fun _ => False) HB7.out) fun _ _ q => q)) ?_
      (repeat go_big_quiet_step (fail)); refine wpQuiet_nil ?_
      refine wp_plan_end (by kernel_rfl) ?_
      go_wp2_with fail
      go_roundw
      case rel => exact ⟨j + 1, by omega, by go_num, HNX.out.1 w7 HB7.out⟩
      case measure => simp [intOf]; omega
    · obtain rfl : j = N := by omega
      go_wp2_with fail
      go_ret
      exact ⟨rfl, H0.out.2.2⟩
end Go.Proofs.Ythffkbcjidbdaaa

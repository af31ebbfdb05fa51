/- The law NetOrder: its walk. -/
import Derived.BigRegion
import Derived.Deep.CutRange
import Derived.Deep.CutBlock
import Derived.Test.YtbbekgliaedigaaNetN
namespace Go.Proofs.Ytbbekgliaedigaa
open Go.RowKit
set_option maxRecDepth 20000

set_option maxHeartbeats 16000000 in
theorem law23.order_in (n : Nat) (A : Option Addr) (m c : Nat) (z : List Int) (w : World) (hn2 : 2 ≤ n) (hn30 : n ≤ 30) (hm : m ≤ 30) (hz : z.length = m) (hat : At w A m (fun j => .int .i64 (z.getD j 0))) (hwf : ∀ x ∈ z, (Lit.int .i64 x).wf = true) :
    Calls Try.prog 13 #[.int .i64 n, .slice A m c] w fun e w' => e = .returned (.bool true) ∧ Below w.heap.size w w' := by
  have hd0 : decide ((n : Int) < 2) = false := decide_eq_false (by omega)
  have hd1 : decide (30 < (n : Int)) = false := decide_eq_false (by omega)
  have hd2 : decide (30 < (m : Int)) = false := decide_eq_false (by omega)
  have HAT := Lib.hid hat; clear hat
  have HZ := Lib.hid hz; clear hz
  have HWF := Lib.hid hwf; clear hwf
  obtain ⟨i0, hi, hz0, hz1, hz2⟩ := info_parts infoInt'
  have HI0 := Lib.hid (And.intro hi (And.intro hz0 (And.intro hz1 hz2))); clear hi hz0 hz1 hz2
  go_enter Try.func13, Try.ntmps13
  go_wp2_with fail
  clear hd0 hd1 hd2
  refine (net.newS w.heap.size 0 w (Nat.le_refl _)).mono ?_
  rintro e w1 ⟨p, rfl, hn1, hb1⟩
  have HB1 := Lib.hid hb1; clear hb1
  have HN1 := Lib.hid hn1; clear hn1
  go_wp2_with fail
  go_loopw [6, 7] (fun s6 s7 wr => ∃ k : Nat, k ≤ n ∧ s7 = .int .i64 ((k : Int) + 1) ∧ wr.ownsRow w.heap.size 3 1 s6 k (ids (ord.want k)) ∧ NetS w.heap.size 0 wr p k (ord.S k) ∧ Below w.heap.size w wr) (fun _ s7 _ => n + 1 - (intOf s7).toNat)
  case atStart => exact ⟨0, by omega, rfl, World.ownsRow_nil _ _ _ _, HN1.out, HB1.out⟩
  case round =>
    obtain ⟨k, hk, rfl, hrow, hnet, hbw⟩ := hrel
    clear HN1 HB1
    obtain ⟨A6, c6, rfl, -⟩ := own_at hrow
    have HROW := Lib.hid hrow; clear hrow
    have HNET := Lib.hid hnet; clear hnet
    have HBW := Lib.hid hbw; clear hbw
    by_cases hlt : k < n
    · go_wp2_with fail
      obtain ⟨w2, hw2⟩ : ∃ w2, w2 = wr.alloc (.cells #[.int .u8 ((k : Int) + 1)] 5) := ⟨_, rfl⟩
      rw [← hw2]
      have hb2 : Below wr.heap.size wr w2 := by rw [hw2]; exact (Below.refl _ _).alloc (Nat.le_refl _) _
      have hat2 : At w2 (some ⟨wr.heap.size, 0, none⟩) 1 (byteAt [k + 1]) := by
        rw [hw2]
        exact (At.new wr #[.int .u8 ((k : Int) + 1)] 5 (n := 1) rfl).congr fun j hj => match j, hj with | 0, _ => rfl
      clear hw2
      have hB2 := HBW.out.trans (hb2.mono HBW.out.size)
      refine (net.sendS w.heap.size 0 p k _ _ 1 1 [k + 1] w2 (HNET.out.below hb2) (by omega) (Nat.zero_le _) rfl (by omega) hat2).mono ?_
      rintro e w3 ⟨rfl, hn3, hc3⟩
      rw [← ord.S_succ] at hn3
      have hr3 := hc3.own (own_below HROW.out hb2) (by decide) (by decide)
      have HB3 := Lib.hid (hB2.trans (hc3.toBelow hB2.size)); clear hB2 hc3 hat2 hb2 HBW HROW HNET
      have HN3 := Lib.hid hn3; clear hn3
      have HR3 := Lib.hid hr3; clear hr3
      go_wp2_with (at_builtin; refine wpList_app2 _ rfl (.tmp 41) (.tmp 43) 97 rfl w.heap.size 3 i0 _ 1 8 Try.underlying97 HI0.out.1 HI0.out.2.1 HI0.out.2.2.1 HI0.out.2.2.2 rfl (by decide) _ k (ids (ord.want k)) rfl (HR3.out.alloc _) (some ⟨w3.heap.size, 0, none⟩) 1 1 (fun _ => .int .i64 ((k : Int) + 1)) rfl (At.one w3 _ _) (fun _ _ => rfl) (by unfold maxLen; omega) (by omega) (by have := HB3.out.size; simp; omega) ?_; intro v4 w4 hown4 hg4 hl4; have HO4 := Lib.hid (show w4.ownsRow w.heap.size 3 1 v4 (k + 1) (ids (ord.want (k + 1))) from by rw [ord.want_succ]; unfold ids at hown4 ⊢; rw [List.map_append]; exact hown4); have HC4 := Lib.hid (show Chg w3 w4 (fun k => (Value.slice A6 _ c6).ownBlock = some k) from (Chg.alloc w3 _ _).trans (Chg.grown hg4) fun _ _ h => h); clear hown4 hg4 hl4)
      go_wp2
      go_roundw
      case rel => exact ⟨k + 1, by omega, by go_num, HO4.out, HN3.out.chg HC4.out fun q hq => net.free_row HR3.out hq, HB3.out.trans (HC4.out.below HB3.out.size fun q hq => (HR3.out.lt q hq).1)⟩
      case measure => simp [intOf]; omega
    · obtain rfl : n = k := by omega
      have hord : Ord (ord.S n) (ord.want n) := Ord.first hn30 HNET.out.ids.2.1
      obtain ⟨g6, c6', hv6, hk6, -, hg6, -, -⟩ := own_row_pos HROW.out (by omega)
      obtain ⟨rfl, rfl⟩ : A6 = some ⟨g6, 0, none⟩ ∧ c6 = c6' := by simpa using hv6
      clear hv6
      have hinit : ∃ S want, Ord S want ∧ want.length = n ∧ NetS w.heap.size 0 wr p n S ∧ wr.ownsRow w.heap.size 3 1 (.slice (some ⟨g6, 0, none⟩) n c6) n (ids want) ∧ Below w.heap.size w wr := ⟨_, _, hord, ord.want_len n, HNET.out, HROW.out, HBW.out⟩
      have HINIT := Lib.hid hinit; clear hinit hord HNET HROW HBW
      clear hk hlt
      go_wp2_with fail
      obtain ⟨wo, hwo⟩ : ∃ wo : World, wo = wr := ⟨_, rfl⟩
      subst hwo
      go_loopw [8] (fun s8 wr => ∃ j : Nat, j ≤ m ∧ s8 = .int .i64 (j : Int) ∧ ∃ S want, Ord S want ∧ want.length = n ∧ NetS w.heap.size 0 wr p n S ∧ wr.ownsRow w.heap.size 3 1 (.slice (some ⟨g6, 0, none⟩) n c6) n (ids want) ∧ Below w.heap.size w wr) (fun s8 _ => m - (intOf s8).toNat)
      case atStart => exact ⟨0, by omega, rfl, HINIT.out⟩
      case round =>
        obtain ⟨j, hj, rfl, S, want, hord, hwl, hnet, hrow, hbw⟩ := hrel
        clear HINIT
        have HORD := Lib.hid hord; clear hord
        have HWL := Lib.hid hwl; clear hwl
        have HNET := Lib.hid hnet; clear hnet
        have HROW := Lib.hid hrow; clear hrow
        have HBW := Lib.hid hbw; clear hbw
        by_cases hlt : j < m
        · obtain ⟨sb, soff, rfl, hsb, hsc⟩ := HAT.out (by omega)
          have hs : wr.cell? ⟨sb, soff + j, none⟩ = some (.int .i64 (z.getD j 0)) := (HBW.out.cell (p := ⟨sb, soff + j, none⟩) hsb).trans (hsc j hlt)
          have hzb : -9223372036854775808 ≤ z.getD j 0 ∧ z.getD j 0 ≤ 9223372036854775807 := wf_i64.1 (HWF.out _ (by simp only [List.getD, List.getElem?_eq_getElem (show j < z.length by have := HZ.out; omega), Option.getD_some]; exact List.getElem_mem _))
          generalize z.getD j 0 = x at hs hzb
          have hq := tdiv_bd x n hzb.1 hzb.2 hn2
          obtain ⟨r1, hr1, hR1⟩ := rnd.fix x n hzb (by omega) (by omega)
          obtain ⟨r2, hr2, hR2⟩ := rnd.fix (x.tdiv n) n hq (by omega) (by omega)
          have hs' : ∀ q, (wr.drewN q).cell? ⟨sb, soff + j, none⟩ = some (.int .i64 x) := fun q => hs
          have HR := Lib.hid (And.intro hR1 hR2); clear hR1 hR2
          go_wp2_with fail
          obtain ⟨hz1, hz2⟩ := hzb
          obtain ⟨hq1, hq2⟩ := hq
          go_big_quiet (first
            | (go_at_call 61; with_reducible exact Calls.quiet_of_same (HR.out.1 _))
            | (go_at_call 61; with_reducible exact Calls.quiet_of_same (HR.out.2 _)))
          obtain ⟨w2, hw2⟩ : ∃ w2, w2 = wr.drewN nq := ⟨_, rfl⟩
          rw [← hw2]
          have hb2 : Below wr.heap.size wr w2 := by rw [hw2]; exact bdrew (Below.refl _ _) _
          have hn2' := HNET.out.below hb2
          have hr2' := own_below HROW.out hb2
          have hB2 := HBW.out.trans (hb2.mono HBW.out.size)
          clear hw2 hb2 hs hs' HR HNET HROW HBW
          obtain ⟨wa, hwa⟩ : ∃ k, want[r1]? = some k := ⟨_, List.getElem?_eq_getElem (by have := HWL.out; omega)⟩
          obtain ⟨wb, hwb⟩ : ∃ k, want[r2]? = some k := ⟨_, List.getElem?_eq_getElem (by have := HWL.out; omega)⟩
          have hSa := HORD.out.at' hwa
          have hSb := HORD.out.at' hwb
          have hq : ∀ x : Later w2 (fun k => w.heap.size ≤ k ∧ NetTy w2 k), x.1.ownsRow w.heap.size 3 1 (.slice (some ⟨g6, 0, none⟩) n c6) n (ids want) := fun x => x.2.own hr2' fun k hk hh => hh.2.not_row hr2' (by decide) (by decide) hk
          have qa : ∀ x : Later w2 (fun k => w.heap.size ≤ k ∧ NetTy w2 k), x.1.cell? ⟨g6, r1, none⟩ = some (.int .i64 wa) := fun x => (ids_cells (hq x) hwa).1
          have qb : ∀ x : Later w2 (fun k => w.heap.size ≤ k ∧ NetTy w2 k), x.1.cell? ⟨g6, r2, none⟩ = some (.int .i64 wb) := fun x => (ids_cells (hq x) hwb).1
          have da : w2.drew.cell? ⟨g6, r1, none⟩ = some (.int .i64 wa) := (ids_cells hr2' hwa).1
          have db : w2.drew.cell? ⟨g6, r2, none⟩ = some (.int .i64 wb) := (ids_cells hr2' hwb).1
          clear hq
          have hsw := net.swapS w.heap.size 0 p n S wa wb [wa.toNat] [wb.toNat] w2.drew (hn2'.below (bdrew (Below.refl _ w2) 1)) (by omega) (List.mem_of_getElem? hSa.1) (List.mem_of_getElem? hSb.1)
          have HSW := Lib.hid hsw; clear hsw
          have HW := Lib.hid (And.intro hwa hwb); clear hwa hwb
          have HSS := Lib.hid (And.intro hSa hSb); clear hSa hSb
          have HN2 := Lib.hid hn2'; clear hn2'
          have HR2 := Lib.hid hr2'; clear hr2'
          have HB2 := Lib.hid hB2; clear hB2
          go_upto_region 17 with fail
          have hS0 : later w2 (fun k => w.heap.size ≤ k ∧ NetTy w2 k) w2.drew := later_of ((Chg.refl _ _).drew)
          refine wp_plan (S := fun w0 => ∃ x : Later w2 (fun k => w.heap.size ≤ k ∧ NetTy w2 k), w0 = x.1) (by kernel_rfl) hS0 ?_
          intro hS K5 hK5
          have HS := Lib.hid hS; clear hS hS0
          refine plan_group [true, true, true, true, true, true, true, true] [0, 1, 2, 3, 4, 5, 6, 7] 3 (by dsimp only [sel]) (by rfl) rfl (by kernel_rfl) (by kernel_rfl) HS.out ?_
          (repeat go_big_quiet_step (fail)); refine wpQuiet_nil ?_
          refine plan_one [false, false, false, false, false, false, false, false, true] 8 2 (by dsimp only [sel]) (by rfl) rfl (by kernel_rfl) ?_; intro K1 hK1; go_wp2_with fail
          refine ⟨HS.out, ?_⟩
          refine plan_one [false, false, false, false, false, false, false, false, false, true] 9 1 (by dsimp only [sel]) (by rfl) rfl (by kernel_rfl) ?_; intro K1 hK1; go_wp2_with fail
          refine HSW.out.mono ?_
          rintro e w3 ⟨rfl, hn3, hc3⟩
          have hl3 := later_of (show Chg w2 w3 (fun k => w.heap.size ≤ k ∧ NetTy w2 k) from ((Chg.refl w2 _).drew).trans hc3.chg fun _ _ h => h)
          have hr3 := hc3.own (show w2.drew.ownsRow _ _ _ _ _ _ from HR2.out) (by decide) (by decide)
          have hb3 := HB2.out.trans ((bdrew (Below.refl w.heap.size w2) 1).trans (hc3.toBelow HB2.out.size))
          have HL3 := Lib.hid hl3; clear hl3 hc3
          have HR3 := Lib.hid hr3; clear hr3
          have HB3 := Lib.hid hb3; clear hb3
          have HN3 := Lib.hid hn3; clear hn3
          go_wp2_with fail
          refine ⟨HL3.out, ?_⟩
          refine plan_group [false, false, false, false, false, false, false, false, false, false, true] [10] 0 (by dsimp only [sel]) (by rfl) rfl (by kernel_rfl) (by kernel_rfl) HL3.out ?_
          (repeat go_big_quiet_step (fail)); refine wpQuiet_nil ?_
          refine wp_plan_end (by kernel_rfl) ?_
          clear qa qb da db HS HL3
          refine hK5 _ _ ?_
          clear hK5
          go_upto_region 19 with fail
          obtain ⟨da, hg6l, hfa⟩ := ids_cells HR3.out HW.out.1
          obtain ⟨db, -, hfb⟩ := ids_cells HR3.out HW.out.2
          have da' : w3.drew.cell? ⟨g6, r1, none⟩ = some (.int .i64 wa) := da
          have db' : w3.drew.cell? ⟨g6, r2, none⟩ = some (.int .i64 wb) := db
          have hfa' : w3.drew.frozen? ⟨g6, r1, none⟩ = false := hfa
          have hfb' : w3.drew.frozen? ⟨g6, r2, none⟩ = false := hfb
          have hap : (S.map (net.tr wa [wa.toNat] wb [wb.toNat])).Pairwise fun x y => x.1 ≠ y.1 := HN3.out.ids.2.1
          have hnext : ∀ w4, w4 = ((w3.setCell ⟨g6, r1, none⟩ (.int .i64 wb)).setCell ⟨g6, r2, none⟩ (.int .i64 wa)).drew → ∃ S' want', Ord S' want' ∧ want'.length = n ∧ NetS w.heap.size 0 w4 p n S' ∧ w4.ownsRow w.heap.size 3 1 (.slice (some ⟨g6, 0, none⟩) n c6) n (ids want') ∧ Below w.heap.size w w4 := fun w4 h4 => by
            have hc4 : Chg w3 w4 (fun k => k = g6) := by rw [h4]; exact ((Chg.setCell w3 g6 r1 _).trans (Chg.setCell _ g6 r2 _) fun _ _ h => h).drew
            refine ⟨_, _, HORD.out.swap HW.out.1 HW.out.2 hap, by rw [List.length_set, List.length_set, HWL.out], HN3.out.chg hc4 fun k hk => ?_, ?_, HB3.out.trans (hc4.below HB3.out.size fun k hk => by have hk : k = g6 := hk; omega)⟩
            · have hk : k = g6 := hk
              subst hk
              exact net.free_row HR3.out rfl
            · have := own_set (own_set HR3.out r1 (.int .i64 wb)) r2 (.int .i64 wa)
              rw [h4]
              unfold ids at this ⊢
              rw [List.map_set, List.map_set]
              exact this
          have HNEXT := Lib.hid hnext; clear hnext hap
          rcases Decidable.em (r1 = r2) with hrr | hrr
          · subst hrr
            obtain rfl : wa = wb := by
              have h1 := HW.out.1
              rw [HW.out.2] at h1
              exact (Option.some.inj h1).symm
            go_region
            obtain ⟨w4, hw4⟩ : ∃ w4, w4 = ((w3.setCell ⟨g6, r1, none⟩ (.int .i64 wa)).setCell ⟨g6, r1, none⟩ (.int .i64 wa)).drew := ⟨_, rfl⟩
            have HF := Lib.hid (HNEXT.out w4 hw4)
            rw [← hw4]
            clear hw4 da db da' db' hfa hfb hfa' hfb'
            go_wp2
            go_roundw
            case rel => exact ⟨j + 1, by omega, by go_num, HF.out⟩
            case measure => simp [intOf]; omega
          · go_region
            obtain ⟨w4, hw4⟩ : ∃ w4, w4 = ((w3.setCell ⟨g6, r1, none⟩ (.int .i64 wb)).setCell ⟨g6, r2, none⟩ (.int .i64 wa)).drew := ⟨_, rfl⟩
            have HF := Lib.hid (HNEXT.out w4 hw4)
            rw [← hw4]
            clear hw4 da db da' db' hfa hfb hfa' hfb'
            go_wp2
            go_roundw
            case rel => exact ⟨j + 1, by omega, by go_num, HF.out⟩
            case measure => simp [intOf]; omega
        · obtain rfl : m = j := by omega
          clear hj hlt
          have hlen : S.length = n := by rw [HORD.out.len, HWL.out]
          have hwt := net.waitingS w.heap.size 0 p n S wr HNET.out (by omega)
          rw [hlen] at hwt
          have HWT := Lib.hid hwt; clear hwt
          go_wp2_with fail
          refine HWT.out.mono ?_
          rintro e w2 ⟨v, rfl, hrow2, hb2⟩
          have hrow2' : w2.ownsRow wr.heap.size 3 1 v n (ids want) := by
            have e : (S.map fun y => Value.int .i64 y.1) = ids want := by rw [← HORD.out.ids]; unfold ids; rw [List.map_map]; rfl
            rw [← e]; exact hrow2
          obtain ⟨A2, c2, rfl, hat2⟩ := ids_at hrow2'
          obtain ⟨A3, c3, hA3, hat3⟩ := ids_at (own_below HROW.out hb2)
          obtain ⟨rfl, rfl⟩ : (some ⟨g6, 0, none⟩ : Option Addr) = A3 ∧ c6 = c3 := by simpa using hA3
          have hio := alike.ints_same A2 (some ⟨g6, 0, none⟩) n c2 c6 (fun j => want.getD j 0) w2 (by omega) hat2 hat3
          have HIO := Lib.hid hio; clear hio hat2 hat3 hrow2 hrow2' hA3 HWT
          have HN2 := Lib.hid (HNET.out.below hb2)
          have HR2 := Lib.hid (own_below HROW.out hb2)
          have HB2 := Lib.hid (HBW.out.trans (hb2.mono HBW.out.size)); clear hb2 HNET HROW HBW
          go_wp2_with fail
          refine HIO.out.mono ?_
          rintro e w3 ⟨rfl, q, hq⟩
          have hb3 : Below w2.heap.size w2 w3 := by rw [hq]; exact bdrew (Below.refl _ _) _
          clear hq HIO
          have hinit : NetS w.heap.size 0 w3 p n (S.drop 0) ∧ w3.ownsRow w.heap.size 3 1 (.slice (some ⟨g6, 0, none⟩) n c6) n (ids want) ∧ Below w.heap.size w w3 := ⟨HN2.out.below hb3, own_below HR2.out hb3, HB2.out.trans (hb3.mono HB2.out.size)⟩
          have HINIT := Lib.hid hinit; clear hinit hb3 HN2 HR2 HB2
          go_wp2_with fail
          go_loopw [11] (fun s11 wr => ∃ j : Nat, j ≤ n ∧ s11 = .int .i64 (j : Int) ∧ NetS w.heap.size 0 wr p n (S.drop j) ∧ wr.ownsRow w.heap.size 3 1 (.slice (some ⟨g6, 0, none⟩) n c6) n (ids want) ∧ Below w.heap.size w wr) (fun s11 _ => n - (intOf s11).toNat)
          case atStart => exact ⟨0, by omega, rfl, HINIT.out⟩
          case round =>
            obtain ⟨j, hj, rfl, hnet, hrow, hbw⟩ := hrel
            clear HINIT
            have HNET := Lib.hid hnet; clear hnet
            have HROW := Lib.hid hrow; clear hrow
            have HBW := Lib.hid hbw; clear hbw
            by_cases hlt : j < n
            · obtain ⟨k, hk⟩ : ∃ k, want[j]? = some k := ⟨_, List.getElem?_eq_getElem (by have := HWL.out; omega)⟩
              obtain ⟨d0, hg6l, -⟩ := ids_cells HROW.out hk
              have hSk := HORD.out.at' hk
              obtain ⟨-, hk1, hk2⟩ := id hSk
              have hmem : (k, [k.toNat]) ∈ S.drop j := List.mem_of_getElem? (i := 0) (by rw [List.getElem?_drop, Nat.add_zero]; exact hSk.1)
              have hdl := net.deliverS w.heap.size 0 p n (S.drop j) k [k.toNat] wr HNET.out (by omega) hmem
              rw [HORD.out.drop hk] at hdl
              have HDL := Lib.hid hdl; clear hdl hmem hSk
              have HK := Lib.hid hk; clear hk
              go_wp2_with fail
              refine HDL.out.mono ?_
              rintro e w2 ⟨v, rfl, hrow2, hn2', hc2⟩
              have hrw := hc2.own HROW.out (by decide) (by decide)
              have hB2 := HBW.out.trans (hc2.toBelow HBW.out.size)
              obtain ⟨g7, c7, rfl, -, -, -, hg7, hat7⟩ := own_row_pos hrow2 (by simp)
              have e0 : w2.cell? ⟨g7, 0, none⟩ = some (.int .u8 k) := by
                obtain ⟨b, off, h1, -, h3⟩ := hat7 (by simp)
                obtain ⟨rfl, rfl⟩ : g7 = b ∧ 0 = off := by simpa using h1
                have h4 : w2.cell? ⟨g7, 0, none⟩ = some ((u8s [k.toNat]).getD 0 undef) := h3 0 (by simp)
                have e : (u8s [k.toNat]).getD 0 undef = .int .u8 k := by
                  show Value.int .u8 ((k.toNat : Nat) : Int) = _
                  rw [Int.toNat_of_nonneg (by omega)]
                rw [e] at h4
                exact h4
              have d0' := (ids_cells hrw HK.out).1
              have hg6b := (ids_cells hrw HK.out).2.1
              have e1 : ∀ q, (w2.drewN q).cell? ⟨g7, 0, none⟩ = some (.int .u8 k) := fun q => e0
              have d1 : ∀ q, (w2.drewN q).cell? ⟨g6, j, none⟩ = some (.int .i64 k) := fun q => d0'
              clear HDL d0 hat7 hrow2 hc2
              have HN2 := Lib.hid hn2'; clear hn2'
              have HR2 := Lib.hid hrw; clear hrw
              have HB2 := Lib.hid hB2; clear hB2 HNET HROW HBW
              simp only [List.length_cons, List.length_nil, Nat.zero_add]
              go_wp2_with fail
              go_quiet (fail)
              go_wp2
              go_roundw
              case rel => exact ⟨j + 1, by omega, by go_num, HN2.out.below (bdrew (Below.refl _ _) _), own_below HR2.out (bdrew (Below.refl _ _) _), HB2.out.trans (bdrew (Below.refl _ _) _)⟩
              case measure => simp [intOf]; omega
            · obtain rfl : n = j := by omega
              have hnil : S.drop n = [] := List.drop_eq_nil_of_le (by omega)
              rw [hnil] at HNET
              have hwt := net.waitingS w.heap.size 0 p n [] wr HNET.out (by omega)
              have HWT := Lib.hid hwt; clear hwt hnil
              go_wp2_with fail
              refine HWT.out.mono ?_
              rintro e w2 ⟨v, rfl, hrow2, hb2⟩
              obtain ⟨A2, c2, rfl, -⟩ := own_at hrow2
              have HN2 := Lib.hid (HNET.out.below hb2)
              have HB2 := Lib.hid (HBW.out.trans (hb2.mono HBW.out.size)); clear hb2 hrow2 HWT HNET HBW HROW
              simp only [List.length_nil]
              have hsd := net.sendS w.heap.size 0 p n [] none 0 0 [] w2 HN2.out (by omega) (Nat.zero_le _) rfl (by omega) (fun h => absurd h (by omega))
              have HSD := Lib.hid hsd; clear hsd
              go_wp2_with fail
              refine HSD.out.mono ?_
              rintro e w3 ⟨rfl, -, hc3⟩
              have HB3 := Lib.hid (HB2.out.trans (hc3.toBelow HB2.out.size)); clear hc3 HSD HN2 HB2
              go_wp2_with fail
              refine (law23.awake w3).mono ?_
              rintro e w4 ⟨rfl, hb4⟩
              have HB4 := Lib.hid (HB3.out.trans (hb4.mono HB3.out.size)); clear hb4
              go_wp2
              go_ret
              exact ⟨rfl, HB4.out⟩

theorem law23.order (a : Int) (A : Option Addr) (m c : Nat) (z : List Int) (w : World) (hz : z.length = m ∧ m ≤ c ∧ c ≤ maxLen) (hat : At w A m (fun j => .int .i64 (z.getD j 0))) (hwf : ∀ x ∈ z, (Lit.int .i64 x).wf = true)
    (ha : -9223372036854775808 ≤ a ∧ a ≤ 9223372036854775807) :
    Calls Try.prog 13 #[.int .i64 a, .slice A m c] w fun e w' => e = .returned (.bool true) ∧ Below w.heap.size w w' := by
  by_cases hd0 : a < 2
  · have hd : decide (a < 2) = true := decide_eq_true hd0
    clear hd0 hz hat hwf
    go_enter Try.func13, Try.ntmps13
    go_wp2_with fail
    refine (law23.awake w).mono ?_
    rintro e w1 ⟨rfl, hb⟩
    have HB := Lib.hid hb; clear hb
    go_wp2
    go_ret
    exact ⟨rfl, HB.out⟩
  by_cases hd1 : 30 < a
  · have hd : decide (a < 2) = false := decide_eq_false hd0
    have hd' : decide (30 < a) = true := decide_eq_true hd1
    clear hd0 hd1 hz hat hwf
    go_enter Try.func13, Try.ntmps13
    go_wp2_with fail
    refine (law23.awake w).mono ?_
    rintro e w1 ⟨rfl, hb⟩
    have HB := Lib.hid hb; clear hb
    go_wp2
    go_ret
    exact ⟨rfl, HB.out⟩
  by_cases hd2 : 30 < m
  · have hd : decide (a < 2) = false := decide_eq_false hd0
    have hd' : decide (30 < a) = false := decide_eq_false hd1
    have hd'' : decide (30 < (m : Int)) = true := decide_eq_true (by omega)
    clear hd0 hd1 hd2 hz hat hwf
    go_enter Try.func13, Try.ntmps13
    go_wp2_with fail
    refine (law23.awake w).mono ?_
    rintro e w1 ⟨rfl, hb⟩
    have HB := Lib.hid hb; clear hb
    go_wp2
    go_ret
    exact ⟨rfl, HB.out⟩
  obtain ⟨n, rfl⟩ : ∃ n : Nat, a = n := ⟨a.toNat, by omega⟩
  exact law23.order_in n A m c z w (by omega) (by omega) (by omega) hz.1 hat hwf
end Go.Proofs.Ytbbekgliaedigaa

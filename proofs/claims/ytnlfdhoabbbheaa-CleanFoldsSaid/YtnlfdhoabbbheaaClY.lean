/- The law CleanFolds (cordwainlaw14): it answers true, whatever the input. -/
import Derived.Test.YtnlfdhoabbbheaaClQ
import Derived.Test.YtnlfdhoabbbheaaClX
import Derived.Test.YtnlfdhoabbbheaaClH
import Derived.Test.YtnlfdhoabbbheaaFoF
import Derived.Test.YtnlfdhoabbbheaaSbT
import Derived.Test.YtnlfdhoabbbheaaOpR
import Derived.BigQuiet
namespace Go.Proofs.Ytnlfdhoabbbheaa
open Go.RowKit Go.Maps
set_option maxRecDepth 100000

theorem cy.next {a b : List Rec} {j k : Nat} {x y : Rec} (hx : a[j]? = some x) (hy : b[k]? = some y) (h : (b.drop k).Sublist (a.drop j)) : (b.drop (k + 1)).Sublist (a.drop (j + 1)) ∧ (x ≠ y → (b.drop k).Sublist (a.drop (j + 1))) := by
  obtain ⟨hj, ej⟩ := List.getElem?_eq_some_iff.1 hx
  obtain ⟨hk, ek⟩ := List.getElem?_eq_some_iff.1 hy
  rw [List.drop_eq_getElem_cons hj, List.drop_eq_getElem_cons hk, ej, ek] at h
  rw [List.drop_eq_getElem_cons hk, ek]
  rcases List.sublist_cons_iff.1 h with h | ⟨r, e, h⟩
  · exact ⟨(List.sublist_cons_self _ _).trans h, fun _ => h⟩
  · rw [List.cons.injEq] at e
    obtain ⟨e1, rfl⟩ := e
    exact ⟨h, fun hne => absurd e1.symm hne⟩

set_option maxHeartbeats 16000000 in
theorem law14.folds (A : Option Addr) (n c : Nat) (ss : List (List Bat)) (c0 c1 c2 c3 c4 : Int) (c5 : Bool) (c6 c7 : Int) (c8 : Bool) (A2 : Option Addr) (n2 d2 : Nat) (ts : List Int) (w : World) (hcm : ss.length = n ∧ n ≤ c ∧ c ≤ maxLen) (hss : cl.SegsAt w A ss) (htm : ts.length = n2 ∧ n2 ≤ d2 ∧ d2 ≤ maxLen) (htat : At w A2 n2 (fun j => .int .i64 (ts.getD j 0))) :
    Calls Try.prog 5 #[.slice A n c, .agg #[.int .i64 c0, .int .i64 c1, .int .i64 c2, .int .i64 c3, .int .i64 c4, .bool c5, .int .i64 c6, .int .i64 c7, .bool c8], .slice A2 n2 d2] w fun e w' => e = .returned (.bool true) ∧ Below w.heap.size w w' := by
  obtain ⟨hn, hnc, hcm⟩ := hcm
  have HSS := Lib.hid hss; clear hss
  have HTS := Lib.hid htat; clear htat
  have htm := Nat.le_trans htm.2.1 htm.2.2
  have HAW := Lib.hid (fun wx => law14.awake_any wx)
  obtain ⟨g, hg⟩ : ∃ g, g = w.heap.size := ⟨_, rfl⟩
  obtain ⟨w1, hw1⟩ : ∃ w1, w1 = w.alloc (.cells #[.int .i64 c0, .int .i64 c1, .int .i64 c2, .int .i64 c3, .int .i64 c4, .bool c5, .int .i64 c6, .int .i64 c7, .bool c8] 24) := ⟨_, rfl⟩
  have hk1 : Blk w1 g 24 #[.int .i64 c0, .int .i64 c1, .int .i64 c2, .int .i64 c3, .int .i64 c4, .bool c5, .int .i64 c6, .int .i64 c7, .bool c8] := by rw [hw1, hg]; exact Blk.new _ _ _
  have hb1 : Below w.heap.size w w1 := by rw [hw1]; exact (Below.refl _ _).alloc (Nat.le_refl _) _
  have hmay := law14.may_any A n c ss w1 (HSS.out.below hb1 (Nat.le_refl _)) hn (Nat.le_trans hnc hcm)
  have H1 := Lib.hid (And.intro hk1 hb1); clear hk1 hb1
  have HW1 := Lib.hid (And.intro hg hw1); clear hg hw1
  have HMAY := Lib.hid hmay; clear hmay
  have HN := Lib.hid hn; clear hn
  unfold maxLen at hcm htm
  go_enter Try.func5, Try.ntmps5
  go_upto_region 1 with fail
  rw [← HW1.out.2, ← HW1.out.1]
  go_wp2_with fail
  refine HMAY.out.mono ?_
  rintro e w2 ⟨⟨b, rfl, hm⟩, hb2⟩
  have HM := Lib.hid hm; clear hm HMAY HW1
  have HB2 := Lib.hid (And.intro (H1.out.2.trans (hb2.mono H1.out.2.size)) ((chg_of (P := fun _ => False) hb2).blk H1.out.1 id)); clear hb2 H1
  have f6 := HB2.out.2.cell 6 (v := .int .i64 c6) rfl
  have hgw := HB2.out.2.lt
  by_cases hbad : b = false ∨ (b = true ∧ c6 < 0) ∨ (b = true ∧ ¬ c6 < 0 ∧ 1125899906842624 < c6) ∨ (b = true ∧ ¬ c6 < 0 ∧ ¬ 1125899906842624 < c6 ∧ 10 < (n2 : Int))
  · as_aux_lemma =>
      rcases hbad with rfl | ⟨rfl, h1⟩ | ⟨rfl, h1, h2⟩ | ⟨rfl, h1, h2, h3⟩
      all_goals
        go_wp2_with fail
        refine (HAW.out w2).mono ?_
        rintro e w3 ⟨rfl, hb3⟩
        have HB3 := Lib.hid (show Below w.heap.size w w3 from HB2.out.1.trans (hb3.mono HB2.out.1.size)); clear hb3
        go_wp2_with fail
        go_ret
        exact ⟨rfl, HB3.out⟩
  have hb : b = true := by
    cases b with
    | false => exact absurd (.inl rfl) hbad
    | true => rfl
  subst hb
  have HMY := Lib.hid (HM.out rfl)
  have h2 : ¬ c6 < 0 := fun h => hbad (.inr (.inl ⟨rfl, h⟩))
  have h3 : ¬ 1125899906842624 < c6 := fun h => hbad (.inr (.inr (.inl ⟨rfl, h2, h⟩)))
  have h4 : ¬ 10 < (n2 : Int) := fun h => hbad (.inr (.inr (.inr ⟨rfl, h2, h3, h⟩)))
  clear hbad HM
  have hF := HMY.out.fit
  have hn20 : n ≤ 20 := by rw [← HN.out]; exact HMY.out.len
  obtain ⟨M, hMM⟩ : ∃ M, M = min (max c7 1) 1000000 := ⟨_, rfl⟩
  have hM0 : 0 ≤ M := by omega
  have hoall := law14.all_any A n c ss w2 (HSS.out.below HB2.out.1 (Nat.le_refl _)) HN.out (by omega) (by have := hF.size; omega)
  -- what one cleaning answers, of any segments that fit
  have hall : ∀ (Ax : Option Addr) (kx : Nat) (xs : List (List Bat)) (dirty now : Int) (wx : World), cl.SegsAt wx Ax xs → xs.length = n → cp.Fit xs → 0 ≤ now ∧ now ≤ 1125899906842624 →
      Calls Try.prog 10 #[.slice Ax n kx, .int .i64 dirty, .agg #[.int .i64 c0, .int .i64 c1, .int .i64 c2, .int .i64 c3, .int .i64 c4, .bool c5, .int .i64 c6, .int .i64 c7, .bool c8], .int .i64 now] wx fun e w' =>
        ∃ B d o up gn, e = .returned (.tuple #[.slice B n d, .int .i64 up, .int .i64 gn]) ∧ (n ≤ d ∧ d ≤ maxLen) ∧ cl.SegsAt w' B o ∧ cx.Does xs o n dirty up gn ∧ Below wx.heap.size wx w' := fun Ax kx xs dirty now wx hat hl hf hnow =>
    (cl.all_any Ax n kx xs dirty now c7 M c6 c0 c1 c2 c3 c4 c5 c8 wx hat hl (by omega) hf.small (by have := hf.recs; omega) hf.times hMM ⟨by omega, by omega⟩ ⟨by omega, by omega⟩).mono fun e w' h => by
      obtain ⟨B, d, e1, e2, e3, e4, e5⟩ := h
      exact ⟨B, d, _, _, _, e1, ⟨e2, e3⟩, e4, cx.does hl hf hM0 rfl, e5⟩
  have hfs := hF.small
  have hfr := hF.recs
  obtain ⟨ys, hys⟩ : ∃ ys, ys = ss.flatten := ⟨_, rfl⟩
  rw [← hys] at hoall hfs hfr
  have HYS := Lib.hid hys; clear hys
  have HALL := Lib.hid hall; clear hall hMM hM0
  have HOA := Lib.hid hoall; clear hoall
  have HF := Lib.hid hF; clear hF
  go_wp2_with fail
  refine HOA.out.mono ?_
  rintro e w3 ⟨A3, k3, rfl, -, -, hba3, hb3⟩
  have hfb := fo.batches_any A3 ys.length k3 ys w3 rfl hfs (by omega) hba3
  unfold fo.OfPost at hfb
  have HFB := Lib.hid hfb; clear hfb hba3 HOA
  have HB3 := Lib.hid (And.intro (HB2.out.1.trans (hb3.mono HB2.out.1.size)) ((chg_of (P := fun _ => False) hb3).blk HB2.out.2 id)); clear hb3 HB2 f6 hgw
  go_wp2_with fail
  refine HFB.out.mono ?_
  rintro e w4 ⟨v4, l4, rfl, hown, hby, his, hb4⟩
  obtain ⟨A4, k4, rfl, -, hpat⟩ := own_at hown
  have hl4 : l4.length ≤ 1000000 := by have h1 := his.len; omega
  obtain ⟨N4, hN4⟩ : ∃ N4, N4 = l4.length := ⟨_, rfl⟩
  rw [← hN4] at hl4
  have HW4 := Lib.hid (show PAt w4 A4 l4 ∧ (∀ x ∈ l4, PBytes w4 x) ∧ FoIs l4 (rc.flat ys) ∧ l4.length = N4 from ⟨hpat, hby, his, hN4.symm⟩)
  rw [← hN4]
  have HB4 := Lib.hid (And.intro (HB3.out.1.trans (hb4.mono HB3.out.1.size)) ((chg_of (P := fun _ => False) hb4).blk HB3.out.2 id)); clear hown hby his hb4 hpat hN4 HB3 HFB
  go_wp2_with fail
  go_loopw [7, 8, 10] (fun s7 s8 s10 wx => ∃ (i : Nat) (Ax : Option Addr) (kx : Nat) (xs : List (List Bat)) (dirty : Int), s7 = .slice Ax n kx ∧ s8 = .int .i64 dirty ∧ s10 = .int .i64 (i : Int) ∧ i ≤ n2 ∧ (n ≤ kx ∧ kx ≤ maxLen) ∧ (xs.length = n ∧ cp.Fit xs ∧ fo.map (rc.flat xs.flatten) = fo.map (rc.flat ys) ∧ (rc.flat xs.flatten).length ≤ (rc.flat ys).length) ∧ cl.SegsAt wx Ax xs ∧ Below w4.heap.size w4 wx) (fun _ _ s10 _ => n2 - (intOf s10).toNat)
  case atStart => exact ⟨0, A, c, ss, 0, rfl, rfl, rfl, by omega, ⟨hnc, by unfold maxLen; omega⟩, ⟨HN.out, HF.out, by rw [HYS.out], by rw [HYS.out]; exact Nat.le_refl _⟩, HSS.out.below HB4.out.1 (Nat.le_refl _), Below.refl _ _⟩
  case round =>
    obtain ⟨i, Ax, kx, xs, dirty, rfl, rfl, rfl, hi, ⟨hkx1, hkx2⟩, hxs, hseg, hbw⟩ := hrel
    have HXS := Lib.hid hxs; clear hxs
    have HSEG := Lib.hid hseg; clear hseg
    have HBW := Lib.hid hbw; clear hbw
    unfold maxLen at hkx2
    have hb0 := HB4.out.1.trans (HBW.out.mono HB4.out.1.size)
    by_cases hlt : i < n2
    · have hlt' : (i : Int) < (n2 : Int) := by omega
      obtain ⟨bt, ot, rfl, hbt, hct⟩ := HTS.out (by omega)
      have t0 : wr.cell? ⟨bt, ot + i, none⟩ = some (.int .i64 (ts.getD i 0)) := (hb0.cell (p := ⟨bt, ot + i, none⟩) hbt).trans (hct i hlt)
      have hbtw := Nat.lt_of_lt_of_le hbt hb0.size
      generalize ts.getD i 0 = now at *
      clear hct
      have HB0 := Lib.hid hb0; clear hb0
      by_cases hbad : now < 0 ∨ (¬ now < 0 ∧ 1125899906842624 < now)
      · as_aux_lemma =>
          rcases hbad with h1 | ⟨h1, h5⟩
          all_goals
            go_wp2_with fail
            refine (HAW.out wr).mono ?_
            rintro e w5 ⟨rfl, hb5⟩
            have HB5 := Lib.hid (show Below w.heap.size w w5 from HB0.out.trans (hb5.mono HB0.out.size)); clear hb5
            go_wp2_with fail
            (try rw [Exit.noGoto_ret])
            go_ret
            exact ⟨rfl, HB5.out⟩
      have h5 : ¬ now < 0 := fun h => hbad (.inl h)
      have h6 : ¬ 1125899906842624 < now := fun h => hbad (.inr ⟨h5, h⟩)
      clear hbad
      have hblk := (chg_of (P := fun _ => False) HBW.out).blk HB4.out.2 id
      have hcl := fun (wx : World) (hb : Below wr.heap.size wr wx) => HALL.out Ax kx xs dirty now wx (HSEG.out.below hb (Nat.le_refl _)) HXS.out.1 HXS.out.2.1 ⟨by omega, by omega⟩
      have HCL := Lib.hid hcl; clear hcl
      have HBK := Lib.hid hblk; clear hblk
      have g0 : ∀ z : Later wr (fun _ => False), z.1.cell? ⟨g, 0, none⟩ = some (.int .i64 c0) := fun z => (z.2.blk HBK.out id).cell 0 rfl
      have g1 : ∀ z : Later wr (fun _ => False), z.1.cell? ⟨g, 1, none⟩ = some (.int .i64 c1) := fun z => (z.2.blk HBK.out id).cell 1 rfl
      have g2 : ∀ z : Later wr (fun _ => False), z.1.cell? ⟨g, 2, none⟩ = some (.int .i64 c2) := fun z => (z.2.blk HBK.out id).cell 2 rfl
      have g3 : ∀ z : Later wr (fun _ => False), z.1.cell? ⟨g, 3, none⟩ = some (.int .i64 c3) := fun z => (z.2.blk HBK.out id).cell 3 rfl
      have g4 : ∀ z : Later wr (fun _ => False), z.1.cell? ⟨g, 4, none⟩ = some (.int .i64 c4) := fun z => (z.2.blk HBK.out id).cell 4 rfl
      have g5 : ∀ z : Later wr (fun _ => False), z.1.cell? ⟨g, 5, none⟩ = some (.bool c5) := fun z => (z.2.blk HBK.out id).cell 5 rfl
      have g6 : ∀ z : Later wr (fun _ => False), z.1.cell? ⟨g, 6, none⟩ = some (.int .i64 c6) := fun z => (z.2.blk HBK.out id).cell 6 rfl
      have g7 : ∀ z : Later wr (fun _ => False), z.1.cell? ⟨g, 7, none⟩ = some (.int .i64 c7) := fun z => (z.2.blk HBK.out id).cell 7 rfl
      have g8 : ∀ z : Later wr (fun _ => False), z.1.cell? ⟨g, 8, none⟩ = some (.bool c8) := fun z => (z.2.blk HBK.out id).cell 8 rfl
      have t1 : wr.drew.cell? ⟨bt, ot + i, none⟩ = some (.int .i64 now) := t0
      go_upto_region 11 with fail
      have hS0 : later wr (fun _ => False) wr.drew := later_of ((Chg.refl _ _).drew)
      refine wp_plan (S := fun w0 => ∃ x : Later wr (fun _ => False), w0 = x.1) (by kernel_rfl) hS0 ?_
      intro hS K5 hK5
      have HS := Lib.hid hS; clear hS hS0
      refine plan_group [true, true, true, true, true, true] [0, 1, 2, 3, 4, 5] 9 (by dsimp only [sel]) (by rfl) rfl (by kernel_rfl) (by kernel_rfl) HS.out ?_
      (repeat go_big_quiet_step (fail)); refine wpQuiet_nil ?_
      refine plan_one [false, false, false, false, false, false, true] 6 8 (by dsimp only [sel]) (by rfl) rfl (by kernel_rfl) ?_; intro K1 hK1; go_wp2_with fail
      refine ⟨later_of ((Chg.refl _ _).drew), ?_⟩
      refine plan_one [false, false, false, false, false, false, false, true] 7 7 (by dsimp only [sel]) (by rfl) rfl (by kernel_rfl) ?_; intro K1 hK1; go_wp2_with fail
      refine (HCL.out _ (bdrew (Below.refl _ wr) 1)).mono ?_
      rintro e w5 ⟨A5, k5, o, up, gn, rfl, ⟨hk51, hk52⟩, hseg5, hdoes, hb5⟩
      have HB5 := Lib.hid (show Below wr.heap.size wr w5 from (bdrew (Below.refl _ wr) 1).trans (hb5.mono (Nat.le_refl _))); clear hb5 HS
      have HSEG5 := Lib.hid hseg5; clear hseg5
      have HDO := Lib.hid hdoes; clear hdoes
      unfold maxLen at hk52
      go_wp2_with fail
      refine ⟨later_of (chg_of HB5.out), ?_⟩
      refine plan_group [false, false, false, false, false, false, false, false, true, true, true, true, true, true, true] [8, 9, 10, 11, 12, 13, 14] 0 (by dsimp only [sel]) (by rfl) rfl (by kernel_rfl) (by kernel_rfl) (later_of (chg_of HB5.out)) ?_
      (repeat go_big_quiet_step (fail)); refine wpQuiet_nil ?_
      refine wp_plan_end (by kernel_rfl) ?_
      clear g0 g1 g2 g3 g4 g5 g6 g7 g8 t0 t1
      have hgn : ¬ gn < 0 := by
        have e1 := HDO.out.gone
        have e2 := HDO.out.sub.length_le
        omega
      have hup : ¬ up < dirty := by have := HDO.out.up; omega
      have hnn : ((n : Int) != (n : Int)) = false := by simp
      go_upto_region 14 with fail
      go_cut [104] from 86 to 104 (fun s104 wx => s104 = .bool false ∧ Below w5.heap.size w5 wx)
      case first =>
        rcases Nat.eq_zero_or_pos n with hn0 | hn0
        · have hnz : ¬ (0 : Int) < (n : Int) := by omega
          have hnd : decide ((0 : Int) < (n : Int)) = false := decide_eq_false hnz
          have hnd2 : decide (0 < n) = false := decide_eq_false (by omega)
          clear hn0
          go_wp2_with fail
          go_quiet (fail)
          go_wp2_with fail
          go_meet
          case rel => exact ⟨rfl, bdrew (Below.refl _ _) _⟩
        · obtain ⟨K, hK⟩ : ∃ K, K + 1 = n := ⟨n - 1, by omega⟩
          obtain ⟨x, ho, hx⟩ := HDO.out.act K hK
          obtain ⟨p5, q5, D5, e5, hA5, hp5, d5, -, -, hd5⟩ := HSEG5.out.at' ho
          obtain ⟨px, qx, Dx, ex, hAx, hpx, dx, -, -, hdx⟩ := (HSEG.out.below HB5.out (Nat.le_refl _)).at' hx
          subst hA5 hAx
          have hxl : x.length ≤ 1000000 := by
            have h1 := (List.sublist_flatten_of_mem (List.mem_of_getElem? hx)).length_le
            have h2 := HXS.out.2.1.size
            omega
          have hsame := fun (wx : World) (hb : Below w5.heap.size w5 wx) => sb.true_any D5 x.length e5 Dx ex x wx rfl hxl (hd5.below hb (Nat.le_refl _)) (hdx.below hb (Nat.le_refl _))
          have HSAME := Lib.hid hsame; clear hsame hd5 hdx ho hx hxl
          generalize x.length = m at *
          have hKi : (n : Int) - 1 = (K : Int) := by omega
          have hKn : (K : Int) < (n : Int) := by omega
          have hnz : (0 : Int) < (n : Int) := by omega
          have hnd : decide ((0 : Int) < (n : Int)) = true := decide_eq_true hnz
          have hnd2 : decide (0 < n) = true := decide_eq_true hn0
          have HK := Lib.hid hK; clear hK
          have q0 : ∀ z : Later w5 (fun _ => False), z.1.cell? ⟨p5, q5 + K, none⟩ = some (.slice D5 m e5) := fun z => ((z.2.below (Nat.le_refl _) fun _ q => q.elim).cell (p := ⟨p5, q5 + K, none⟩) hp5).trans d5
          have q1 : ∀ z : Later w5 (fun _ => False), z.1.cell? ⟨px, qx + K, none⟩ = some (.slice Dx m ex) := fun z => ((z.2.below (Nat.le_refl _) fun _ q => q.elim).cell (p := ⟨px, qx + K, none⟩) hpx).trans dx
          have hS0 : later w5 (fun _ => False) w5.drew := later_of ((Chg.refl _ _).drew)
          refine wp_plan (S := fun w0 => ∃ x : Later w5 (fun _ => False), w0 = x.1) (by kernel_rfl) hS0 ?_
          intro hS K5 hK5
          have HS := Lib.hid hS; clear hS hS0
          refine plan_group [true, true, true, true, true, true, true, true, true, true, true, true, true, true, true] [0, 1, 2, 3, 4, 5, 6, 7, 8, 9, 10, 11, 12, 13, 14] 4 (by dsimp only [sel]) (by rfl) rfl (by kernel_rfl) (by kernel_rfl) HS.out ?_
          (repeat go_big_quiet_step (fail)); refine wpQuiet_nil ?_
          refine plan_one [false, false, false, false, false, false, false, false, false, false, false, false, false, false, false, true] 15 3 (by dsimp only [sel]) (by rfl) rfl (by kernel_rfl) ?_; intro K1 hK1; go_wp2_with fail
          refine ⟨later_of ((Chg.refl _ _).drew), ?_⟩
          refine plan_one [false, false, false, false, false, false, false, false, false, false, false, false, false, false, false, false, true] 16 2 (by dsimp only [sel]) (by rfl) rfl (by kernel_rfl) ?_; intro K1 hK1; go_wp2_with fail
          refine (HSAME.out _ (bdrew (Below.refl _ w5) 1)).mono ?_
          rintro e w6 ⟨rfl, hb6⟩
          have HB6 := Lib.hid (show Below w5.heap.size w5 w6 from (bdrew (Below.refl _ w5) 1).trans (hb6.mono (Nat.le_refl _))); clear hb6
          go_wp2_with fail
          refine ⟨later_of (chg_of HB6.out), ?_⟩
          refine plan_group [false, false, false, false, false, false, false, false, false, false, false, false, false, false, false, false, false, true, true] [17, 18] 0 (by dsimp only [sel]) (by rfl) rfl (by kernel_rfl) (by kernel_rfl) (later_of (chg_of HB6.out)) ?_
          (repeat go_big_quiet_step (fail)); refine wpQuiet_nil ?_
          refine wp_plan_end (by kernel_rfl) ?_
          go_wp2_with fail
          go_meet
          case rel => exact ⟨rfl, HB6.out⟩
      case rest =>
        obtain ⟨rfl, hbc⟩ := hcut
        have hbc0 := HBW.out.trans ((HB5.out.trans (hbc.mono HB5.out.size)).mono HBW.out.size)
        have HBC := Lib.hid (And.intro hbc (And.intro (HB5.out.trans (hbc.mono HB5.out.size)) hbc0)); clear hbc hbc0
        have hsx := HXS.out.2.1.size
        have hrx := HXS.out.2.1.recs
        have hso := HDO.out.fit.size
        have hro := HDO.out.fit.recs
        have hsmo := HDO.out.fit.small
        have hax := fun (wx : World) (hb : Below wc.heap.size wc wx) => law14.all_any Ax n kx xs wx ((HSEG.out.below HBC.out.2.1 (Nat.le_refl _)).below hb (Nat.le_refl _)) HXS.out.1 (by omega) (by omega)
        have hao := fun (wx : World) (hb : Below wc.heap.size wc wx) => law14.all_any A5 n k5 o wx ((HSEG5.out.below HBC.out.1 (Nat.le_refl _)).below hb (Nat.le_refl _)) HDO.out.len (by omega) (by omega)
        have hsays := HDO.out.says.trans HXS.out.2.2.1
        have hlen := HDO.out.sub.length_le
        have hlen2 := HXS.out.2.2.2
        have hsub := HDO.out.sub
        have hgone := HDO.out.gone
        obtain ⟨xf, hxf⟩ : ∃ xf, xf = xs.flatten := ⟨_, rfl⟩
        obtain ⟨of, hof⟩ : ∃ of, of = o.flatten := ⟨_, rfl⟩
        rw [← hxf] at hax hsx hrx hlen hlen2 hsub hgone
        rw [← hof] at hao hso hro hlen hsub hgone hsays hsmo
        have HOF := Lib.hid hof; clear hof hxf
        obtain ⟨a, ha⟩ : ∃ a, a = rc.flat xf := ⟨_, rfl⟩
        obtain ⟨b, hb⟩ : ∃ b, b = rc.flat of := ⟨_, rfl⟩
        have hrca := fun (A6 : Option Addr) (k6 : Nat) (wx : World) (h : BatsAt wx A6 xf) => rc.records_any A6 xf xf.length k6 wx h rfl (by omega) (by omega)
        have hrcb := fun (A6 : Option Addr) (k6 : Nat) (wx : World) (h : BatsAt wx A6 of) => rc.records_any A6 of of.length k6 wx h rfl (by omega) (by omega)
        have hfb := fun (A6 : Option Addr) (k6 : Nat) (wx : World) (h : BatsAt wx A6 of) => fo.batches_any A6 of.length k6 of wx rfl hsmo (by omega) h
        unfold rc.Post at hrca hrcb
        unfold fo.OfPost at hfb
        rw [← ha] at hrca hrx hlen hlen2 hsub hgone
        rw [← hb] at hrcb hfb hro hlen hsub hgone hsays
        have hmap : (∀ l : List PItm, FoIs l b → pf.eqs l l4 = true) ∧ ∀ l : List PItm, FoIs l b → l.length ≤ b.length := ⟨fun l hl => cx.eqs hl HW4.out.2.2.1 hsays (by omega), fun l hl => hl.len⟩
        have HMAP := Lib.hid hmap; clear hmap
        have HSY := Lib.hid (And.intro hsays (show b.length ≤ (rc.flat ys).length by omega)); clear hsays
        clear hlen2 hsmo
        obtain ⟨K, hK⟩ : ∃ K, K = a.length := ⟨_, rfl⟩
        obtain ⟨K2, hK2⟩ : ∃ K2, K2 = b.length := ⟨_, rfl⟩
        rw [← hK] at hrca hrx hlen hgone
        rw [← hK2] at hrcb hro hlen hgone HMAP
        subst hgone
        have HBB := Lib.hid (And.intro hb hsub); clear ha hb hsub
        have HK := Lib.hid (And.intro hK hK2); clear hK hK2
        have HAX := Lib.hid hax; clear hax
        have HAO := Lib.hid hao; clear hao
        have HRA := Lib.hid hrca; clear hrca
        have HRB := Lib.hid hrcb; clear hrcb
        have HFB := Lib.hid hfb; clear hfb
        go_wp2_with fail
        refine (HAX.out wc (Below.refl _ _)).mono ?_
        rintro e w6 ⟨A6, k6, rfl, -, -, hba6, hb6⟩
        have HB6 := Lib.hid (And.intro hb6 hba6); clear hb6 hba6
        go_wp2_with fail
        refine (HRA.out A6 k6 w6 HB6.out.2).mono ?_
        rintro e w7 ⟨⟨A7, k7, rfl, hrv7⟩, hb7⟩
        have HB7 := Lib.hid (And.intro (HB6.out.1.trans (hb7.mono HB6.out.1.size)) hrv7); clear hb7 hrv7 HB6
        go_wp2_with fail
        refine (HAO.out w7 HB7.out.1).mono ?_
        rintro e w8 ⟨A8, k8, rfl, -, -, hba8, hb8⟩
        have HB8 := Lib.hid (And.intro hb8 hba8); clear hb8 hba8
        go_wp2_with fail
        refine (HRB.out A8 k8 w8 HB8.out.2).mono ?_
        rintro e w9 ⟨⟨A9, k9, rfl, hrv9⟩, hb9⟩
        have hb79 := HB8.out.1.trans (hb9.mono HB8.out.1.size)
        have HB9 := Lib.hid (HB7.out.1.trans (hb79.mono HB7.out.1.size))
        have HRVA := Lib.hid (HB7.out.2.below hb79 (Nat.le_refl _))
        have HRVB := Lib.hid hrv9; clear hrv9 hb79 hb9 HB8 HB7 HRA HRB HAX
        go_wp2_with fail
        go_loopw [16, 17] (fun s16 s17 wx => ∃ k j : Nat, s16 = .int .i64 (k : Int) ∧ s17 = .int .i64 (j : Int) ∧ k ≤ K2 ∧ j ≤ K ∧ (b.drop k).Sublist (a.drop j) ∧ Below w9.heap.size w9 wx) (fun _ s17 _ => K - (intOf s17).toNat)
        case atStart => exact ⟨0, 0, rfl, rfl, by omega, by omega, HBB.out.2, Below.refl _ _⟩
        case round =>
          obtain ⟨k, j, rfl, rfl, hk, hj, hsub, hbw9⟩ := hrel
          have HSB := Lib.hid hsub; clear hsub
          have HBW9 := Lib.hid hbw9; clear hbw9
          by_cases hgo : j < K ∧ k < K2
          · obtain ⟨hj1, hk1⟩ := hgo
            have hj2 : (j : Int) < (K : Int) := by omega
            have hk2 : (k : Int) < (K2 : Int) := by omega
            obtain ⟨x, hx⟩ : ∃ x, a[j]? = some x := ⟨_, List.getElem?_eq_getElem (by rw [← HK.out.1]; exact hj1)⟩
            obtain ⟨y, hy⟩ : ∃ y, b[k]? = some y := ⟨_, List.getElem?_eq_getElem (by rw [← HK.out.2]; exact hk1)⟩
            have hnx := cy.next hx hy HSB.out
            obtain ⟨pr, off, c', kv, vv, hA, -, -, hpr, d0, d1, d2, d3, d4, d5, hkx, hvx, -, -⟩ := (HRVA.out.below HBW9.out (Nat.le_refl _)).at' hx
            obtain ⟨p2, o2, c2', kv2, vv2, hB, -, -, hp2, e0, e1, e2, e3, e4, e5, hky, hvy, -, -⟩ := (HRVB.out.below HBW9.out (Nat.le_refl _)).at' hy
            rw [← HK.out.1] at hA
            rw [← HK.out.2] at hB
            obtain ⟨rfl, rfl⟩ : A7 = some ⟨pr, off, none⟩ ∧ k7 = c' := by simpa using hA
            obtain ⟨rfl, rfl⟩ : A9 = some ⟨p2, o2, none⟩ ∧ k9 = c2' := by simpa using hB
            clear hA hB
            obtain ⟨Ak, ck1, rfl, hka, -, -, -⟩ := hkx
            obtain ⟨Av, cv1, rfl, hva, -, -, -⟩ := hvx
            obtain ⟨Bk, dk1, rfl, hkb, -, -, -⟩ := hky
            obtain ⟨Bv, dv1, rfl, hvb, -, -, -⟩ := hvy
            have hcall := fun wx (h : Below wr.heap.size wr wx) => ref.samerec_any x y Ak ck1 Av cv1 Bk dk1 Bv dv1 wx (hka.below h (Nat.le_refl _)) (hva.below h (Nat.le_refl _)) (hkb.below h (Nat.le_refl _)) (hvb.below h (Nat.le_refl _))
            unfold Rec.sval at hcall
            have hne : ¬ x.Same y → x ≠ y := fun h e => h (by subst e; exact ⟨rfl, rfl, rfl, rfl, rfl, rfl⟩)
            have HNX := Lib.hid (And.intro hnx hne); clear hnx hne hx hy
            have HCALL := Lib.hid hcall; clear hcall hka hva hkb hvb
            go_wp2_with fail
            have dl0 : ∀ z : Later wr (fun _ => False), z.1.cell? ⟨pr, off + j * 6, none⟩ = some (.int .i64 x.off) := fun z => ((z.2.below (Nat.le_refl _) fun _ q => q.elim).cell (p := ⟨pr, off + j * 6, none⟩) hpr).trans d0
            have el0 : ∀ z : Later wr (fun _ => False), z.1.cell? ⟨p2, o2 + k * 6, none⟩ = some (.int .i64 y.off) := fun z => ((z.2.below (Nat.le_refl _) fun _ q => q.elim).cell (p := ⟨p2, o2 + k * 6, none⟩) hp2).trans e0
            have em0 : wr.drew.cell? ⟨p2, o2 + k * 6, none⟩ = some (.int .i64 y.off) := e0
            have dl1 : ∀ z : Later wr (fun _ => False), z.1.cell? ⟨pr, off + j * 6 + 1, none⟩ = some (.int .i64 x.time) := fun z => ((z.2.below (Nat.le_refl _) fun _ q => q.elim).cell (p := ⟨pr, off + j * 6 + 1, none⟩) hpr).trans d1
            have el1 : ∀ z : Later wr (fun _ => False), z.1.cell? ⟨p2, o2 + k * 6 + 1, none⟩ = some (.int .i64 y.time) := fun z => ((z.2.below (Nat.le_refl _) fun _ q => q.elim).cell (p := ⟨p2, o2 + k * 6 + 1, none⟩) hp2).trans e1
            have em1 : wr.drew.cell? ⟨p2, o2 + k * 6 + 1, none⟩ = some (.int .i64 y.time) := e1
            have dl2 : ∀ z : Later wr (fun _ => False), z.1.cell? ⟨pr, off + j * 6 + 2, none⟩ = some (.bool x.hasKey) := fun z => ((z.2.below (Nat.le_refl _) fun _ q => q.elim).cell (p := ⟨pr, off + j * 6 + 2, none⟩) hpr).trans d2
            have el2 : ∀ z : Later wr (fun _ => False), z.1.cell? ⟨p2, o2 + k * 6 + 2, none⟩ = some (.bool y.hasKey) := fun z => ((z.2.below (Nat.le_refl _) fun _ q => q.elim).cell (p := ⟨p2, o2 + k * 6 + 2, none⟩) hp2).trans e2
            have em2 : wr.drew.cell? ⟨p2, o2 + k * 6 + 2, none⟩ = some (.bool y.hasKey) := e2
            have dl3 : ∀ z : Later wr (fun _ => False), z.1.cell? ⟨pr, off + j * 6 + 3, none⟩ = some (.slice Ak x.key.length ck1) := fun z => ((z.2.below (Nat.le_refl _) fun _ q => q.elim).cell (p := ⟨pr, off + j * 6 + 3, none⟩) hpr).trans d3
            have el3 : ∀ z : Later wr (fun _ => False), z.1.cell? ⟨p2, o2 + k * 6 + 3, none⟩ = some (.slice Bk y.key.length dk1) := fun z => ((z.2.below (Nat.le_refl _) fun _ q => q.elim).cell (p := ⟨p2, o2 + k * 6 + 3, none⟩) hp2).trans e3
            have em3 : wr.drew.cell? ⟨p2, o2 + k * 6 + 3, none⟩ = some (.slice Bk y.key.length dk1) := e3
            have dl4 : ∀ z : Later wr (fun _ => False), z.1.cell? ⟨pr, off + j * 6 + 4, none⟩ = some (.bool x.hasVal) := fun z => ((z.2.below (Nat.le_refl _) fun _ q => q.elim).cell (p := ⟨pr, off + j * 6 + 4, none⟩) hpr).trans d4
            have el4 : ∀ z : Later wr (fun _ => False), z.1.cell? ⟨p2, o2 + k * 6 + 4, none⟩ = some (.bool y.hasVal) := fun z => ((z.2.below (Nat.le_refl _) fun _ q => q.elim).cell (p := ⟨p2, o2 + k * 6 + 4, none⟩) hp2).trans e4
            have em4 : wr.drew.cell? ⟨p2, o2 + k * 6 + 4, none⟩ = some (.bool y.hasVal) := e4
            have dl5 : ∀ z : Later wr (fun _ => False), z.1.cell? ⟨pr, off + j * 6 + 5, none⟩ = some (.slice Av x.val.length cv1) := fun z => ((z.2.below (Nat.le_refl _) fun _ q => q.elim).cell (p := ⟨pr, off + j * 6 + 5, none⟩) hpr).trans d5
            have el5 : ∀ z : Later wr (fun _ => False), z.1.cell? ⟨p2, o2 + k * 6 + 5, none⟩ = some (.slice Bv y.val.length dv1) := fun z => ((z.2.below (Nat.le_refl _) fun _ q => q.elim).cell (p := ⟨p2, o2 + k * 6 + 5, none⟩) hp2).trans e5
            have em5 : wr.drew.cell? ⟨p2, o2 + k * 6 + 5, none⟩ = some (.slice Bv y.val.length dv1) := e5
            have hS0 : later wr (fun _ => False) wr.drew := later_of ((Chg.refl _ _).drew)
            refine wp_plan (S := fun w0 => ∃ x : Later wr (fun _ => False), w0 = x.1) (by kernel_rfl) hS0 ?_
            intro hS K5 hK5
            have HS := Lib.hid hS; clear hS hS0
            refine plan_group [true, true, true, true, true, true, true] [0, 1, 2, 3, 4, 5, 6] 2 (by dsimp only [sel]) (by rfl) rfl (by kernel_rfl) (by kernel_rfl) HS.out ?_
            (repeat go_big_quiet_step (fail)); refine wpQuiet_nil ?_
            refine plan_one [false, false, false, false, false, false, false, true] 7 1 (by dsimp only [sel]) (by rfl) rfl (by kernel_rfl) ?_; intro K1 hK1; go_wp2_with fail
            refine ⟨later_of ((Chg.refl _ _).drew), ?_⟩
            refine plan_one [false, false, false, false, false, false, false, false, true] 8 0 (by dsimp only [sel]) (by rfl) rfl (by kernel_rfl) ?_; intro K1 hK1; go_wp2_with fail
            refine (HCALL.out _ (bdrew (Below.refl _ wr) 1)).mono ?_
            rintro e wb ⟨rfl, hbb⟩
            have HBBW := Lib.hid (show Below wr.heap.size wr wb from (bdrew (Below.refl _ wr) 1).trans (hbb.mono (Nat.le_refl _))); clear hbb
            go_wp2_with fail
            refine ⟨later_of (chg_of HBBW.out), ?_⟩
            refine wp_plan_end (by kernel_rfl) ?_
            clear dl0 dl1 dl2 dl3 dl4 dl5 el0 el1 el2 el3 el4 el5 em0 em1 em2 em3 em4 em5
            have HBN := Lib.hid (HBW9.out.trans (HBBW.out.mono HBW9.out.size))
            by_cases hs : x.Same y
            · rw [decide_eq_true hs]
              clear hs
              go_wp2_with fail
              go_roundw
              case rel => exact ⟨k + 1, j + 1, by go_num, by go_num, by omega, by omega, HNX.out.1.1, HBN.out⟩
              case measure => simp [intOf]; omega
            · have hsb2 := HNX.out.1.2 (HNX.out.2 hs)
              have HSB2 := Lib.hid hsb2; clear hsb2
              rw [decide_eq_false hs]
              clear hs
              go_wp2_with fail
              go_roundw
              case rel => exact ⟨k, j + 1, rfl, by go_num, by omega, by omega, HSB2.out, HBN.out⟩
              case measure => simp [intOf]; omega
          · have hkK : k = K2 := by
              by_cases hj1 : j < K
              · omega
              · have h1 := HSB.out.length_le
                rw [List.length_drop, List.length_drop, ← HK.out.1, ← HK.out.2] at h1
                omega
            subst hkK
            have hex : (j : Int) < (K : Int) ∨ ¬ (j : Int) < (K : Int) := by omega
            have hkk : ¬ (k : Int) < (k : Int) := by omega
            have hz1 : ((k : Int) != (k : Int)) = false := by simp
            have hz2 : ((K : Int) - (k : Int) != (K : Int) - (k : Int)) = false := by simp
            clear hgo
            have hbc9 := HB9.out.trans (HBW9.out.mono HB9.out.size)
            have HC9 := Lib.hid hbc9; clear hbc9
            rcases hex with hex | hex
            all_goals
              go_wp2_with fail
              refine (HAO.out wr HC9.out).mono ?_
              rintro e w10 ⟨A10, k10, rfl, -, -, hba10, hb10⟩
              have HB10 := Lib.hid (And.intro (HC9.out.trans (hb10.mono HC9.out.size)) hba10); clear hb10 hba10
              go_wp2_with fail
              refine (HFB.out A10 k10 w10 HB10.out.2).mono ?_
              rintro e w11 ⟨v11, l11, rfl, hown, hby, his, hb11⟩
              obtain ⟨A11, k11, rfl, -, hpat⟩ := own_at hown
              have hl11 := HMAP.out.2 l11 his
              have heq := HMAP.out.1 l11 his
              have hbc11 := HB10.out.1.trans (hb11.mono HB10.out.1.size)
              have hb411 := HBC.out.2.2.trans (hbc11.mono HBC.out.2.2.size)
              obtain ⟨N11, hN11⟩ : ∃ N11, N11 = l11.length := ⟨_, rfl⟩
              have hfs2 := fs.same_any A11 N11 k11 l11 A4 N4 k4 l4 w11 hN11.symm HW4.out.2.2.2 (by omega) hl4 hpat (fun x hx => (hby x hx).wide) (At.below HW4.out.1 hb411 (Nat.le_refl _)) (fun x hx => ((HW4.out.2.1 x hx).wide).below hb411 (Nat.le_refl _))
              rw [heq] at hfs2
              rw [← hN11]
              have HFS2 := Lib.hid hfs2; clear hfs2 heq hown hby his hpat hN11 hl11 hb11
              have HB11 := Lib.hid (And.intro hbc11 hb411); clear hbc11 hb411
              go_wp2_with fail
              refine HFS2.out.mono ?_
              rintro e w12 ⟨rfl, hb12⟩
              have hb412 := HB11.out.2.trans (hb12.mono HB11.out.2.size)
              have hbc12 := HB11.out.1.trans (hb12.mono HB11.out.1.size)
              have HB12 := Lib.hid (And.intro hbc12 hb412); clear hb12 hbc12 hb412
              go_wp2_with fail
              go_roundw
              case rel => exact ⟨i + 1, A5, k5, o, up, rfl, rfl, by go_num, by omega, ⟨hk51, by unfold maxLen; omega⟩, ⟨HDO.out.len, HDO.out.fit, by rw [← HOF.out, ← HBB.out.1]; exact HSY.out.1, by rw [← HOF.out, ← HBB.out.1]; exact HSY.out.2⟩, (HSEG5.out.below HBC.out.1 (Nat.le_refl _)).below HB12.out.1 (Nat.le_refl _), HB12.out.2⟩
              case measure => simp [intOf]; omega
    · obtain rfl : i = n2 := by omega
      have HB0 := Lib.hid hb0; clear hb0
      go_wp2_with fail
      refine (HAW.out wr).mono ?_
      rintro e w5 ⟨rfl, hb5⟩
      have HB5 := Lib.hid (show Below w.heap.size w w5 from HB0.out.trans (hb5.mono HB0.out.size)); clear hb5
      go_wp2_with fail
      go_ret
      exact ⟨rfl, HB5.out⟩
end Go.Proofs.Ytnlfdhoabbbheaa

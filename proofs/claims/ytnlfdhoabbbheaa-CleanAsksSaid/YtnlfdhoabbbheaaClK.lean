/- The law CleanAsks (cordwainlaw14): it answers true, whatever the input. -/
import Derived.Test.YtnlfdhoabbbheaaClQ
import Derived.Test.YtnlfdhoabbbheaaClJ
import Derived.Test.YtnlfdhoabbbheaaClU
import Derived.Test.YtnlfdhoabbbheaaClH
import Derived.Test.YtnlfdhoabbbheaaOpR
namespace Go.Proofs.Ytnlfdhoabbbheaa
open Go.RowKit Go.Maps
set_option maxRecDepth 100000

set_option maxHeartbeats 16000000 in
theorem law14.asks (A : Option Addr) (n c : Nat) (ss : List (List Bat)) (dirty : Int) (c0 c1 c2 c3 c4 : Int) (c5 : Bool) (c6 c7 : Int) (c8 : Bool) (now : Int) (w : World) (hcm : ss.length = n ∧ n ≤ c ∧ c ≤ maxLen) (hss : cl.SegsAt w A ss) :
    Calls Try.prog 3 #[.slice A n c, .int .i64 dirty, .agg #[.int .i64 c0, .int .i64 c1, .int .i64 c2, .int .i64 c3, .int .i64 c4, .bool c5, .int .i64 c6, .int .i64 c7, .bool c8], .int .i64 now] w fun e w' => e = .returned (.bool true) ∧ Below w.heap.size w w' := by
  obtain ⟨hn, hcm⟩ := hcm
  have HSS := Lib.hid hss; clear hss
  have HAW := Lib.hid (fun wx => law14.awake_any wx)
  obtain ⟨g, hg⟩ : ∃ g, g = w.heap.size := ⟨_, rfl⟩
  obtain ⟨w1, hw1⟩ : ∃ w1, w1 = w.alloc (.cells #[.int .i64 c0, .int .i64 c1, .int .i64 c2, .int .i64 c3, .int .i64 c4, .bool c5, .int .i64 c6, .int .i64 c7, .bool c8] 24) := ⟨_, rfl⟩
  have hk1 : Blk w1 g 24 #[.int .i64 c0, .int .i64 c1, .int .i64 c2, .int .i64 c3, .int .i64 c4, .bool c5, .int .i64 c6, .int .i64 c7, .bool c8] := by rw [hw1, hg]; exact Blk.new _ _ _
  have hb1 : Below w.heap.size w w1 := by rw [hw1]; exact (Below.refl _ _).alloc (Nat.le_refl _) _
  have hmay := law14.may_any A n c ss w1 (HSS.out.below hb1 (Nat.le_refl _)) hn (Nat.le_trans hcm.1 hcm.2)
  have H1 := Lib.hid (And.intro hk1 hb1); clear hk1 hb1
  have HW1 := Lib.hid (And.intro hg hw1); clear hg hw1
  have HMAY := Lib.hid hmay; clear hmay
  have HN := Lib.hid (And.intro hn hcm); clear hn
  unfold maxLen at hcm
  obtain ⟨hcm1, hcm2⟩ := hcm
  go_enter Try.func3, Try.ntmps3
  go_upto_region 1 with fail
  rw [← HW1.out.2, ← HW1.out.1]
  go_wp2_with fail
  refine HMAY.out.mono ?_
  rintro e w2 ⟨⟨b, rfl, hm⟩, hb2⟩
  have HM := Lib.hid hm; clear hm HMAY HW1
  have HB2 := Lib.hid (And.intro (H1.out.2.trans (hb2.mono H1.out.2.size)) ((chg_of (P := fun _ => False) hb2).blk H1.out.1 id)); clear hb2 H1
  have f6 := HB2.out.2.cell 6 (v := .int .i64 c6) rfl
  have hgw := HB2.out.2.lt
  by_cases hbad : b = false ∨ (b = true ∧ dirty < 0) ∨ (b = true ∧ ¬ dirty < 0 ∧ 4611686018427387904 < dirty) ∨ (b = true ∧ ¬ dirty < 0 ∧ ¬ 4611686018427387904 < dirty ∧ now < 0) ∨ (b = true ∧ ¬ dirty < 0 ∧ ¬ 4611686018427387904 < dirty ∧ ¬ now < 0 ∧ 1125899906842624 < now) ∨
      (b = true ∧ ¬ dirty < 0 ∧ ¬ 4611686018427387904 < dirty ∧ ¬ now < 0 ∧ ¬ 1125899906842624 < now ∧ c6 < 0) ∨ (b = true ∧ ¬ dirty < 0 ∧ ¬ 4611686018427387904 < dirty ∧ ¬ now < 0 ∧ ¬ 1125899906842624 < now ∧ ¬ c6 < 0 ∧ 1125899906842624 < c6)
  · as_aux_lemma =>
      rcases hbad with rfl | ⟨rfl, h1⟩ | ⟨rfl, h1, h2⟩ | ⟨rfl, h1, h2, h3⟩ | ⟨rfl, h1, h2, h3, h4⟩ | ⟨rfl, h1, h2, h3, h4, h5⟩ | ⟨rfl, h1, h2, h3, h4, h5, h6⟩
      all_goals
        go_wp2_with fail
        refine (HAW.out w2).mono ?_
        rintro e w3 ⟨rfl, hb3⟩
        have HB3 := Lib.hid (show Below w.heap.size w w3 from HB2.out.1.trans (hb3.mono HB2.out.1.size)); clear hb3
        go_wp2_with fail
        go_ret
        exact ⟨rfl, HB3.out⟩
  have hb : b = true := by
    cases b with
    | false => exact absurd (.inl rfl) hbad
    | true => rfl
  subst hb
  have HMY := Lib.hid (HM.out rfl)
  have h0 : ¬ dirty < 0 := fun h => hbad (.inr (.inl ⟨rfl, h⟩))
  have h1 : ¬ 4611686018427387904 < dirty := fun h => hbad (.inr (.inr (.inl ⟨rfl, h0, h⟩)))
  have h2 : ¬ now < 0 := fun h => hbad (.inr (.inr (.inr (.inl ⟨rfl, h0, h1, h⟩))))
  have h3 : ¬ 1125899906842624 < now := fun h => hbad (.inr (.inr (.inr (.inr (.inl ⟨rfl, h0, h1, h2, h⟩)))))
  have h4 : ¬ c6 < 0 := fun h => hbad (.inr (.inr (.inr (.inr (.inr (.inl ⟨rfl, h0, h1, h2, h3, h⟩))))))
  have h5 : ¬ 1125899906842624 < c6 := fun h => hbad (.inr (.inr (.inr (.inr (.inr (.inr ⟨rfl, h0, h1, h2, h3, h4, h⟩))))))
  clear hbad HM
  have hF := HMY.out.fit
  have hn20 : n ≤ 20 := by rw [← HN.out.1]; exact HMY.out.len
  obtain ⟨M, hMM⟩ : ∃ M, M = min (max c7 1) 1000000 := ⟨_, rfl⟩
  have hall := fun (wx : World) (hb : Below w.heap.size w wx) => cl.all_any A n c ss dirty now c7 M c6 c0 c1 c2 c3 c4 c5 c8 wx (HSS.out.below hb (Nat.le_refl _)) HN.out.1 (by omega) hF.small (by have := hF.recs; omega) hF.times hMM ⟨by omega, by omega⟩ ⟨by omega, by omega⟩
  have href := fun (wx : World) (hb : Below w.heap.size w wx) => cr.clean_any A n c ss dirty now c7 M c6 c0 c1 c2 c3 c4 c5 c8 wx (HSS.out.below hb (Nat.le_refl _)) HN.out.1 HN.out.2 hF hMM ⟨by omega, by omega⟩ ⟨by omega, by omega⟩
  generalize hGG : kb.go dirty M 0 (fun _ => none) dirty (ss.take (n - 1)).flatten = G at *
  unfold cl.AllPost at hall href
  have hfo : cp.Fit (cl.outs (cl.stays G.2.1 G.2.2 now c6) ss n) := by rw [← HN.out.1]; exact hF.outs
  have hol : (cl.outs (cl.stays G.2.1 G.2.2 now c6) ss n).length = n := cl.outs_len _ _ _
  generalize cl.gone (cl.stays G.2.1 G.2.2 now c6) ss n = gn at *
  generalize cl.outs (cl.stays G.2.1 G.2.2 now c6) ss n = o at *
  generalize G.2.2 = up at *
  have HO := Lib.hid (And.intro hol hfo); clear hol hfo hF hMM hGG
  have HALL := Lib.hid hall; clear hall
  have HREF := Lib.hid href; clear href
  have e0 := HB2.out.2.cell 0 (v := .int .i64 c0) rfl
  have e1 := HB2.out.2.cell 1 (v := .int .i64 c1) rfl
  have e2 := HB2.out.2.cell 2 (v := .int .i64 c2) rfl
  have e3 := HB2.out.2.cell 3 (v := .int .i64 c3) rfl
  have e4 := HB2.out.2.cell 4 (v := .int .i64 c4) rfl
  have e5 := HB2.out.2.cell 5 (v := .bool c5) rfl
  have e7 := HB2.out.2.cell 7 (v := .int .i64 c7) rfl
  have e8 := HB2.out.2.cell 8 (v := .bool c8) rfl
  go_wp2_with fail
  refine (HALL.out w2 HB2.out.1).mono ?_
  rintro e w3 ⟨A3, k3, rfl, hk3, hm3, hseg3, hb3⟩
  have HB3 := Lib.hid (And.intro (HB2.out.1.trans (hb3.mono HB2.out.1.size)) ((chg_of (P := fun _ => False) hb3).blk HB2.out.2 id)); clear hb3 HB2 f6 e0 e1 e2 e3 e4 e5 e7 e8 hgw HALL
  have HSEG3 := Lib.hid (And.intro hseg3 (And.intro hk3 hm3)); clear hseg3 hk3 hm3
  have e0 := HB3.out.2.cell 0 (v := .int .i64 c0) rfl
  have e1 := HB3.out.2.cell 1 (v := .int .i64 c1) rfl
  have e2 := HB3.out.2.cell 2 (v := .int .i64 c2) rfl
  have e3 := HB3.out.2.cell 3 (v := .int .i64 c3) rfl
  have e4 := HB3.out.2.cell 4 (v := .int .i64 c4) rfl
  have e5 := HB3.out.2.cell 5 (v := .bool c5) rfl
  have e6 := HB3.out.2.cell 6 (v := .int .i64 c6) rfl
  have e7 := HB3.out.2.cell 7 (v := .int .i64 c7) rfl
  have e8 := HB3.out.2.cell 8 (v := .bool c8) rfl
  have hgw := HB3.out.2.lt
  go_wp2_with fail
  refine (HREF.out w3 HB3.out.1).mono ?_
  rintro e w4 ⟨A4, k4, rfl, -, -, hseg4, hb4⟩
  have hst := law14.same_true A3 n k3 A4 k4 o w4 HO.out.1 (by omega) (fun bs hbs => by
    have h1 := (List.sublist_flatten_of_mem hbs).length_le
    have h2 := HO.out.2.size
    omega) (HSEG3.out.1.below hb4 (Nat.le_refl _)) hseg4
  have HST := Lib.hid hst; clear hst hseg4
  have HB4 := Lib.hid (HB3.out.1.trans (hb4.mono HB3.out.1.size)); clear hb4 HB3 e0 e1 e2 e3 e4 e5 e6 e7 e8 hgw HREF
  go_wp2_with fail
  refine HST.out.mono ?_
  rintro e w5 ⟨rfl, hb5⟩
  have HB5 := Lib.hid (HB4.out.trans (hb5.mono HB4.out.size)); clear hb5
  have hz1 : (up == up) = true := by simp
  have hz2 : (gn == gn) = true := by simp
  go_wp2_with fail
  refine (HAW.out w5).mono ?_
  rintro e w6 ⟨rfl, hb6⟩
  have HB6 := Lib.hid (show Below w.heap.size w w6 from HB5.out.trans (hb6.mono HB5.out.size)); clear hb6
  go_wp2_with fail
  go_ret
  exact ⟨rfl, HB6.out⟩
end Go.Proofs.Ytnlfdhoabbbheaa

/- The law FoldAsks (cordwainlaw13): it answers true, whatever the input. -/
import Derived.Test.YtbbekgliaedigaaFoF
import Derived.Test.YtbbekgliaedigaaFoJ
import Derived.Test.YtbbekgliaedigaaFoL
import Derived.Test.YtbbekgliaedigaaFoM
import Derived.Test.YtbbekgliaedigaaSmR
import Derived.Test.YtbbekgliaedigaaPfS
namespace Go.Proofs.Ytbbekgliaedigaa
open Go.RowKit Go.Maps

theorem recsSame_self : ∀ rs : List Rec, recsSame rs rs = true
  | [] => rfl
  | r :: rs => by
    unfold recsSame
    rw [recsSame_self rs, decide_eq_true (show r.Same r from ⟨rfl, rfl, rfl, rfl, rfl, rfl⟩)]
    rfl
theorem FoIs.says_same {l1 l2 : List PItm} {rs : List Rec} (h1 : FoIs l1 rs) (h2 : FoIs l2 rs) : l1.map PItm.says = l2.map PItm.says := by
  have h := congrArg (List.map fun t : ByteArray × FoV => (strOf t.2.1, strOf t.2.2.1, t.2.2.2)) (h1.same h2)
  rw [List.map_map, List.map_map] at h
  exact h

set_option maxRecDepth 100000 in
set_option maxHeartbeats 4000000 in
theorem law13.asks (A : Option Addr) (n c : Nat) (bs : List Bat) (most : Int) (w : World) (hcm : bs.length = n ∧ n ≤ c ∧ c ≤ maxLen) (hbs : BatsAt w A bs) (hmost : -9223372036854775808 ≤ most ∧ most ≤ 9223372036854775807) :
    Calls Try.prog 7 #[.slice A n c, .int .i64 most] w fun e w' => e = .returned (.bool true) ∧ Below w.heap.size w w' := by
  obtain ⟨hbn, hnc, hcm⟩ := hcm
  have hsmall := law13.small_any A n c bs w hbs hbn (Nat.le_trans hnc hcm)
  unfold maxLen at hcm
  have HSM := Lib.hid hsmall; clear hsmall
  have HBS := Lib.hid hbs; clear hbs
  have HBN := Lib.hid hbn; clear hbn
  have HAW := Lib.hid (fun wx => law13.awake_any wx)
  go_enter Try.func7, Try.ntmps7
  go_wp2_with fail
  refine HSM.out.mono ?_
  rintro e w1 ⟨⟨b, rfl, hmay⟩, hb1⟩
  have HB1 := Lib.hid hb1; clear hb1 HSM
  by_cases hgo : b = true ∧ 0 ≤ most
  · obtain ⟨rfl, hm0⟩ := hgo
    obtain ⟨hsm, hfl, hrk⟩ := (hmay rfl).small
    clear hmay
    have hn60 : n ≤ 1000000 := by have := hsm.1; have := HBN.out; omega
    obtain ⟨rs, hrs⟩ : ∃ rs, rs = rc.flat bs := ⟨_, rfl⟩
    have hrec := fun (wx : World) (h : Below w.heap.size w wx) => rc.records_any A bs n c wx (HBS.out.below h (Nat.le_refl _)) HBN.out hn60 (by omega)
    unfold rc.Post at hrec
    have hcopy := fun (wx : World) (h : Below w.heap.size w wx) => fo.records_any A n c bs wx (HBS.out.below h (Nat.le_refl _)) HBN.out hsm
    have hbat := fun (wx : World) (h : Below w.heap.size w wx) => fo.batches_any A n c bs wx HBN.out hsm (by omega) (HBS.out.below h (Nat.le_refl _))
    have hwalk := fun (g : Nat) (A' : Option Addr) (c' : Nat) (q : Int) (hq : 0 ≤ q) (wx : World) (hb : Blk wx g 43 #[.slice A' n c']) (ha : BatsAt wx A' bs) => show Calls Try.prog 32 #[.func (.func 95) #[] #[.pointer (some ⟨g, 0, none⟩)], .int .i64 q] wx (fo.WalkPost (rc.flat bs) q wx) from by
      obtain ⟨f, hf⟩ : ∃ f, fo.Src f A' bs wx := ha
      exact law13.walk_any g A' n c' bs f q wx HBN.out hsm (by omega) hq hb hf
    have hof := fun (g : Nat) (A' : Option Addr) (c' : Nat) (wx : World) (hb : Blk wx g 43 #[.slice A' n c']) (ha : BatsAt wx A' bs) => show Calls Try.prog 37 #[.func (.func 95) #[] #[.pointer (some ⟨g, 0, none⟩)]] wx (fo.OfPost (rc.flat bs) wx) from by
      obtain ⟨f, hf⟩ : ∃ f, fo.Src f A' bs wx := ha
      exact fo.of_any g A' n c' bs f wx HBN.out hsm (by omega) hb hf
    rw [← hrs] at hrec hbat hwalk hof hfl hrk
    obtain ⟨nr, hnr⟩ : ∃ nr, nr = rs.length := ⟨_, rfl⟩
    rw [← hnr] at hrec hfl
    have HNR := Lib.hid hnr; clear hnr hrs
    have HREC := Lib.hid hrec; clear hrec
    have HCOPY := Lib.hid hcopy; clear hcopy
    have HBAT := Lib.hid hbat; clear hbat
    have HWALK := Lib.hid hwalk; clear hwalk
    have HOF := Lib.hid hof; clear hof hsm
    have HRK := Lib.hid hrk; clear hrk
    have hmn : ¬ most < 0 := by omega
    go_wp2_with fail
    refine (HREC.out w1 HB1.out).mono ?_
    rintro e w2 ⟨⟨Ar, cr, rfl, hrv⟩, hb2⟩
    have HR2 := Lib.hid hrv; clear hrv
    have HB2 := Lib.hid (HB1.out.trans (hb2.mono HB1.out.size)); clear hb2 HB1
    go_wp2_with fail
    refine (HCOPY.out w2 HB2.out).mono ?_
    rintro e w3 ⟨g3, A3, c3, rfl, hg3, ha3, hb3⟩
    have H3 := Lib.hid (And.intro hg3 ha3); clear hg3 ha3
    have HR3 := Lib.hid (HR2.out.below hb3 (Nat.le_refl _)); clear HR2
    have HB3 := Lib.hid (HB2.out.trans (hb3.mono HB2.out.size)); clear hb3 HB2
    go_wp2_with fail
    refine (HWALK.out g3 A3 c3 100000 (by omega) w3 H3.out.1 H3.out.2).mono ?_
    rintro e w4 ⟨Ag, cg, lg, hlg, rfl, hgv, hb4⟩
    rw [show (100000 : Int).toNat = 100000 from rfl, List.take_of_length_le (by rw [← HNR.out]; omega)] at hlg
    subst hlg
    rw [← HNR.out] at hgv ⊢
    have HG4 := Lib.hid hgv; clear hgv
    have HR4 := Lib.hid (HR3.out.below hb4 (Nat.le_refl _)); clear HR3
    have HB4 := Lib.hid (HB3.out.trans (hb4.mono HB3.out.size)); clear hb4 HB3 H3
    go_wp2_with fail
    refine (rf.fold_any Ar nr cr lg w4 HR4.out HNR.out.symm (by omega) (fun r hr => by have := HRK.out r hr; omega)).mono ?_
    rintro e w5 ⟨v5, l5, rfl, hown5, hby5, his5, hb5⟩
    obtain ⟨N, hN⟩ : ∃ N, N = l5.length := ⟨_, rfl⟩
    rw [← hN] at hown5
    obtain ⟨A5, c5, rfl, -, hat5⟩ := own_at hown5
    have hN4 : N ≤ 4000 := by have := his5.len; have := HNR.out; omega
    have hpat5 : PAt w5 A5 l5 := by unfold PAt; rw [← hN]; exact hat5
    have H5 := Lib.hid (And.intro hpat5 (And.intro (fun x hx => (hby5 x hx).below hb5 (Nat.le_refl _)) (And.intro his5 hN))); clear hpat5 hby5 his5 hN hown5 hat5
    have HG5 := Lib.hid (HG4.out.below hb5 (Nat.le_refl _)); clear HG4
    have HR5 := Lib.hid (HR4.out.below hb5 (Nat.le_refl _)); clear HR4
    have HB5 := Lib.hid (HB4.out.trans (hb5.mono HB4.out.size)); clear hb5 HB4
    have hsr := ref.samerecs_any lg lg Ag cg Ar cr w5 (by rw [← HNR.out]; exact HG5.out) (by rw [← HNR.out]; exact HR5.out)
    rw [recsSame_self, ← HNR.out] at hsr
    have HSR := Lib.hid hsr; clear hsr
    go_wp2_with fail
    refine HSR.out.mono ?_
    rintro e w6 ⟨rfl, hb6⟩
    have HB56 := Lib.hid hb6
    have HB6 := Lib.hid (HB5.out.trans (hb6.mono HB5.out.size)); clear hb6 HSR
    go_wp2_with fail
    refine (HCOPY.out w6 HB6.out).mono ?_
    rintro e w7 ⟨g7, A7, c7, rfl, hg7, ha7, hb7⟩
    have H7 := Lib.hid (And.intro hg7 ha7); clear hg7 ha7
    have HB57 := Lib.hid (HB56.out.trans (hb7.mono HB56.out.size)); clear HB56
    have HB7 := Lib.hid (HB6.out.trans (hb7.mono HB6.out.size)); clear hb7
    go_wp2_with fail
    refine (HWALK.out g7 A7 c7 most hm0 w7 H7.out.1 H7.out.2).mono ?_
    rintro e w8 ⟨A8, c8, l8, hl8, rfl, -, hb8⟩
    have HB58 := Lib.hid (HB57.out.trans (hb8.mono HB57.out.size)); clear HB57
    have HB8 := Lib.hid (HB7.out.trans (hb8.mono HB7.out.size)); clear hb8 H7 HB7 HB6
    obtain ⟨m8, hm8⟩ : ∃ m8, m8 = l8.length := ⟨_, rfl⟩
    have hmin1 : (if (nr : Int) < most then (nr : Int) else most) = (m8 : Int) := by
      rw [hm8, hl8, List.length_take, ← HNR.out]
      split <;> omega
    have hmin2 : min most (nr : Int) = (m8 : Int) := by
      rw [hm8, hl8, List.length_take, ← HNR.out]
      omega
    rw [← hm8]
    clear hl8 hm8
    go_wp2_with fail
    clear hmin1 hmin2
    refine (HBAT.out w8 HB8.out).mono ?_
    rintro e w9 ⟨v9, l9, rfl, hown9, hby9, his9, hb9⟩
    have hs9 := his9.says_same H5.out.2.2.1
    have hl9 : l9.length = N := by rw [H5.out.2.2.2]; have := congrArg List.length hs9; rwa [List.length_map, List.length_map] at this
    rw [hl9] at hown9
    obtain ⟨A9, c9, rfl, -, hat9⟩ := own_at hown9
    have hpat9 : PAt w9 A9 l9 := by unfold PAt; rw [hl9]; exact hat9
    have HB59 := Lib.hid (HB58.out.trans (hb9.mono HB58.out.size)); clear HB58
    have HB9 := Lib.hid (HB8.out.trans (hb9.mono HB8.out.size)); clear hb9 HB8
    have hfl9 := ft.flat_any A9 N c9 l9 w9 hl9 (by omega) hpat9
    have HFL9 := Lib.hid hfl9; clear hfl9 hown9 hat9 hpat9
    go_wp2_with fail
    refine HFL9.out.mono ?_
    rintro e w10 ⟨v10, rfl, hown10, hb10⟩
    obtain ⟨A10, c10, rfl, -, hat10⟩ := own_at hown10
    have hpat10 : PAt w10 A10 l9 := by unfold PAt; rw [hl9]; exact hat10
    have HB510 := Lib.hid (HB59.out.trans (hb10.mono HB59.out.size)); clear HB59
    have HB10 := Lib.hid (HB9.out.trans (hb10.mono HB9.out.size)); clear HB9 HFL9
    have hsm10 := pf.same_true A10 N c10 l9 A5 c5 l5 w10 hl9 (by omega) hpat10 (fun x hx => (hby9 x hx).below hb10 (Nat.le_refl _)) (H5.out.1.below HB510.out (Nat.le_refl _)) (fun x hx => (H5.out.2.1 x hx).below HB510.out (Nat.le_refl _)) hs9
    have HS10 := Lib.hid hsm10; clear hsm10 hown10 hat10 hpat10 hb10 hby9 his9 hs9 hl9
    go_wp2_with fail
    refine HS10.out.mono ?_
    rintro e w11 ⟨rfl, q11, hw11⟩
    have HB511 := Lib.hid (show Below w5.heap.size w5 w11 by rw [hw11]; exact bdrew HB510.out q11)
    have HB11 := Lib.hid (show Below w.heap.size w w11 by rw [hw11]; exact bdrew HB10.out q11); clear hw11 HB510 HB10 HS10
    go_wp2_with fail
    refine (HCOPY.out w11 HB11.out).mono ?_
    rintro e w12 ⟨g12, A12, c12, rfl, hg12, ha12, hb12⟩
    have H12 := Lib.hid (And.intro hg12 ha12); clear hg12 ha12
    have HB512 := Lib.hid (HB511.out.trans (hb12.mono HB511.out.size)); clear HB511
    have HB12 := Lib.hid (HB11.out.trans (hb12.mono HB11.out.size)); clear hb12 HB11
    go_wp2_with fail
    refine (HOF.out g12 A12 c12 w12 H12.out.1 H12.out.2).mono ?_
    rintro e w13 ⟨v13, l13, rfl, hown13, hby13, his13, hb13⟩
    have hs13 := his13.says_same H5.out.2.2.1
    have hl13 : l13.length = N := by rw [H5.out.2.2.2]; have := congrArg List.length hs13; rwa [List.length_map, List.length_map] at this
    rw [hl13] at hown13
    obtain ⟨A13, c13, rfl, -, hat13⟩ := own_at hown13
    have hpat13 : PAt w13 A13 l13 := by unfold PAt; rw [hl13]; exact hat13
    have HB513 := Lib.hid (HB512.out.trans (hb13.mono HB512.out.size)); clear HB512
    have HB13 := Lib.hid (HB12.out.trans (hb13.mono HB12.out.size)); clear hb13 HB12
    have hfl13 := ft.flat_any A13 N c13 l13 w13 hl13 (by omega) hpat13
    have HFL13 := Lib.hid hfl13; clear hfl13 hown13 hat13 hpat13
    go_wp2_with fail
    refine HFL13.out.mono ?_
    rintro e w14 ⟨v14, rfl, hown14, hb14⟩
    obtain ⟨A14, c14, rfl, -, hat14⟩ := own_at hown14
    have hpat14 : PAt w14 A14 l13 := by unfold PAt; rw [hl13]; exact hat14
    have HB514 := Lib.hid (HB513.out.trans (hb14.mono HB513.out.size)); clear HB513
    have HB14 := Lib.hid (HB13.out.trans (hb14.mono HB13.out.size)); clear HB13 HFL13
    have hsm14 := pf.same_true A14 N c14 l13 A5 c5 l5 w14 hl13 (by omega) hpat14 (fun x hx => (hby13 x hx).below hb14 (Nat.le_refl _)) (H5.out.1.below HB514.out (Nat.le_refl _)) (fun x hx => (H5.out.2.1 x hx).below HB514.out (Nat.le_refl _)) hs13
    have HS14 := Lib.hid hsm14; clear hsm14 hown14 hat14 hpat14 hb14 hby13 his13 hs13 hl13
    go_wp2_with fail
    refine HS14.out.mono ?_
    rintro e w15 ⟨rfl, q15, hw15⟩
    have HB15 := Lib.hid (show Below w.heap.size w w15 by rw [hw15]; exact bdrew HB14.out q15); clear hw15 HB14 HS14 HB514
    go_wp2_with fail
    refine (HAW.out w15).mono ?_
    rintro e w16 ⟨rfl, hb16⟩
    have HB16 := Lib.hid (HB15.out.trans (hb16.mono HB15.out.size)); clear hb16
    go_wp2_with fail
    go_ret
    exact ⟨rfl, HB16.out⟩
  · have hcase : b = false ∨ (b = true ∧ most < 0) := by
      cases b with
      | false => exact .inl rfl
      | true => exact .inr ⟨rfl, by have : ¬ 0 ≤ most := fun h => hgo ⟨rfl, h⟩; omega⟩
    clear hmay hgo
    rcases hcase with rfl | ⟨rfl, hneg⟩
    all_goals
      go_wp2_with fail
      refine (HAW.out w1).mono ?_
      rintro e w2 ⟨rfl, hb2⟩
      have HB2 := Lib.hid (show Below w.heap.size w w2 from HB1.out.trans (hb2.mono HB1.out.size)); clear hb2
      go_wp2_with fail
      go_ret
      exact ⟨rfl, HB2.out⟩
end Go.Proofs.Ytbbekgliaedigaa

/- The law CleanKeeps (cordwainlaw14): it answers true, whatever the input. -/
import Derived.Test.YtnlfdhoabbbheaaClQ
import Derived.Test.YtnlfdhoabbbheaaClR
import Derived.Test.YtnlfdhoabbbheaaClH
import Derived.Test.YtnlfdhoabbbheaaOpR
import Derived.BigQuiet
namespace Go.Proofs.Ytnlfdhoabbbheaa
open Go.RowKit Go.Maps
set_option maxRecDepth 100000

theorem cl.outs_small {F : Rec → Bool} {ss : List (List Bat)} {n : Nat} (hn : ss.length = n) (h : ss.flatten.length ≤ 4000 ∧ (rc.flat ss.flatten).length ≤ 4000) : (cl.outs F ss n).flatten.length ≤ 4000 ∧ (rc.flat (cl.outs F ss n).flatten).length ≤ 4000 := by
  subst hn
  obtain ⟨be, ac, h1, -, h3⟩ := ck.outs_flat F ss
  rw [h1, cl.flat_app, List.length_append, List.length_append] at h
  rw [h3, cl.flat_app, ck.flat_all, List.length_append, List.length_append]
  have h4 := ps.all_len F be
  have h5 := List.length_filter_le F (rc.flat be)
  omega
theorem cl.outs_keep {M now grace : Int} {ss : List (List Bat)} {n : Nat} (hn : ss.length = n) (hg : cp.Good (-1) ss.flatten) (hM : 0 ≤ M) {G : Nat × (ByteArray → Option Int) × Int} (hG : G = kb.go 0 M 0 (fun _ => none) 0 (ss.take (n - 1)).flatten) :
    (∀ i r, (rc.flat ss.flatten)[i]? = some r → (r.hasKey = false ∨ (r.hasVal = true ∧ ck.newer r ((rc.flat ss.flatten).drop (i + 1)) = true)) → r ∈ rc.flat (cl.outs (cl.stays G.2.1 G.2.2 now grace) ss n).flatten) ∧
      (((cl.outs (cl.stays G.2.1 G.2.2 now grace) ss n).flatten.map ck.hdr).Sublist (ss.flatten.map ck.hdr)) := by
  subst hn
  obtain ⟨be, ac, h1, h2, h3⟩ := ck.outs_flat (cl.stays G.2.1 G.2.2 now grace) ss
  rw [h2] at hG
  rw [h1] at hg
  have hb := (ck.built (f := 0) hg.append.1 hM).1
  rw [← hG] at hb
  rw [h3, h1]
  exact ⟨fun i r hi hr => ck.keeps hg hb hi hr, ck.hdrs _ _ _⟩

set_option maxHeartbeats 16000000 in
theorem law14.keeps (A : Option Addr) (n c : Nat) (ss : List (List Bat)) (c0 c1 c2 c3 c4 : Int) (c5 : Bool) (c6 c7 : Int) (c8 : Bool) (now : Int) (w : World) (hcm : ss.length = n ∧ n ≤ c ∧ c ≤ maxLen) (hss : cl.SegsAt w A ss) :
    Calls Try.prog 6 #[.slice A n c, .agg #[.int .i64 c0, .int .i64 c1, .int .i64 c2, .int .i64 c3, .int .i64 c4, .bool c5, .int .i64 c6, .int .i64 c7, .bool c8], .int .i64 now] w fun e w' => e = .returned (.bool true) ∧ Below w.heap.size w w' := by
  obtain ⟨hn, hnc, hcm⟩ := hcm
  have HSS := Lib.hid hss; clear hss
  have HAW := Lib.hid (fun wx => law14.awake_any wx)
  obtain ⟨g, hg⟩ : ∃ g, g = w.heap.size := ⟨_, rfl⟩
  obtain ⟨w1, hw1⟩ : ∃ w1, w1 = w.alloc (.cells #[.int .i64 c0, .int .i64 c1, .int .i64 c2, .int .i64 c3, .int .i64 c4, .bool c5, .int .i64 c6, .int .i64 c7, .bool c8] 24) := ⟨_, rfl⟩
  have hk1 : Blk w1 g 24 #[.int .i64 c0, .int .i64 c1, .int .i64 c2, .int .i64 c3, .int .i64 c4, .bool c5, .int .i64 c6, .int .i64 c7, .bool c8] := by rw [hw1, hg]; exact Blk.new _ _ _
  have hb1 : Below w.heap.size w w1 := by rw [hw1]; exact (Below.refl _ _).alloc (Nat.le_refl _) _
  have hmay := law14.may_any A n c ss w1 (HSS.out.below hb1 (Nat.le_refl _)) hn (Nat.le_trans hnc hcm)
  have H1 := Lib.hid (And.intro hk1 hb1); clear hk1 hb1
  have HW1 := Lib.hid (And.intro hg hw1); clear hg hw1
  have HMAY := Lib.hid hmay; clear hmay
  have HN := Lib.hid hn; clear hn
  unfold maxLen at hcm
  go_enter Try.func6, Try.ntmps6
  go_upto_region 1 with fail
  rw [← HW1.out.2, ← HW1.out.1]
  go_wp2_with fail
  refine HMAY.out.mono ?_
  rintro e w2 ⟨⟨b, rfl, hm⟩, hb2⟩
  have HM := Lib.hid hm; clear hm HMAY HW1
  have HB2 := Lib.hid (And.intro (H1.out.2.trans (hb2.mono H1.out.2.size)) ((chg_of (P := fun _ => False) hb2).blk H1.out.1 id)); clear hb2 H1
  have f6 := HB2.out.2.cell 6 (v := .int .i64 c6) rfl
  have hgw := HB2.out.2.lt
  by_cases hbad : b = false ∨ (b = true ∧ now < 0) ∨ (b = true ∧ ¬ now < 0 ∧ 1125899906842624 < now) ∨ (b = true ∧ ¬ now < 0 ∧ ¬ 1125899906842624 < now ∧ c6 < 0) ∨ (b = true ∧ ¬ now < 0 ∧ ¬ 1125899906842624 < now ∧ ¬ c6 < 0 ∧ 1125899906842624 < c6)
  · as_aux_lemma =>
      rcases hbad with rfl | ⟨rfl, h1⟩ | ⟨rfl, h1, h2⟩ | ⟨rfl, h1, h2, h3⟩ | ⟨rfl, h1, h2, h3, h4⟩
      all_goals
        go_wp2_with fail
        refine (HAW.out w2).mono ?_
        rintro e w3 ⟨rfl, hb3⟩
        have HB3 := Lib.hid (show Below w.heap.size w w3 from HB2.out.1.trans (hb3.mono HB2.out.1.size)); clear hb3
        go_wp2_with fail
        go_ret
        exact ⟨rfl, HB3.out⟩
  have hb : b = true := by
    cases b with
    | false => exact absurd (.inl rfl) hbad
    | true => rfl
  subst hb
  have h0 : ¬ now < 0 := fun h => hbad (.inr (.inl ⟨rfl, h⟩))
  have h1 : ¬ 1125899906842624 < now := fun h => hbad (.inr (.inr (.inl ⟨rfl, h0, h⟩)))
  have h2 : ¬ c6 < 0 := fun h => hbad (.inr (.inr (.inr (.inl ⟨rfl, h0, h1, h⟩))))
  have h3 : ¬ 1125899906842624 < c6 := fun h => hbad (.inr (.inr (.inr (.inr ⟨rfl, h0, h1, h2, h⟩))))
  clear hbad
  have hM := HM.out rfl
  obtain ⟨hs1, hs2, hs3, -⟩ := cp.small hM.sum
  have hn20 : n ≤ 20 := by rw [← HN.out]; exact hM.len
  obtain ⟨M, hMM⟩ : ∃ M, M = min (max c7 1) 1000000 := ⟨_, rfl⟩
  have hM0 : 0 ≤ M := by omega
  have hall := fun wx (hb : Below w.heap.size w wx) => cl.all_any A n c ss 0 now c7 M c6 c0 c1 c2 c3 c4 c5 c8 wx (HSS.out.below hb (Nat.le_refl _)) HN.out (by omega) hs2 (by omega) hM.times hMM ⟨by omega, by omega⟩ ⟨by omega, by omega⟩
  have hlall := fun wx (hb : Below w.heap.size w wx) => law14.all_any A n c ss wx (HSS.out.below hb (Nat.le_refl _)) HN.out (by omega) (by omega)
  obtain ⟨G, hG⟩ : ∃ G, G = kb.go 0 M 0 (fun _ => none) 0 (ss.take (n - 1)).flatten := ⟨_, rfl⟩
  rw [← hG] at hall
  have hkp := cl.outs_keep (now := now) (grace := c6) HN.out hM.good hM0 hG
  have hos := cl.outs_small (F := cl.stays G.2.1 G.2.2 now c6) HN.out ⟨hs1, hs3⟩
  have hol : (cl.outs (cl.stays G.2.1 G.2.2 now c6) ss n).length = n := cl.outs_len _ _ _
  unfold cl.AllPost at hall
  have hyp := ck.bases hM.good
  generalize cl.gone (cl.stays G.2.1 G.2.2 now c6) ss n = gn at *
  generalize cl.outs (cl.stays G.2.1 G.2.2 now c6) ss n = outs at *
  generalize G.2.2 = up at *
  obtain ⟨ys, hys⟩ : ∃ ys, ys = ss.flatten := ⟨_, rfl⟩
  obtain ⟨xs, hxs⟩ : ∃ xs, xs = outs.flatten := ⟨_, rfl⟩
  rw [← hys] at hlall hkp hyp hs1 hs2 hs3
  rw [← hxs] at hkp hos
  have HKP := Lib.hid (And.intro hkp (And.intro hyp hxs)); clear hkp hyp hxs hG hM0 hMM hM hys HM hs2
  have HALL := Lib.hid hall; clear hall
  have HLA := Lib.hid hlall; clear hlall
  have HOL := Lib.hid hol; clear hol
  obtain ⟨hx1, hx2⟩ := hos
  have e0 := HB2.out.2.cell 0 (v := .int .i64 c0) rfl
  have e1 := HB2.out.2.cell 1 (v := .int .i64 c1) rfl
  have e2 := HB2.out.2.cell 2 (v := .int .i64 c2) rfl
  have e3 := HB2.out.2.cell 3 (v := .int .i64 c3) rfl
  have e4 := HB2.out.2.cell 4 (v := .int .i64 c4) rfl
  have e5 := HB2.out.2.cell 5 (v := .bool c5) rfl
  have e7 := HB2.out.2.cell 7 (v := .int .i64 c7) rfl
  have e8 := HB2.out.2.cell 8 (v := .bool c8) rfl
  go_wp2_with fail
  refine (HALL.out w2 HB2.out.1).mono ?_
  rintro e w3 ⟨A3, k3, rfl, -, hm3, hseg, hb3⟩
  have HB3 := Lib.hid (HB2.out.1.trans (hb3.mono HB2.out.1.size)); clear hb3 HB2 f6 e0 e1 e2 e3 e4 e5 e7 e8 hgw HALL
  have HSEG := Lib.hid hseg; clear hseg
  have hloall := fun wx (hb : Below w3.heap.size w3 wx) => law14.all_any A3 n k3 outs wx (HSEG.out.below hb (Nat.le_refl _)) HOL.out (by omega) (by rw [← HKP.out.2.2]; omega)
  rw [← HKP.out.2.2] at hloall
  have HLO := Lib.hid hloall; clear hloall
  go_wp2_with fail
  refine (HLA.out w3 HB3.out).mono ?_
  rintro e w4 ⟨A4, k4, rfl, -, -, hba4, hb4⟩
  have hrc := rc.records_any A4 ys ys.length k4 w4 hba4 rfl (by omega) (by omega)
  have HRC := Lib.hid hrc; clear hrc hba4
  go_wp2_with fail
  refine HRC.out.mono ?_
  rintro e w5 ⟨⟨A5, k5, rfl, hrv5⟩, hb5⟩
  have hb35 : Below w3.heap.size w3 w5 := hb4.trans (hb5.mono hb4.size)
  have HB35 := Lib.hid (And.intro hb35 hrv5); clear hb35 hrv5 hb4 hb5 HRC
  go_wp2_with fail
  refine (HLO.out w5 HB35.out.1).mono ?_
  rintro e w6 ⟨A6, k6, rfl, -, -, hba6, hb6⟩
  have hrc := rc.records_any A6 xs xs.length k6 w6 hba6 rfl (by omega) (by omega)
  have HRC := Lib.hid hrc; clear hrc hba6
  have HB36 := Lib.hid hb6; clear hb6
  go_wp2_with fail
  refine HRC.out.mono ?_
  rintro e w7 ⟨⟨A7, k7, rfl, hrv7⟩, hb7⟩
  have hb57 : Below w5.heap.size w5 w7 := HB36.out.trans (hb7.mono HB36.out.size)
  have HB7 := Lib.hid (show Below w3.heap.size w3 w7 from HB35.out.1.trans (hb57.mono HB35.out.1.size))
  have HRA := Lib.hid (HB35.out.2.below hb57 (Nat.le_refl _))
  have HRB := Lib.hid hrv7; clear hrv7 hb7 hb57 HB35 HB36 HRC
  obtain ⟨a, ha⟩ : ∃ a, a = rc.flat ys := ⟨_, rfl⟩
  obtain ⟨b, hb⟩ : ∃ b, b = rc.flat xs := ⟨_, rfl⟩
  have hkp := HKP.out.1.1
  rw [← ha, ← hb] at hkp
  rw [← ha] at hs3 HRA ⊢
  rw [← hb] at hx2 HRB ⊢
  have HKA := Lib.hid hkp; clear hkp ha hb
  obtain ⟨K, hK⟩ : ∃ K, K = a.length := ⟨_, rfl⟩
  obtain ⟨K2, hK2⟩ : ∃ K2, K2 = b.length := ⟨_, rfl⟩
  rw [← hK] at hs3 HRA ⊢
  rw [← hK2] at hx2 HRB ⊢
  have HK := Lib.hid (And.intro hK hK2); clear hK hK2
  go_wp2_with fail
  go_loopw [12] (fun s12 wx => ∃ i : Nat, s12 = .int .i64 (i : Int) ∧ i ≤ K ∧ Below w7.heap.size w7 wx) (fun s12 _ => K - (intOf s12).toNat)
  case atStart => exact ⟨0, rfl, by omega, Below.refl _ _⟩
  case round =>
    obtain ⟨i, rfl, hi, hbw⟩ := hrel
    have HBW := Lib.hid hbw; clear hbw
    by_cases hlt : i < K
    · have hlt' : (i : Int) < (K : Int) := by omega
      obtain ⟨r, hr⟩ : ∃ r, a[i]? = some r := ⟨_, List.getElem?_eq_getElem (by rw [← HK.out.1]; exact hlt)⟩
      obtain ⟨pr, off, c', kv, vv, hA, -, -, hpr, a0, a1, a2, a3, a4, a5, hkk, hvv, -, -⟩ := (HRA.out.below HBW.out (Nat.le_refl _)).at' hr
      rw [← HK.out.1] at hA
      obtain ⟨rfl, rfl⟩ : A5 = some ⟨pr, off, none⟩ ∧ k5 = c' := by simpa using hA
      clear hA
      obtain ⟨Ak, kcap, rfl, hka, hk1, hk2, -⟩ := hkk
      obtain ⟨Av, cv, rfl, hva, -, -, -⟩ := hvv
      have hcx := fun q => conv_any (P := Try.prog) (c := kcap) Try.underlying32 Try.underlying5 Try.underlying9 r.key rfl (hka.drew q)
      have hkl : r.key.length ≤ 9223372036854775807 := by unfold maxLen at hk2; omega
      have HCX := Lib.hid hcx; clear hcx
      have HKV := Lib.hid (And.intro hka (And.intro hva hk1)); clear hka hva hk1 hk2
      have hkeep := HKA.out i r hr
      have HKE := Lib.hid hkeep; clear hkeep
      have HRI := Lib.hid hr; clear hr
      have HPR := Lib.hid hpr
      obtain ⟨wo, hwo⟩ : ∃ wo, wo = wr := ⟨_, rfl⟩
      rw [← hwo] at HBW HKV HCX hpr HPR a0 a1 a2 a3 a4 a5 ⊢
      clear hwo
      go_wp2_with fail
      go_loopw [13, 14] (fun s13 s14 wx => ∃ (k q : Nat), s13 = .bool (ck.newer r ((a.take k).drop (i + 1))) ∧ s14 = .int .i64 (k : Int) ∧ i + 1 ≤ k ∧ k ≤ K ∧ wx = wo.drewN q) (fun _ s14 _ => K - (intOf s14).toNat)
      case atStart => exact ⟨i + 1, 0, by rw [List.drop_of_length_le (by rw [List.length_take]; omega)]; rfl, by go_num, by omega, by omega, rfl⟩
      case round =>
        obtain ⟨k, q, rfl, rfl, hik, hkK, rfl⟩ := hrel
        have b2 : (wo.drewN q).cell? ⟨pr, off + i * 6 + 2, none⟩ = some (.bool r.hasKey) := a2
        have b3 : (wo.drewN q).cell? ⟨pr, off + i * 6 + 3, none⟩ = some (.slice Ak r.key.length kcap) := a3
        have b4 : (wo.drewN q).cell? ⟨pr, off + i * 6 + 4, none⟩ = some (.bool r.hasVal) := a4
        by_cases hstep : k < K ∧ r.hasKey = true
        · as_aux_lemma =>
            obtain ⟨hkl2, hhk⟩ := hstep
            rw [hhk] at a2 b2
            have hkl2' : (k : Int) < (K : Int) := by omega
            obtain ⟨y, hy⟩ : ∃ y, a[k]? = some y := ⟨_, List.getElem?_eq_getElem (by rw [← HK.out.1]; exact hkl2)⟩
            have hnew : ck.newer r ((a.take (k + 1)).drop (i + 1)) = (ck.newer r ((a.take k).drop (i + 1)) && (!y.hasKey || decide (strOf y.key ≠ strOf r.key))) := by
              obtain ⟨h1, h2⟩ := List.getElem?_eq_some_iff.1 hy
              rw [List.take_succ_eq_append_getElem h1, h2, List.drop_append_of_le_length (by rw [List.length_take]; omega), ck.newer_snoc]
            obtain ⟨p2, o2, c2, kv2, vv2, hA2, -, -, -, -, -, d2, d3, -, -, hkk2, -, -, -⟩ := (HRA.out.below HBW.out (Nat.le_refl _)).at' hy
            rw [← HK.out.1] at hA2
            obtain ⟨⟨rfl, rfl⟩, rfl⟩ : (pr = p2 ∧ off = o2) ∧ k5 = c2 := by simpa using hA2
            clear hA2
            obtain ⟨Ar, cr, rfl, hra, hr1, hr2, -⟩ := hkk2
            have hcr := fun q => conv_any (P := Try.prog) (c := cr) Try.underlying32 Try.underlying5 Try.underlying9 y.key rfl (hra.drew q)
            have hcx := HCX.out
            have hkr : y.key.length ≤ 9223372036854775807 := by unfold maxLen at hr2; omega
            have HNW := Lib.hid hnew; clear hnew hy hra
            have d2' : (wo.drewN q).cell? ⟨pr, off + k * 6 + 2, none⟩ = some (.bool y.hasKey) := d2
            have d3' : (wo.drewN q).cell? ⟨pr, off + k * 6 + 3, none⟩ = some (.slice Ar y.key.length cr) := d3
            generalize hlr : y.key.length = lr at *
            generalize hlx : r.key.length = lx at *
            generalize ck.newer r ((a.take k).drop (i + 1)) = nb at *
            have hcases : nb = false ∨ (nb = true ∧ y.hasKey = false) ∨ (nb = true ∧ y.hasKey = true ∧ strOf y.key = strOf r.key) ∨ (nb = true ∧ y.hasKey = true ∧ strOf y.key ≠ strOf r.key) := by
              cases nb with
              | false => exact .inl rfl
              | true =>
                cases y.hasKey with
                | false => exact .inr (.inl ⟨rfl, rfl⟩)
                | true =>
                  by_cases e : strOf y.key = strOf r.key
                  · exact .inr (.inr (.inl ⟨rfl, rfl, e⟩))
                  · exact .inr (.inr (.inr ⟨rfl, rfl, e⟩))
            rcases hcases with rfl | ⟨rfl, e1⟩ | ⟨rfl, e1, e2⟩ | ⟨rfl, e1, e2⟩
            · go_wp2_with fail
              go_quiet (fail)
              go_wp2_with fail
              go_roundw
              case rel => exact ⟨k + 1, _, by rw [HNW.out]; rfl, by go_num, by omega, by omega, rfl⟩
              case measure => simp [intOf]; omega
            · rw [e1] at d2 d2'
              go_wp2_with fail
              go_quiet (fail)
              go_wp2_with fail
              go_roundw
              case rel => exact ⟨k + 1, _, by rw [HNW.out, e1]; rfl, by go_num, by omega, by omega, rfl⟩
              case measure => simp [intOf]; omega
            · rw [e1] at d2 d2'
              have HE := Lib.hid e2
              rw [e2] at hcr
              clear e2
              go_wp2_with fail
              go_quiet (fail)
              go_wp2_with fail
              go_roundw
              case rel => exact ⟨k + 1, _, by rw [HNW.out, e1, HE.out]; simp, by go_num, by omega, by omega, rfl⟩
              case measure => simp [intOf]; omega
            · rw [e1] at d2 d2'
              have HE := Lib.hid e2
              have h5 : ((strOf y.key).toList == (strOf r.key).toList) = false := text_ne5 e2
              clear e2
              go_wp2_with fail
              go_quiet (fail)
              go_wp2_with fail
              go_roundw
              case rel => exact ⟨k + 1, _, by rw [HNW.out, e1, decide_eq_true HE.out]; rfl, by go_num, by omega, by omega, rfl⟩
              case measure => simp [intOf]; omega
        · have hnb : r.hasKey = true → k = K → ck.newer r ((a.take k).drop (i + 1)) = ck.newer r (a.drop (i + 1)) := fun _ h => by rw [h, List.take_of_length_le (by rw [← HK.out.1]; exact Nat.le_refl _)]
          have hfin : (r ∈ b ∧ ((r.hasKey = false ∧ k < K) ∨ (r.hasKey = false ∧ k = K) ∨ (r.hasKey = true ∧ k = K ∧ ck.newer r ((a.take k).drop (i + 1)) = true ∧ r.hasVal = true))) ∨ (r.hasKey = true ∧ k = K ∧ ck.newer r ((a.take k).drop (i + 1)) = false) ∨ (r.hasKey = true ∧ k = K ∧ ck.newer r ((a.take k).drop (i + 1)) = true ∧ r.hasVal = false) := by
            by_cases h1 : r.hasKey = true
            · have h2 : k = K := Classical.byContradiction fun h => hstep ⟨by omega, h1⟩
              have h3 := hnb h1 h2
              cases h4 : ck.newer r ((a.take k).drop (i + 1)) with
              | false => exact .inr (.inl ⟨h1, h2, rfl⟩)
              | true =>
                cases h5 : r.hasVal with
                | false => exact .inr (.inr ⟨h1, h2, rfl, rfl⟩)
                | true => exact .inl ⟨HKE.out (.inr ⟨h5, by rw [← h3, h4]⟩), .inr (.inr ⟨h1, h2, rfl, rfl⟩)⟩
            · have h1 : r.hasKey = false := by simpa using h1
              refine .inl ⟨HKE.out (.inl h1), ?_⟩
              by_cases h2 : k < K
              · exact .inl ⟨h1, h2⟩
              · exact .inr (.inl ⟨h1, by omega⟩)
          clear hnb hstep
          generalize ck.newer r ((a.take k).drop (i + 1)) = nb at *
          rcases hfin with ⟨hin, hfin⟩ | ⟨h1, rfl, rfl⟩ | ⟨h1, rfl, rfl, h2⟩
          · have HIN := Lib.hid hin; clear hin
            rcases hfin with ⟨h1, h2⟩ | ⟨h1, rfl⟩ | ⟨h1, rfl, rfl, h2⟩
            all_goals
              as_aux_lemma =>
                rw [h1] at a2 b2
                (try rw [h2] at a4 b4)
                go_wp2_with fail
                go_loopw [15, 16] (fun s15 s16 wx => ∃ j : Nat, s15 = .bool ((b.take j).any fun y => decide (r.Same y)) ∧ s16 = .int .i64 (j : Int) ∧ j ≤ K2 ∧ Below wo.heap.size wo wx) (fun _ s16 _ => K2 - (intOf s16).toNat)
                case atStart => exact ⟨0, rfl, rfl, by omega, bdrew (Below.refl _ _) _⟩
                case round =>
                  obtain ⟨j, rfl, rfl, hj, hbj⟩ := hrel
                  have HBJ := Lib.hid hbj; clear hbj b2 b3 b4
                  by_cases hjl : j < K2
                  · have hjl' : (j : Int) < (K2 : Int) := by omega
                    obtain ⟨y, hy⟩ : ∃ y, b[j]? = some y := ⟨_, List.getElem?_eq_getElem (by rw [← HK.out.2]; exact hjl)⟩
                    have hany : ((b.take (j + 1)).any fun y => decide (r.Same y)) = (((b.take j).any fun y => decide (r.Same y)) || decide (r.Same y)) := by
                      obtain ⟨h1, h2⟩ := List.getElem?_eq_some_iff.1 hy
                      rw [List.take_succ_eq_append_getElem h1, h2, List.any_append]
                      simp
                    obtain ⟨p2, o2, c2, kv2, vv2, hB, -, -, hp2, d0, d1, d2, d3, d4, d5, hkk2, hvv2, -, -⟩ := ((HRB.out.below HBW.out (Nat.le_refl _)).below HBJ.out (Nat.le_refl _)).at' hy
                    rw [← HK.out.2] at hB
                    obtain ⟨rfl, rfl⟩ : A7 = some ⟨p2, o2, none⟩ ∧ k7 = c2 := by simpa using hB
                    clear hB
                    obtain ⟨Bk, dk, rfl, hbk, -, -, -⟩ := hkk2
                    obtain ⟨Bv, dv, rfl, hbv, -, -, -⟩ := hvv2
                    have hcall := fun wx (h : Below wr.heap.size wr wx) => ref.samerec_any r y Ak kcap Av cv Bk dk Bv dv wx ((HKV.out.1.below HBJ.out (Nat.le_refl _)).below h (Nat.le_refl _)) ((HKV.out.2.1.below HBJ.out (Nat.le_refl _)).below h (Nat.le_refl _)) (hbk.below h (Nat.le_refl _)) (hbv.below h (Nat.le_refl _))
                    unfold Rec.sval at hcall
                    rw [h1] at hcall
                    (try rw [h2] at hcall)
                    have HCALL := Lib.hid hcall; clear hcall hbk hbv
                    have HANY := Lib.hid hany; clear hany hy
                    have hprw := Nat.lt_of_lt_of_le HPR.out HBJ.out.size
                    have u0 := (HBJ.out.cell (p := ⟨pr, off + i * 6, none⟩) HPR.out).trans a0
                    have u1 := (HBJ.out.cell (p := ⟨pr, off + i * 6 + 1, none⟩) HPR.out).trans a1
                    have u2 := (HBJ.out.cell (p := ⟨pr, off + i * 6 + 2, none⟩) HPR.out).trans a2
                    have u3 := (HBJ.out.cell (p := ⟨pr, off + i * 6 + 3, none⟩) HPR.out).trans a3
                    have u4 := (HBJ.out.cell (p := ⟨pr, off + i * 6 + 4, none⟩) HPR.out).trans a4
                    have u5 := (HBJ.out.cell (p := ⟨pr, off + i * 6 + 5, none⟩) HPR.out).trans a5
                    cases hmet : (b.take j).any fun y => decide (r.Same y) with
                    | true =>
                      have ha2 := HANY.out
                      rw [hmet, Bool.true_or] at ha2
                      have HA2 := Lib.hid ha2; clear ha2 HANY hmet
                      go_wp2_with fail
                      go_quiet (fail)
                      go_wp2_with fail
                      go_roundw
                      case rel => exact ⟨j + 1, by rw [HA2.out], by go_num, by omega, bdrew HBJ.out _⟩
                      case measure => simp [intOf]; omega
                    | false =>
                      have ha2 := HANY.out
                      rw [hmet, Bool.false_or] at ha2
                      have HA2 := Lib.hid ha2; clear ha2 HANY hmet
                      have dl0 : ∀ z : Later wr (fun _ => False), z.1.cell? ⟨pr, off + i * 6, none⟩ = some (.int .i64 r.off) := fun z => ((z.2.below (Nat.le_refl _) fun _ q => q.elim).cell hprw).trans u0
                      have dl1 : ∀ z : Later wr (fun _ => False), z.1.cell? ⟨pr, off + i * 6 + 1, none⟩ = some (.int .i64 r.time) := fun z => ((z.2.below (Nat.le_refl _) fun _ q => q.elim).cell hprw).trans u1
                      have dl2 := fun z : Later wr (fun _ => False) => ((z.2.below (Nat.le_refl _) fun _ q => q.elim).cell (p := ⟨pr, off + i * 6 + 2, none⟩) hprw).trans u2
                      have dl3 : ∀ z : Later wr (fun _ => False), z.1.cell? ⟨pr, off + i * 6 + 3, none⟩ = some (.slice Ak r.key.length kcap) := fun z => ((z.2.below (Nat.le_refl _) fun _ q => q.elim).cell hprw).trans u3
                      have dl4 := fun z : Later wr (fun _ => False) => ((z.2.below (Nat.le_refl _) fun _ q => q.elim).cell (p := ⟨pr, off + i * 6 + 4, none⟩) hprw).trans u4
                      have dl5 : ∀ z : Later wr (fun _ => False), z.1.cell? ⟨pr, off + i * 6 + 5, none⟩ = some (.slice Av r.val.length cv) := fun z => ((z.2.below (Nat.le_refl _) fun _ q => q.elim).cell hprw).trans u5
                      have el0 : ∀ z : Later wr (fun _ => False), z.1.cell? ⟨p2, o2 + j * 6, none⟩ = some (.int .i64 y.off) := fun z => ((z.2.below (Nat.le_refl _) fun _ q => q.elim).cell hp2).trans d0
                      have el1 : ∀ z : Later wr (fun _ => False), z.1.cell? ⟨p2, o2 + j * 6 + 1, none⟩ = some (.int .i64 y.time) := fun z => ((z.2.below (Nat.le_refl _) fun _ q => q.elim).cell hp2).trans d1
                      have el2 : ∀ z : Later wr (fun _ => False), z.1.cell? ⟨p2, o2 + j * 6 + 2, none⟩ = some (.bool y.hasKey) := fun z => ((z.2.below (Nat.le_refl _) fun _ q => q.elim).cell hp2).trans d2
                      have el3 : ∀ z : Later wr (fun _ => False), z.1.cell? ⟨p2, o2 + j * 6 + 3, none⟩ = some (.slice Bk y.key.length dk) := fun z => ((z.2.below (Nat.le_refl _) fun _ q => q.elim).cell hp2).trans d3
                      have el4 : ∀ z : Later wr (fun _ => False), z.1.cell? ⟨p2, o2 + j * 6 + 4, none⟩ = some (.bool y.hasVal) := fun z => ((z.2.below (Nat.le_refl _) fun _ q => q.elim).cell hp2).trans d4
                      have el5 : ∀ z : Later wr (fun _ => False), z.1.cell? ⟨p2, o2 + j * 6 + 5, none⟩ = some (.slice Bv y.val.length dv) := fun z => ((z.2.below (Nat.le_refl _) fun _ q => q.elim).cell hp2).trans d5
                      go_wp2_with fail
                      have hS0 : later wr (fun _ => False) wr.drew := later_of ((Chg.refl _ _).drew)
                      refine wp_plan (S := fun w0 => ∃ x : Later wr (fun _ => False), w0 = x.1) (by kernel_rfl) hS0 ?_
                      intro hS K5 hK5
                      have HS := Lib.hid hS; clear hS hS0
                      refine plan_group [true, true, true, true, true, true, true, true, true] [0, 1, 2, 3, 4, 5, 6, 7, 8] 4 (by dsimp only [sel]) (by rfl) rfl (by kernel_rfl) (by kernel_rfl) HS.out ?_
                      (repeat go_big_quiet_step (fail)); refine wpQuiet_nil ?_
                      refine plan_one [false, false, false, false, false, false, false, false, false, true] 9 3 (by dsimp only [sel]) (by rfl) rfl (by kernel_rfl) ?_; intro K1 hK1; go_wp2_with fail
                      refine ⟨later_of ((Chg.refl _ _).drew), ?_⟩
                      refine plan_one [false, false, false, false, false, false, false, false, false, false, true] 10 2 (by dsimp only [sel]) (by rfl) rfl (by kernel_rfl) ?_; intro K1 hK1; go_wp2_with fail
                      refine (HCALL.out _ (bdrew (Below.refl _ wr) 1)).mono ?_
                      rintro e wb ⟨rfl, hbb⟩
                      go_wp2_with fail
                      have HS2 := Lib.hid (later_of (((Chg.refl wr (fun _ => False)).drew).trans (chg_of (P := fun _ => False) hbb) fun _ _ q => q))
                      refine ⟨HS2.out, ?_⟩
                      refine plan_group [false, false, false, false, false, false, false, false, false, false, false, true, true] [11, 12] 0 (by dsimp only [sel]) (by rfl) rfl (by kernel_rfl) (by kernel_rfl) HS2.out ?_
                      (repeat go_big_quiet_step (fail)); refine wpQuiet_nil ?_
                      refine wp_plan_end (by kernel_rfl) ?_
                      have HB2 := Lib.hid (HBJ.out.trans (((bdrew (Below.refl _ wr) 1).trans (hbb.mono (Nat.le_refl _))).mono HBJ.out.size)); clear hbb
                      go_wp2_with fail
                      go_roundw
                      case rel => exact ⟨j + 1, by rw [HA2.out], by go_num, by omega, HB2.out⟩
                      case measure => simp [intOf]; omega
                  · obtain rfl : j = K2 := by omega
                    have hmet : ((b.take j).any fun y => decide (r.Same y)) = true := by
                      rw [List.take_of_length_le (by rw [← HK.out.2]; exact Nat.le_refl _)]
                      exact List.any_eq_true.2 ⟨r, HIN.out, decide_eq_true ⟨rfl, rfl, rfl, rfl, rfl, rfl⟩⟩
                    rw [hmet]
                    clear hmet
                    go_wp2_with fail
                    go_roundw
                    case rel => exact ⟨i + 1, by go_num, by omega, HBW.out.trans (HBJ.out.mono HBW.out.size)⟩
                    case measure => simp [intOf]; omega
          · rw [h1] at a2 b2
            go_wp2_with fail
            go_roundw
            case rel => exact ⟨i + 1, by go_num, by omega, bdrew HBW.out _⟩
            case measure => simp [intOf]; omega
          · rw [h1] at a2 b2
            rw [h2] at a4 b4
            go_wp2_with fail
            go_roundw
            case rel => exact ⟨i + 1, by go_num, by omega, bdrew HBW.out _⟩
            case measure => simp [intOf]; omega
    · obtain rfl : i = K := by omega
      have HBZ := Lib.hid (HB7.out.trans (HBW.out.mono HB7.out.size)); clear HBW HB7 HRA HRB HKA HK
      have HZ0 := Lib.hid (HB3.out.trans (HBZ.out.mono HB3.out.size))
      go_wp2_with fail
      refine (HLO.out wr HBZ.out).mono ?_
      rintro e w8 ⟨A8, k8, rfl, hl8, hm8, hba8, hb8⟩
      have HB8 := Lib.hid (And.intro hb8 (HZ0.out.trans (hb8.mono HZ0.out.size))); clear hb8
      go_wp2_with fail
      refine (HLA.out w8 HB8.out.2).mono ?_
      rintro e w9 ⟨A9, k9, rfl, hl9, hm9, hba9, hb9⟩
      have HX := Lib.hid (hba8.below hb9 (Nat.le_refl _)); clear hba8
      have HY := Lib.hid hba9; clear hba9
      have HB9 := Lib.hid (HB8.out.2.trans (hb9.mono HB8.out.2.size)); clear hb9 HB8
      have hsub := HKP.out.1.2
      have hyp := HKP.out.2.1
      have HYP := Lib.hid hyp; clear hyp
      obtain ⟨X, hX⟩ : ∃ X, X = xs.length := ⟨_, rfl⟩
      obtain ⟨Y, hY⟩ : ∃ Y, Y = ys.length := ⟨_, rfl⟩
      rw [← hX] at hx1 hl8 ⊢
      rw [← hY] at hs1 hl9 ⊢
      have HSUB := Lib.hid hsub; clear hsub HKP HLO HLA HSEG
      have HXY := Lib.hid (And.intro hX hY); clear hX hY hl8 hm8 hl9 hm9
      go_wp2_with fail
      go_loopw [19, 20] (fun s19 s20 wx => ∃ (k i q : Nat), s19 = .int .i64 (k : Int) ∧ s20 = .int .i64 (i : Int) ∧ k ≤ Y ∧ i ≤ X ∧ ((xs.drop i).map ck.hdr).Sublist ((ys.drop k).map ck.hdr) ∧ wx = w9.drewN q) (fun _ s20 _ => X - (intOf s20).toNat)
      case atStart => exact ⟨0, 0, 0, rfl, rfl, by omega, by omega, HSUB.out, rfl⟩
      case round =>
        obtain ⟨k, i, q, rfl, rfl, hk, hi, hsub, rfl⟩ := hrel
        have HS1 := Lib.hid hsub; clear hsub
        by_cases hlt : i < X
        · have hlt' : (i : Int) < (X : Int) := by omega
          obtain ⟨x, hx⟩ : ∃ x, xs[i]? = some x := ⟨_, List.getElem?_eq_getElem (by rw [← HXY.out.1]; exact hlt)⟩
          obtain ⟨px, ox, vx, hAx, hpx, d0, d1, d2, -, d4, -⟩ := HX.out.at' hx
          subst hAx
          have HXX := Lib.hid hx; clear hx
          go_wp2_with fail
          go_loopw [19] (fun s19 wx => ∃ (k q : Nat), s19 = .int .i64 (k : Int) ∧ k ≤ Y ∧ ((xs.drop i).map ck.hdr).Sublist ((ys.drop k).map ck.hdr) ∧ wx = w9.drewN q) (fun s19 _ => Y - (intOf s19).toNat)
          case atStart => exact ⟨k, q, rfl, by omega, HS1.out, rfl⟩
          case round =>
            obtain ⟨k2, q2, rfl, hk2, hsub, rfl⟩ := hrel
            have hkY : k2 < Y := by
              refine Nat.lt_of_le_of_ne hk2 fun h => ?_
              have h1 := hsub.length_le
              rw [List.length_map, List.length_map, List.length_drop, List.length_drop, ← HXY.out.1, ← HXY.out.2] at h1
              omega
            have hkY' : (k2 : Int) < (Y : Int) := by omega
            have hkd : decide ((Y : Int) ≤ (k2 : Int)) = false := decide_eq_false (by omega)
            obtain ⟨y, hy⟩ : ∃ y, ys[k2]? = some y := ⟨_, List.getElem?_eq_getElem (by rw [← HXY.out.2]; exact hkY)⟩
            obtain ⟨hn1, hn2⟩ := ck.next HYP.out HXX.out hy hsub
            obtain ⟨py, oy, vy, hAy, hpy, e0, e1, e2, -, e4, -⟩ := HY.out.at' hy
            subst hAy
            clear hy hsub
            have d0' : (w9.drewN q2).cell? ⟨px, ox + i * 6, none⟩ = some (.int .i64 x.base) := d0
            have d1' : (w9.drewN q2).cell? ⟨px, ox + i * 6 + 1, none⟩ = some (.int .i64 x.last) := d1
            have d2' : (w9.drewN q2).cell? ⟨px, ox + i * 6 + 2, none⟩ = some (.int .i64 x.prod) := d2
            have d4' : (w9.drewN q2).cell? ⟨px, ox + i * 6 + 4, none⟩ = some (.int .i64 x.seq) := d4
            have e0' : (w9.drewN q2).cell? ⟨py, oy + k2 * 6, none⟩ = some (.int .i64 y.base) := e0
            have e1' : (w9.drewN q2).cell? ⟨py, oy + k2 * 6 + 1, none⟩ = some (.int .i64 y.last) := e1
            have e2' : (w9.drewN q2).cell? ⟨py, oy + k2 * 6 + 2, none⟩ = some (.int .i64 y.prod) := e2
            have e4' : (w9.drewN q2).cell? ⟨py, oy + k2 * 6 + 4, none⟩ = some (.int .i64 y.seq) := e4
            by_cases hbe : y.base = x.base
            · obtain ⟨hh, hs2⟩ := hn1 hbe
              have HS2 := Lib.hid hs2; clear hs2 hn1 hn2
              unfold ck.hdr at hh
              obtain ⟨t0, t1, t2, t3⟩ : y.base = x.base ∧ y.last = x.last ∧ y.prod = x.prod ∧ y.seq = x.seq := by simpa using hh
              rw [t0] at e0 e0'
              rw [t1] at e1 e1'
              rw [t2] at e2 e2'
              rw [t3] at e4 e4'
              clear hh hbe t0 t1 t2 t3
              have z0 : (x.base != x.base) = false := by simp
              have z1 : (x.last != x.last) = false := by simp
              have z2 : (x.prod != x.prod) = false := by simp
              have z3 : (x.seq != x.seq) = false := by simp
              go_wp2_with fail
              go_quiet (fail)
              go_wp2_with fail
              go_quiet (fail)
              go_wp2_with fail
              go_roundw
              case rel => exact ⟨k2, i + 1, _, rfl, by go_num, by omega, by omega, HS2.out, rfl⟩
              case measure => simp [intOf]; omega
            · have HS2 := Lib.hid (hn2 hbe); clear hn1 hn2
              have z0 : (y.base != x.base) = true := by simpa using hbe
              have z1 : decide (y.base = x.base) = false := decide_eq_false hbe
              clear hbe
              go_wp2_with fail
              go_quiet (fail)
              go_wp2_with fail
              go_roundw
              case rel => exact ⟨k2 + 1, _, by go_num, by omega, HS2.out, rfl⟩
              case measure => simp [intOf]; omega
        · have hlt' : ¬ (i : Int) < (X : Int) := by omega
          go_wp2_with fail
          refine (HAW.out (w9.drewN q)).mono ?_
          rintro e w10 ⟨rfl, hb10⟩
          have HB10 := Lib.hid (show Below w.heap.size w w10 from (bdrew HB9.out q).trans (hb10.mono HB9.out.size)); clear hb10
          go_wp2_with fail
          go_ret
          exact ⟨rfl, HB10.out⟩
end Go.Proofs.Ytnlfdhoabbbheaa

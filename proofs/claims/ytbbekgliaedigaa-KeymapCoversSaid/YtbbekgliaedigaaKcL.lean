/- The walk of the law KeymapCovers: it answers true, whatever the input. -/
import Derived.Test.YtbbekgliaedigaaKcA
import Derived.Test.YtbbekgliaedigaaKeyW
import Derived.Test.YtbbekgliaedigaaKeyH
import Derived.Test.YtbbekgliaedigaaBatW
import Derived.BigQuiet
namespace Go.Proofs.Ytbbekgliaedigaa
open Go.RowKit Go.Maps

set_option maxRecDepth 100000 in
set_option maxHeartbeats 4000000 in
theorem kc.lawCovers (A : Option Addr) (n c : Nat) (bs : List Bat) (f most : Int) (w : World) (hbs : BatsAt w A bs) (hbn : bs.length = n) (hcm : n ≤ c ∧ c ≤ maxLen) (hf : i64ok f) (hm : i64ok most) :
    Calls Try.prog 5 #[.slice A n c, .int .i64 f, .int .i64 most] w fun e w' => e = .returned (.bool true) ∧ Below w.heap.size w w' := by
  obtain ⟨hnc, hcm⟩ := hcm
  unfold maxLen at hcm
  unfold i64ok at hf hm
  have hbw := alike.batches_any A bs c 4000 w hbs (by unfold maxLen; omega) (by omega)
  rw [hbn] at hbw
  have HBW := Lib.hid hbw; clear hbw
  have HBS := Lib.hid hbs; clear hbs
  have HBN := Lib.hid hbn; clear hbn
  have HAW := Lib.hid (fun wx => key.awake_any wx)
  go_enter Try.func5, Try.ntmps5
  go_wp2_with fail
  refine HBW.out.mono ?_
  rintro e w1 ⟨⟨W0, rfl, hwt⟩, hb1⟩
  have HB1 := Lib.hid hb1; clear hb1 HBW
  have HWT := Lib.hid hwt; clear hwt
  by_cases hbad : 4000 < W0 ∨ 60 < n ∨ f < 0 ∨ most < 1
  · as_aux_lemma =>
      have hb3 : 4000 < W0 ∨ (W0 ≤ 4000 ∧ 60 < n) ∨ (W0 ≤ 4000 ∧ n ≤ 60 ∧ f < 0) ∨ (W0 ≤ 4000 ∧ n ≤ 60 ∧ 0 ≤ f ∧ most < 1) := by omega
      clear hbad
      rcases hb3 with h1 | ⟨h1, h2⟩ | ⟨h1, h2, h3⟩ | ⟨h1, h2, h3, h4⟩
      all_goals
        go_wp2_with fail
        refine (HAW.out w1).mono ?_
        rintro e w2 ⟨rfl, hb2⟩
        have HB2 := Lib.hid (show Below w.heap.size w w2 from HB1.out.trans (hb2.mono HB1.out.size)); clear hb2
        go_wp2_with fail
        go_ret
        exact ⟨rfl, HB2.out⟩
  have hw0 : W0 ≤ 4000 := by omega
  have hn60 : n ≤ 60 := by omega
  have hf0 : 0 ≤ f := by omega
  have hm1 : 1 ≤ most := by omega
  clear hbad
  have hrl : ∀ b ∈ bs, b.recs.length ≤ 4000 := fun b hb => by
    have h1 := HWT.out hw0 b hb
    have h2 := weights_ge b.recs
    unfold Bat.weight at h1
    omega
  have HRL := Lib.hid hrl; clear hrl HWT
  go_wp2_with fail
  go_loopg [7, 8] n (fun g s7 s8 wx => ∃ (k : Nat) (l : Int), k + g = n ∧ s7 = .int .i64 l ∧ s8 = .int .i64 (k : Int) ∧ (kc.BOk l (bs.drop k) → kc.BOk (-1) bs) ∧ Below w.heap.size w wx)
  case atStart => exact ⟨0, -1, by omega, rfl, rfl, fun h => h, HB1.out⟩
  case round =>
    obtain ⟨k, l, hkg, rfl, rfl, hok, hbr⟩ := hrel
    have HBR := Lib.hid hbr; clear hbr HB1
    have HOK := Lib.hid hok; clear hok
    cases gk with
    | succ g =>
      as_aux_lemma =>
        have hkn : k < n := by omega
        obtain ⟨x, hx⟩ : ∃ y, bs[k]? = some y := ⟨_, List.getElem?_eq_getElem (by rw [HBN.out]; exact hkn)⟩
        have hxr := HRL.out x (List.mem_of_getElem? hx)
        have hdr : bs.drop k = x :: bs.drop (k + 1) := by
          obtain ⟨h1, h2⟩ := List.getElem?_eq_some_iff.1 hx
          rw [List.drop_eq_getElem_cons h1, h2]
        rw [hdr] at HOK
        have HX := Lib.hid hx
        obtain ⟨b2, o2, v2, hA, hb2l, d0, d1, d2, d3, d4, d5, hrv, hi0, hi1, -⟩ := (HBS.out.below HBR.out (Nat.le_refl _)).at' hx
        subst hA
        obtain ⟨Ar, cr, Vr, rfl, hmc, hcr, -⟩ := id hrv
        obtain ⟨m, hmm⟩ : ∃ m, m = x.recs.length := ⟨_, rfl⟩
        have HRV := Lib.hid hrv; clear hrv
        rw [← hmm] at d5 hxr hmc
        have HMM := Lib.hid hmm; clear hmm hx hdr
        unfold i64ok at hi0 hi1
        unfold maxLen at hcr
        by_cases hbl : x.base ≤ l
        · go_wp2_with fail
          refine (HAW.out wr).mono ?_
          rintro e w5 ⟨rfl, hb5⟩
          have HB5 := Lib.hid (show Below w.heap.size w w5 from HBR.out.trans (hb5.mono HBR.out.size)); clear hb5
          go_wp2_with fail
          (try rw [Exit.noGoto_ret])
          go_ret
          exact ⟨rfl, HB5.out⟩
        obtain ⟨w2, hw2⟩ : ∃ w2, w2 = wr := ⟨_, rfl⟩
        rw [← hw2] at d0 d1 d2 d3 d4 d5 HRV HBR hb2l ⊢
        clear hw2
        go_wp2_with fail
        go_loopg [7, 9] m (fun g s7 s9 wx => ∃ (j q : Nat) (l' : Int), j + g = m ∧ s7 = .int .i64 l' ∧ s9 = .int .i64 (j : Int) ∧ (kc.ROk x l' (x.recs.drop j) → kc.ROk x l x.recs) ∧ wx = w2.drewN q)
        case atStart => exact ⟨0, 0, l, by omega, rfl, rfl, fun h => h, rfl⟩
        case round =>
          obtain ⟨j, q, l', hjg, rfl, rfl, hro, rfl⟩ := hrel
          have HRO := Lib.hid hro; clear hro
          have e0 : (w2.drewN q).cell? ⟨b2, o2 + k * 6, none⟩ = some (.int .i64 x.base) := d0
          have e1 : (w2.drewN q).cell? ⟨b2, o2 + k * 6 + 1, none⟩ = some (.int .i64 x.last) := d1
          have e5 : (w2.drewN q).cell? ⟨b2, o2 + k * 6 + 5, none⟩ = some (.slice Ar m cr) := d5
          cases gk with
          | zero =>
            obtain rfl : m = j := by omega
            rw [List.drop_of_length_le (by rw [← HMM.out]; exact Nat.le_refl _)] at HRO
            by_cases hb3 : x.last < l' ∨ 4611686018427387904 < x.last
            · have hb4 : x.last < l' ∨ (l' ≤ x.last ∧ 4611686018427387904 < x.last) := by omega
              clear hb3
              rcases hb4 with h1 | ⟨h1, h2⟩
              all_goals
                go_wp2_with fail
                refine (HAW.out _).mono ?_
                rintro e w5 ⟨rfl, hb5⟩
                have HB5 := Lib.hid (show Below w.heap.size w w5 from (bdrew HBR.out q).trans (hb5.mono (bdrew HBR.out q).size)); clear hb5
                go_wp2_with fail
                (try rw [Exit.noGoto_ret])
                go_ret
                exact ⟨rfl, HB5.out⟩
            have g1 : l' ≤ x.last := by omega
            have g2 : x.last ≤ 4611686018427387904 := by omega
            clear hb3
            go_wp2_with fail
            go_roundg g
            case measure => omega
            case rel => exact ⟨k + 1, x.last, by omega, rfl, by go_num, fun h => HOK.out ⟨⟨by omega, HRO.out g1, g2⟩, h⟩, bdrew HBR.out q⟩
          | succ g2 =>
            as_aux_lemma =>
              have hjm : j < m := by omega
              obtain ⟨r, hr⟩ : ∃ r, x.recs[j]? = some r := ⟨_, List.getElem?_eq_getElem (by rw [← HMM.out]; exact hjm)⟩
              have hdr : x.recs.drop j = r :: x.recs.drop (j + 1) := by
                obtain ⟨h1, h2⟩ := List.getElem?_eq_some_iff.1 hr
                rw [List.drop_eq_getElem_cons h1, h2]
              rw [hdr] at HRO
              obtain ⟨pr, off, c', kv, vv, hA, -, -, hpr, a0, -, -, -, -, -, -, -, hio, -⟩ := HRV.out.at' hr
              obtain ⟨rfl, rfl⟩ : Ar = some ⟨pr, off, none⟩ ∧ cr = c' := by simpa using hA
              clear hA hr hdr
              unfold i64ok at hio
              have e6 : (w2.drewN q).cell? ⟨pr, off + j * 6, none⟩ = some (.int .i64 r.off) := a0
              by_cases hb3 : r.off ≤ l' ∨ r.off < x.base ∨ x.last < r.off
              · have hb4 : r.off ≤ l' ∨ (decide (r.off ≤ l') = false ∧ r.off < x.base) ∨ (decide (r.off ≤ l') = false ∧ decide (r.off < x.base) = false ∧ x.last < r.off) := by simp only [decide_eq_false_iff_not]; omega
                clear hb3
                rcases hb4 with h1 | ⟨h1, h2⟩ | ⟨h1, h2, h3⟩
                all_goals
                  go_wp2_with fail
                  go_quiet (fail)
                  go_wp2_with fail
                  refine (HAW.out _).mono ?_
                  rintro e w5 ⟨rfl, hb5⟩
                  have HB5 := Lib.hid (show Below w.heap.size w w5 from (bdrew HBR.out _).trans (hb5.mono (bdrew HBR.out _).size)); clear hb5
                  go_wp2_with fail
                  (try rw [Exit.noGoto_ret])
                  go_ret
                  exact ⟨rfl, HB5.out⟩
              have g1 : decide (r.off ≤ l') = false := decide_eq_false (by omega)
              have g2' : decide (r.off < x.base) = false := decide_eq_false (by omega)
              have g3 : decide (x.last < r.off) = false := decide_eq_false (by omega)
              have HG := Lib.hid (show l' < r.off ∧ x.base ≤ r.off ∧ r.off ≤ x.last by omega)
              clear hb3
              go_wp2_with fail
              go_quiet (fail)
              go_wp2_with fail
              go_roundg g2
              case measure => omega
              case rel => exact ⟨j + 1, _, r.off, by omega, rfl, by go_num, fun h => HRO.out ⟨HG.out, h⟩, rfl⟩
    | zero =>
      obtain rfl : k = n := by omega
      rw [List.drop_of_length_le (by rw [HBN.out]; exact Nat.le_refl _)] at HOK
      have HBOK := Lib.hid (HOK.out trivial)
      go_wp2_with fail
      obtain ⟨M, hM⟩ : ∃ M, M = min (max most 1) 1000000 := ⟨_, rfl⟩
      have hM0 : 0 ≤ M := by omega
      have hMm : M ≤ most := by omega
      have hfl := kc.flat_len bs HRL.out
      rw [HBN.out] at hfl
      have hflat : (rc.flat bs).length ≤ 240000 := by omega
      clear hfl
      refine (kb.build_any A bs k c f most M wr (HBS.out.below HBR.out (Nat.le_refl _)) HBN.out (by omega) (fun b hb => ⟨by have := HRL.out b hb; omega, kc.BOk.mem_last bs _ HBOK.out b hb⟩) hM).mono ?_
      rintro e w3 ⟨⟨p, b, rfl, hkm, hp, hb⟩, hb3⟩
      have hres := kc.go (f := f) (M := M) bs 0 (fun _ => none) f (by omega)
      generalize kb.go f M 0 (fun _ => none) f bs = R at *
      obtain ⟨N, g, U⟩ := R
      dsimp only at hkm hres ⊢
      obtain ⟨hwin, hfU⟩ := kc.window HBOK.out hres.1
      have hNM : (N : Int) ≤ M := hres.2
      have hpw := (kc.BOk.all bs (-1) HBOK.out).2
      dsimp only at hwin hfU
      have HWIN := Lib.hid (And.intro hwin hpw); clear hwin hpw hres
      have HKM := Lib.hid hkm; clear hkm
      have HB3 := Lib.hid (HBR.out.trans (hb3.mono HBR.out.size)); clear hb3
      clear hM HOK
      have hnm : ¬ most < (N : Int) := by omega
      have hfu : ¬ U < f := by omega
      go_wp2_with fail
      refine (key.len_any p b M N g w3 HKM.out).mono ?_
      rintro e w' ⟨rfl, rfl⟩
      go_wp2_with fail
      refine (rc.records_any A bs k c w' (HBS.out.below HB3.out (Nat.le_refl _)) HBN.out (by omega) (by omega)).mono ?_
      rintro e w4 ⟨⟨A5, c5, rfl, hrv⟩, hb4⟩
      have HKM4 := Lib.hid (HKM.out.keep hb4); clear HKM
      have HB4 := Lib.hid (HB3.out.trans (hb4.mono HB3.out.size)); clear hb4 HB3
      have HRV := Lib.hid hrv; clear hrv
      generalize rc.flat bs = all at *
      obtain ⟨K, hK⟩ : ∃ K, K = all.length := ⟨_, rfl⟩
      rw [← hK] at hflat HRV ⊢
      have HK := Lib.hid hK; clear hK HRL HBOK
      go_wp2_with fail
      go_loopg [13, 14] K (fun gas s13 s14 wx => ∃ i : Nat, i + gas = K ∧ s13 = .int .i64 ((kc.cnt f U all i : Nat) : Int) ∧ s14 = .int .i64 (i : Int) ∧ Below w4.heap.size w4 wx)
      case atStart => exact ⟨0, by omega, rfl, rfl, Below.refl _ _⟩
      case round =>
        obtain ⟨i, hig, rfl, rfl, hbi⟩ := hrel
        have HBI := Lib.hid hbi; clear hbi
        have hcs := kc.cnt_small f U all i
        rw [← HK.out] at hcs
        cases gk with
        | zero =>
          obtain rfl : i = K := by omega
          have hcN : kc.cnt f U all i = N := by
            have h := HWIN.out.1
            unfold kc.cnt
            rw [List.take_of_length_le (by rw [← HK.out]; exact Nat.le_refl _), ← h]
          rw [hcN]
          have hNN : ((N : Int) == (N : Int)) = true := by simp
          have HKM5 := Lib.hid (HKM4.out.keep HBI.out)
          have HB5 := Lib.hid (HB4.out.trans (HBI.out.mono HB4.out.size))
          clear hcN hcs
          go_wp2_with fail
          refine (key.len_any p b M N g wr HKM5.out).mono ?_
          rintro e w' ⟨rfl, rfl⟩
          go_wp2_with fail
          refine (HAW.out w').mono ?_
          rintro e w6 ⟨rfl, hb6⟩
          have HB6 := Lib.hid (show Below w.heap.size w w6 from HB5.out.trans (hb6.mono HB5.out.size)); clear hb6
          go_wp2_with fail
          (try rw [Exit.noGoto_ret])
          go_ret
          exact ⟨rfl, HB6.out⟩
        | succ gas =>
          have hiK : i < K := by omega
          obtain ⟨x, hx⟩ : ∃ y, all[i]? = some y := ⟨_, List.getElem?_eq_getElem (by rw [← HK.out]; exact hiK)⟩
          obtain ⟨pr, off, c', kv, vv, hA, -, -, hpr, a0, a1, a2, a3, a4, a5, hkk, hvv, hio, -⟩ := (HRV.out.below HBI.out (Nat.le_refl _)).at' hx
          obtain ⟨Ak, ck, rfl, hka, hk1, hk2, -⟩ := hkk
          obtain ⟨Av, cv, rfl, -, -, -, -⟩ := hvv
          rw [← HK.out] at hA
          obtain ⟨rfl, rfl⟩ : A5 = some ⟨pr, off, none⟩ ∧ c5 = c' := by simpa using hA
          clear hA
          have hBw := HBI.out.alloc HBI.out.size (.cells #[.int .i64 x.off, .int .i64 x.time, .bool x.hasKey, .slice Ak x.key.length ck, .bool x.hasVal, .slice Av x.val.length cv] 54)
          have hBx := Blk.new wr 54 #[.int .i64 x.off, .int .i64 x.time, .bool x.hasKey, .slice Ak x.key.length ck, .bool x.hasVal, .slice Av x.val.length cv]
          have hKa := hka.alloc (.cells #[.int .i64 x.off, .int .i64 x.time, .bool x.hasKey, .slice Ak x.key.length ck, .bool x.hasVal, .slice Av x.val.length cv] 54)
          have HXX := Lib.hid (And.intro hx (And.intro hBw (And.intro hBx hKa))); clear hx hBw hBx hKa hka
          unfold i64ok at hio
          by_cases hw : kc.win f U x = true
          · as_aux_lemma =>
              have hlast := kc.last HXX.out.1 hw
              have hcnt : kc.cnt f U all (i + 1) = if kc.first f U x all = true then kc.cnt f U all i + 1 else kc.cnt f U all i := kc.count HWIN.out.2 HXX.out.1 hw
              have hwn : (N, g) = kc.free (0, fun _ => none) (all.filter (kc.win f U)) := HWIN.out.1
              rw [← hwn] at hlast
              dsimp only at hlast
              have HCN := Lib.hid (And.intro hlast hcnt); clear hlast hcnt hwn
              have hww : x.hasKey = true ∧ f ≤ x.off ∧ x.off < U := by
                unfold kc.win kb.use at hw
                rw [Bool.and_eq_true, Bool.and_eq_true, decide_eq_true_eq, decide_eq_true_eq] at hw
                exact ⟨hw.1.1, hw.1.2, hw.2⟩
              obtain ⟨hh, hw1, hw2⟩ := hww
              rw [hh] at a2 HXX
              clear hw
              have hnf : ¬ x.off < f := by omega
              have hnu : ¬ U ≤ x.off := by omega
              go_wp2_with fail
              have hkmW := HKM4.out.keep HXX.out.2.1
              obtain ⟨z, hz⟩ : ∃ z, z = wr.heap.size := ⟨_, rfl⟩
              obtain ⟨-, hBW, hBX, hKA⟩ := HXX.out
              have hprz : pr < z := by rw [hz]; exact hpr
              rw [← hz] at hBX ⊢
              have HXI := Lib.hid HXX.out.1; clear HXX HBI a0 a1 a2 a3 a4 a5 hpr hz
              generalize (wr.alloc (.cells #[.int .i64 x.off, .int .i64 x.time, .bool true, .slice Ak x.key.length ck, .bool x.hasVal, .slice Av x.val.length cv] 54)) = W at *
              have b0 := hBX.cell 0 (v := .int .i64 x.off) rfl
              have b3 := hBX.cell 3 (v := .slice Ak x.key.length ck) rfl
              have hrvW := HRV.out.below hBW (Nat.le_refl _)
              have hcx := fun q => conv_any (c := ck) Try.underlying23 Try.underlying5 Try.underlying9 x.key rfl (hKA.drew q)
              have hlst := fun q => key.last_any p b M N g Ak ck x.key (W.drewN q) (key.of_drew hkmW ⟨q, rfl⟩) (Nat.le_trans hk1 hk2) (hKA.drew q)
              rw [HCN.out.1] at hlst
              have HLST := Lib.hid hlst; clear hlst
              have HCX := Lib.hid hcx; clear hcx
              have HRW := Lib.hid hrvW; clear hrvW
              have HBW := Lib.hid hBW; clear hBW hBX hkmW hKA
              have hkl : x.key.length ≤ 9223372036854775807 := by unfold maxLen at hk2; omega
              have hkc : x.key.length ≤ ck := hk1
              generalize hlx : x.key.length = lx at *
              go_loopg [16, 17, 18] K (fun gas s16 s17 s18 wx => ∃ (k qd : Nat), k + gas = K ∧ s16 = .int .i64 (kc.want f U x x.off (all.take k)) ∧ s17 = .bool (kc.first f U x (all.take k)) ∧ s18 = .int .i64 (k : Int) ∧ wx = W.drewN qd)
              case atStart => exact ⟨0, 0, by omega, rfl, rfl, rfl, rfl⟩
              case round =>
                obtain ⟨k, qd, hkg2, rfl, rfl, rfl, rfl⟩ := hrel
                have c0 : (W.drewN qd).cell? ⟨z, 0, none⟩ = some (.int .i64 x.off) := b0
                have c3 : (W.drewN qd).cell? ⟨z, 3, none⟩ = some (.slice Ak lx ck) := b3
                cases gk with
                | zero =>
                  as_aux_lemma =>
                    obtain rfl : k = K := by omega
                    rw [List.take_of_length_le (by rw [← HK.out]; exact Nat.le_refl _)]
                    have hl := HLST.out
                    have hc := HCN.out.2
                    generalize kc.want f U x x.off all = wv at *
                    have HL := Lib.hid hl; clear hl HLST
                    have hnn : (wv != wv) = false := by simp
                    cases hfb : kc.first f U x all with
                    | true =>
                      rw [hfb, if_pos rfl] at hc
                      have HC := Lib.hid hc; clear hc HCN hfb
                      go_wp2_with fail
                      refine (HL.out _).mono ?_
                      rintro e w5 ⟨rfl, q5, rfl⟩
                      go_wp2_with fail
                      go_roundg gas
                      case measure => omega
                      case rel => exact ⟨i + 1, by omega, by rw [HC.out]; go_num, by go_num, bdrew HBW.out _⟩
                    | false =>
                      rw [hfb, if_neg (by simp)] at hc
                      have HC := Lib.hid hc; clear hc HCN hfb
                      go_wp2_with fail
                      refine (HL.out _).mono ?_
                      rintro e w5 ⟨rfl, q5, rfl⟩
                      go_wp2_with fail
                      go_roundg gas
                      case measure => omega
                      case rel => exact ⟨i + 1, by omega, by rw [HC.out], by go_num, bdrew HBW.out _⟩
                | succ g2 =>
                  as_aux_lemma =>
                    have hkK : k < K := by omega
                    obtain ⟨r, hr⟩ : ∃ y, all[k]? = some y := ⟨_, List.getElem?_eq_getElem (by rw [← HK.out]; exact hkK)⟩
                    have hs1 := kc.want_succ f U x x.off all k r hr
                    have hs2 := kc.first_succ f U x all k r hr
                    obtain ⟨pr2, off2, c2, kv, vv, hA, -, -, hpr2, a0, -, a2, a3, -, -, hkk, -, hio2, -⟩ := HRW.out.at' hr
                    obtain ⟨Ar, cr, rfl, hra, hr1, hr2, -⟩ := hkk
                    rw [← HK.out] at hA
                    obtain ⟨⟨rfl, rfl⟩, rfl⟩ : (pr = pr2 ∧ off = off2) ∧ c5 = c2 := by simpa using hA
                    clear hA
                    unfold i64ok at hio2
                    have hcr := fun q => conv_any (c := cr) Try.underlying23 Try.underlying5 Try.underlying9 r.key rfl (hra.drew q)
                    have hcx := HCX.out
                    have hkr : r.key.length ≤ 9223372036854775807 := by unfold maxLen at hr2; omega
                    have HS := Lib.hid (And.intro hs1 hs2); clear hs1 hs2 hr hra
                    have d0 : (W.drewN qd).cell? ⟨pr, off + k * 6, none⟩ = some (.int .i64 r.off) := a0
                    have d2 : (W.drewN qd).cell? ⟨pr, off + k * 6 + 2, none⟩ = some (.bool r.hasKey) := a2
                    have d3 : (W.drewN qd).cell? ⟨pr, off + k * 6 + 3, none⟩ = some (.slice Ar r.key.length cr) := a3
                    generalize hlr : r.key.length = lr at *
                    generalize kc.want f U x x.off (all.take k) = wv at *
                    have hcase : (kc.hit f U x r = false ∧ (r.hasKey = false ∨ (r.hasKey = true ∧ ((strOf r.key).toList == (strOf x.key).toList) = false) ∨ (r.hasKey = true ∧ strOf r.key = strOf x.key ∧ decide (f ≤ r.off) = false) ∨ (r.hasKey = true ∧ strOf r.key = strOf x.key ∧ decide (f ≤ r.off) = true ∧ decide (r.off < U) = false))) ∨
                        (kc.hit f U x r = true ∧ r.hasKey = true ∧ strOf r.key = strOf x.key ∧ decide (f ≤ r.off) = true ∧ decide (r.off < U) = true) := by
                      unfold kc.hit kc.win kb.use
                      cases r.hasKey with
                      | false => exact .inl ⟨rfl, .inl rfl⟩
                      | true =>
                        by_cases e : strOf r.key = strOf x.key
                        · rw [decide_eq_true e]
                          cases h1 : decide (f ≤ r.off) with
                          | false => exact .inl ⟨rfl, .inr (.inr (.inl ⟨rfl, e, rfl⟩))⟩
                          | true =>
                            cases h2 : decide (r.off < U) with
                            | false => exact .inl ⟨rfl, .inr (.inr (.inr ⟨rfl, e, rfl, rfl⟩))⟩
                            | true => exact .inr ⟨rfl, rfl, e, rfl, rfl⟩
                        · exact .inl ⟨by rw [decide_eq_false e, Bool.and_false], .inr (.inl ⟨rfl, text_ne e⟩)⟩
                    rcases hcase with ⟨hno, hcs4⟩ | ⟨hyes, hh1, hh2, hh3, hh4⟩
                    · as_aux_lemma =>
                        have hs := HS.out
                        rw [hno, if_neg (by simp), if_neg (by simp)] at hs
                        have HS2 := Lib.hid hs; clear hs HS hno
                        generalize kc.first f U x (all.take k) = fb at *
                        rcases hcs4 with h1 | ⟨h1, h2⟩ | ⟨h1, h2, h3⟩ | ⟨h1, h2, h3, h4⟩
                        all_goals
                          rw [h1] at d2 a2
                          (first | (rw [h2] at hcr; clear h2) | skip)
                          go_wp2_with fail
                          go_quiet (fail)
                          go_wp2_with fail
                          go_roundg g2
                          case measure => omega
                          case rel => exact ⟨k + 1, _, by omega, by rw [HS2.out.1], by rw [HS2.out.2], by go_num, rfl⟩
                    · as_aux_lemma =>
                        have hs := HS.out
                        rw [hyes, if_pos rfl, if_pos rfl] at hs
                        rw [hh1] at d2 a2
                        rw [hh2] at hcr
                        clear hh2
                        obtain ⟨X, hX⟩ : ∃ X, (if wv < r.off then r.off else wv) = X := ⟨_, rfl⟩
                        have hX2 : max wv r.off = X := by rw [← hX]; split <;> omega
                        rw [hX2] at hs
                        have HS2 := Lib.hid hs; clear hs HS hyes hX2
                        generalize kc.first f U x (all.take k) = fb at *
                        cases fb with
                        | false =>
                          go_wp2_with fail
                          go_quiet (fail)
                          go_wp2_with fail
                          go_quiet (fail)
                          go_wp2_with fail
                          go_roundg g2
                          case measure => omega
                          case rel => exact ⟨k + 1, _, by omega, by rw [HS2.out.1], by rw [HS2.out.2]; rfl, by go_num, rfl⟩
                        | true =>
                          go_wp2_with fail
                          go_quiet (fail)
                          go_wp2_with fail
                          go_quiet (fail)
                          go_wp2_with fail
                          go_roundg g2
                          case measure => omega
                          case rel => exact ⟨k + 1, _, by omega, by rw [HS2.out.1], by rw [HS2.out.2, Bool.true_and], by go_num, rfl⟩
          · as_aux_lemma =>
              have hno := kc.count_no HXX.out.1 hw
              have hcn : kc.cnt f U all (i + 1) = kc.cnt f U all i := hno
              have hcases : x.hasKey = false ∨ (x.hasKey = true ∧ x.off < f) ∨ (x.hasKey = true ∧ ¬ x.off < f ∧ U ≤ x.off) := by
                unfold kc.win kb.use at hw
                cases hh : x.hasKey with
                | false => exact .inl rfl
                | true =>
                  rw [hh] at hw
                  by_cases h1 : x.off < f
                  · exact .inr (.inl ⟨rfl, h1⟩)
                  · by_cases h2 : U ≤ x.off
                    · exact .inr (.inr ⟨rfl, h1, h2⟩)
                    · exact absurd (by rw [decide_eq_true (show f ≤ x.off by omega), decide_eq_true (show x.off < U by omega)]; rfl) hw
              have HCN := Lib.hid hcn; clear hcn hno hw
              rcases hcases with hh | ⟨hh, h1⟩ | ⟨hh, h1, h2⟩
              all_goals
                rw [hh] at a2 HXX
                go_wp2_with fail
                go_roundg gas
                case measure => omega
                case rel => exact ⟨i + 1, by omega, by rw [HCN.out], by go_num, HXX.out.2.1⟩
theorem kc.lawCoversAll (A : Option Addr) (n c : Nat) (bs : List Bat) (f most : Int) (w : World) (m : bs.length = n ∧ n ≤ c ∧ c ≤ maxLen) (h : BatsAt w A bs) (hf : -9223372036854775808 ≤ f ∧ f ≤ 9223372036854775807) (hm : -9223372036854775808 ≤ most ∧ most ≤ 9223372036854775807) :
    Calls Try.prog 5 #[.slice A n c, .int .i64 f, .int .i64 most] w fun e w' => e = .returned (.bool true) ∧ Below w.heap.size w w' :=
  kc.lawCovers A n c bs f most w h m.1 m.2 hf hm
end Go.Proofs.Ytbbekgliaedigaa

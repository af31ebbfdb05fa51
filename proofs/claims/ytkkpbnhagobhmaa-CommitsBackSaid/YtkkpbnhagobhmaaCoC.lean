/- commits: CommitsBack's law, its walk (chapter 18). -/
import Derived.BigQuiet
import Derived.Test.YtkkpbnhagobhmaaCoB
import Derived.Test.YtkkpbnhagobhmaaCoD
import Derived.Test.YtkkpbnhagobhmaaPlanE
import Derived.Deep.Cut
import Derived.Deep.CutRange
import Derived.Deep.CutBlock
namespace Go.Proofs.Ytkkpbnhagobhmaa
open Go.RowKit Go.Maps
set_option maxRecDepth 100000
set_option maxHeartbeats 16000000 in
theorem law18.back (A : Option Addr) (N c : Nat) (xs : List MStep) (w : World) (hx : xs.length = N ∧ N ≤ c ∧ c ≤ maxLen) (hat : MSteps w A xs) :
    Calls Try.prog 5 #[.slice A N c] w fun en w' => en = .returned (.bool true) ∧ Below w.heap.size w w' := by
  have hsm := law18.small_any A N c xs w hx hat
  obtain ⟨i0, hi0, hz0, hz1, hz2⟩ := info_parts co.infoRec
  have HI := Lib.hid (And.intro hi0 (And.intro hz0 (And.intro hz1 hz2))); clear hi0 hz0 hz1 hz2
  have H := Lib.hid (And.intro hsm (And.intro hx hat)); clear hsm hx hat
  go_enter Try.func5, Try.ntmps5
  go_wp2_with fail
  refine H.out.1.mono ?_
  rintro en w1 ⟨⟨r, rfl, hr⟩, hb1⟩
  cases r with
  | false =>
    have HB := Lib.hid hb1; clear hb1 hr
    go_wp2_with fail
    refine (law18.awake_any w1).mono ?_
    rintro en w2 ⟨rfl, h2⟩
    have HB2 := Lib.hid (HB.out.trans (h2.mono HB.out.size)); clear h2
    go_wp2_with fail
    go_ret
    exact ⟨rfl, HB2.out⟩
  | true =>
  have hsml := hr rfl
  have hN : N ≤ 80 := hsml.1
  have HSM := Lib.hid hsml.2
  have HB := Lib.hid hb1; clear hb1 hr hsml
  go_wp2_with fail
  refine (cm.new_any w1).mono ?_
  rintro en w2 ⟨rfl, ht2, hb2⟩
  have G2 := Lib.hid (And.intro ht2 hb2); clear ht2 hb2
  go_wp2_with fail
  refine (cm.new_any w2).mono ?_
  rintro en w3 ⟨rfl, ht3, hb3⟩
  have G3 := Lib.hid (And.intro ht3 hb3); clear ht3 hb3
  go_wp2_with fail
  refine (cm.new_any w3).mono ?_
  rintro en w4 ⟨rfl, ht4, hb4⟩
  obtain ⟨q, hq⟩ : ∃ q : Tri, q = ⟨w1.heap.size + 2, w1.heap.size, w1.heap.size + 1, w2.heap.size + 2, w2.heap.size, w2.heap.size + 1, w3.heap.size + 2, w3.heap.size, w3.heap.size + 1, w4.heap.size⟩ := ⟨_, rfl⟩
  have hst : co.One w w4 q 0 (.slice none 0 0) := by
    refine ⟨[], [], ⟨rfl, fun i a X h => by cases h⟩, List.Pairwise.nil, Nat.le_refl _, ?_⟩
    have l2 := G2.out.1.lt
    have l3 := G3.out.1.lt
    have l4 := ht4.lt
    have s1 := HB.out.size
    have hb34 := G3.out.2.trans (hb4.mono G3.out.2.size)
    rw [hq]
    exact ⟨G2.out.1.below hb34, G3.out.1.below hb4, ht4, RowR.nil _ _, (HB.out.trans (G2.out.2.mono s1)).trans (hb34.mono (Nat.le_trans s1 G2.out.2.size)), Nat.le_refl _, by dsimp only; omega⟩
  have hp1 : w1.heap.size + 2 = q.p1 := by rw [hq]
  have hp2 : w2.heap.size + 2 = q.p2 := by rw [hq]
  have hp3 : w3.heap.size + 2 = q.p3 := by rw [hq]
  rw [hp1, hp2, hp3]
  have HST := Lib.hid hst; clear hst hq hp1 hp2 hp3 hb4 ht4 G2 G3 HB
  obtain ⟨P1, h1⟩ : ∃ p, p = q.p1 := ⟨_, rfl⟩
  obtain ⟨P2, h2⟩ : ∃ p, p = q.p2 := ⟨_, rfl⟩
  obtain ⟨P3, h3⟩ : ∃ p, p = q.p3 := ⟨_, rfl⟩
  rw [← h1, ← h2, ← h3]
  have HP := Lib.hid (And.intro h1 (And.intro h2 h3)); clear h1 h2 h3
  go_upto_region 7 with fail
  go_wp2_with fail
  go_loopw [6, 7, 8, 9, 10, 11] (fun rs i _ _ _ _ wx => ∃ k : Nat, k ≤ N ∧ i = .int .i64 (k : Int) ∧ co.One w wx q k rs) (fun _ i _ _ _ _ _ => N - (intOf i).toNat)
  case atStart => exact ⟨0, by omega, rfl, HST.out⟩
  case round =>
    obtain ⟨k, hk, rfl, ac, l, hof, hup, hlk, hco⟩ := hrel
    have HLK := Lib.hid hlk; clear hlk
    clear HST
    by_cases hlt : k < N
    · have hlt' : (k : Int) < (N : Int) := by omega
      have hkx : k < xs.length := by rw [H.out.2.1.1]; exact hlt
      obtain ⟨x, hxx⟩ : ∃ x, xs[k]? = some x := ⟨_, List.getElem?_eq_getElem hkx⟩
      obtain ⟨b, off, kv, vv, rfl, hbw, c0, c1, c2, c3, c4, c5, -, -, -, -, -, -, -, -, hok⟩ := H.out.2.2.at' k hxx
      obtain ⟨kind, ent, gn, rec⟩ := x
      obtain ⟨g, t, p, o⟩ := ent
      simp only [MStep.okay, CEnt.fit, CEnt.bd] at c0 c1 c2 c3 c4 c5 hok
      obtain ⟨hok1, hok2, hok3, hok4, -⟩ := hok
      have HC := Lib.hid (fun (W : World) (hb : Below w.heap.size w W) => show (W.cell? ⟨b, off + k * 12, none⟩ = some (.int .i64 kind) ∧ W.cell? ⟨b, off + k * 12 + 1, none⟩ = some (.string g) ∧ W.cell? ⟨b, off + k * 12 + 2, none⟩ = some (.string t) ∧ W.cell? ⟨b, off + k * 12 + 3, none⟩ = some (.int .i64 p) ∧ W.cell? ⟨b, off + k * 12 + 4, none⟩ = some (.int .i64 o) ∧ W.cell? ⟨b, off + k * 12 + 5, none⟩ = some (.int .i64 gn) ∧ b < W.heap.size) from
        ⟨co.cell hb hbw c0, co.cell hb hbw c1, co.cell hb hbw c2, co.cell hb hbw c3, co.cell hb hbw c4, co.cell hb hbw c5, Nat.lt_of_lt_of_le hbw hb.size⟩)
      clear c0 c1 c2 c3 c4 c5
      obtain ⟨c0, c1, c2, c3, c4, c5, hbb⟩ := HC.out wr hco.bel
      have C := Lib.hid (And.intro hof (And.intro hup hco)); clear hof hup hco hxx hkx
      have OK := Lib.hid (And.intro hok2 (And.intro hok3 hok4)); clear hok1 hok2 hok3 hok4 hbw
      obtain ⟨V0, hV0⟩ : ∃ T, T = co.all CTab.zero ac := ⟨_, rfl⟩
      rw [← hV0] at C
      have HV0 := Lib.hid hV0; clear hV0
      by_cases k1 : kind = 1
      · subst k1
        have e1 : ((1 : Int) == 1) = true := rfl
        go_wp2_with fail
        refine (cm.made_any ⟨g, t, p, o⟩ wr).mono ?_
        rintro en v1 ⟨rfl, h1⟩
        clear c0 c1 c2 c3 c4 c5 hbb
        have D1 := Lib.hid (C.out.2.2.below h1); clear h1
        cases hoe : (⟨g, t, p, o⟩ : CEnt).ok with
        | false =>
          as_aux_lemma =>
          go_wp2_with fail
          refine (cm.put_bad ⟨g, t, p, o⟩ P1 v1 OK.out.1 hoe).mono ?_
          rintro en v2 ⟨rfl, h2⟩
          have D2 := Lib.hid (D1.out.below h2); clear h2
          obtain ⟨c0, c1, c2, c3, c4, c5, hbb⟩ := HC.out v2 D2.out.bel
          have REL := Lib.hid (show ∀ wz, Below v2.heap.size v2 wz → co.One w wz q (k + 1) u6 from fun wz hz => ⟨ac, l, C.out.1, C.out.2.1, Nat.le_succ_of_le HLK.out, by rw [← HV0.out]; exact (D2.out.below hz).up (by omega)⟩)
          go_upto_region 15 with fail
          go_quiet (fail)
          go_wp2_with fail
          go_roundw
          case rel => exact ⟨k + 1, by omega, by go_num, REL.out _ (bdrew (Below.refl _ _) _)⟩
          case measure => simp [intOf]; omega
        | true =>
          as_aux_lemma =>
          obtain ⟨x, hx1, hx2, hx3, hput⟩ := cm.puts _ hoe
          have hpp := hput v1 q.p1 q.o1 q.f1 V0 (2 * k) D1.out.ta (by unfold maxLen; omega)
          rw [← CTab.app_put V0 hx1 hx2 hx3, ← HP.out.1] at hpp
          have HPP := Lib.hid hpp; clear hpp hput hx1 hx2 hx3
          go_wp2_with fail
          refine HPP.out.mono ?_
          rintro en v2 ⟨rfl, ht2, hc2⟩
          have D2 := Lib.hid (D1.out.doA (by rw [← HP.out.1]; exact ht2) hc2); clear ht2 hc2
          obtain ⟨c0, c1, c2, c3, c4, c5, hbb⟩ := HC.out v2 D2.out.bel
          go_wp2_with fail
          clear c0 c1 c2 c3 c4 c5 hbb
          refine (cm.made_any ⟨g, t, p, o⟩ v2).mono ?_
          rintro en v3 ⟨rfl, h3⟩
          have D3 := Lib.hid (D2.out.below h3); clear h3
          have hrc := cm.record_any ⟨g, t, p, o⟩ (k : Int) v3 OK.out.1
          have hmay : (⟨g, t, p, o⟩ : CEnt).may (k : Int) = true := by unfold CEnt.may; rw [hoe, cm.now_ok (by omega) (by omega)]; rfl
          simp only [if_pos hmay] at hrc
          have AC := Lib.hid (And.intro (cm.act_told (k : Int) hoe) (And.intro (show co.Of (.put ⟨g, t, p, o⟩) ((⟨g, t, p, o⟩ : CEnt).told (k : Int)) from ⟨hoe, _, rfl⟩) (And.intro D3.out.size (And.intro (show i64ok ((⟨g, t, p, o⟩ : CEnt).told (k : Int)).time from by unfold i64ok; show _ ≤ (k : Int) ∧ (k : Int) ≤ _; omega) (show l.length ≤ 100000 from by have := HLK.out; omega)))))
          have HUP := Lib.hid (show ∀ g2 n2, (CAct.put ⟨g, t, p, o⟩) = .up g2 n2 → V0.flo g2 < n2 from fun _ _ h => by cases h)
          have HRC := Lib.hid hrc; clear hrc hmay
          go_wp2_with fail
          refine HRC.out.mono ?_
          rintro en v4 ⟨⟨v, rfl, hv, hnew⟩, h4⟩
          have DROW0 := Lib.hid D3.out.own
          have D4 := Lib.hid (D3.out.below h4)
          have h4s := h4.size
          clear h4 HRC
          obtain ⟨xo, xt, xk, xv, Ak, nk, ck, Au, nu, cu, rfl, rfl, rfl, rfl, rfl, hk1, hu1⟩ := hv.shown2
          have K4 := Lib.hid (And.intro hv (And.intro hk1 (And.intro hu1 (And.intro hnew.locs h4s)))); clear hv hk1 hu1 hnew h4s
          simp only [CEnt.told] at K4 ⊢
          go_upto_region 12 with fail
          obtain ⟨b5, hb5⟩ : ∃ b, b = v4.heap.size := ⟨_, rfl⟩
          obtain ⟨w5, hw5⟩ : ∃ w', w' = v4.alloc (.cells #[.int .i64 0, .int .i64 (k : Int), .bool true, .slice Ak nk ck, .bool true, .slice Au nu cu] 37) := ⟨_, rfl⟩
          have h5 : Below v4.heap.size v4 w5 := by rw [hw5]; exact (Below.refl _ _).alloc (Nat.le_refl _) _
          have hk5 : Blk w5 b5 37 #[.int .i64 0, .int .i64 (k : Int), .bool true, .slice Ak nk ck, .bool true, .slice Au nu cu] := by rw [hw5, hb5]; exact Blk.new _ _ _
          have hb5B : q.B ≤ b5 := by rw [hb5]; exact D4.out.size
          have K5 := Lib.hid (And.intro hk5 (And.intro (K4.out.1.below h5 (Nat.le_refl _)) (And.intro (K4.out.2.1.below h5 (Nat.le_refl _)) (And.intro (K4.out.2.2.1.below h5 (Nat.le_refl _)) (And.intro hb5B (And.intro (show v3.heap.size ≤ w5.heap.size from Nat.le_trans K4.out.2.2.2.2 h5.size) (And.intro (K4.out.2.2.2.1.1.up (Nat.le_refl _) h5.size) (K4.out.2.2.2.1.2.up (Nat.le_refl _) h5.size))))))))
          have D5 := Lib.hid (D4.out.below h5)
          rw [← hw5, ← hb5]
          clear hw5 hb5 h5 hk5 hb5B K4 D4
          have DROW := DROW0
          obtain ⟨M, hM⟩ : ∃ M, M = v3.heap.size := ⟨_, rfl⟩
          rw [← hM] at K5 AC DROW
          clear DROW0 hM
          have d0 := K5.out.1.cell 0 (v := .int .i64 0) rfl
          have d1 := K5.out.1.cell 1 (v := .int .i64 (k : Int)) rfl
          have d2 := K5.out.1.cell 2 (v := .bool true) rfl
          have d3 := K5.out.1.cell 3 (v := .slice Ak nk ck) rfl
          have d4 := K5.out.1.cell 4 (v := .bool true) rfl
          have d5 := K5.out.1.cell 5 (v := .slice Au nu cu) rfl
          have dl := K5.out.1.lt
          have hap := cm.apply_any _ ((⟨g, t, p, o⟩ : CEnt).told (k : Int)) q.p2 q.o2 q.f2 V0 (2 * k + 1) w5 K5.out.2.1 D5.out.tb (by unfold maxLen; omega)
          rw [AC.out.1, show cm.code (some (.put ⟨g, t, p, o⟩)) = 0 from rfl, show V0.app (some (.put ⟨g, t, p, o⟩)) = V0.does (.put ⟨g, t, p, o⟩) from rfl] at hap
          rw [← HP.out.2.1] at hap
          have HAP := Lib.hid hap; clear hap
          go_cut [8, 76] from 35 to 146 (fun s8 s76 wx => s8 = .pointer (some ⟨b5, 0, none⟩) ∧ s76 = .bool false ∧ co.Ready w wx q (V0.does (.put ⟨g, t, p, o⟩)) (V0.does (.put ⟨g, t, p, o⟩)) (2 * k + 2) u6 l b5 M Ak nk ck Au nu cu (k : Int) ((⟨g, t, p, o⟩ : CEnt).told (k : Int)))
          case first =>
            as_aux_lemma =>
            go_wp2_with fail
            refine HAP.out.mono ?_
            rintro en w6 ⟨rfl, ht6, hc6⟩
            clear d0 d1 d2 d3 d4 d5 dl
            have D6 := D5.out.doB (by rw [← HP.out.2.1]; exact ht6) hc6
            have ord := D5.out.ord
            have hk6 := hc6.blk K5.out.1 (fun h => by have := K5.out.2.2.2.2.1; omega)
            have R6 := Lib.hid (show co.Ready w w6 q (V0.does (.put ⟨g, t, p, o⟩)) (V0.does (.put ⟨g, t, p, o⟩)) (2 * k + 2) u6 l b5 M Ak nk ck Au nu cu (k : Int) ((⟨g, t, p, o⟩ : CEnt).told (k : Int)) from ⟨D6, hk6, BytesV.tab K5.out.2.2.1 D5.out.tb hc6, BytesV.tab K5.out.2.2.2.1 D5.out.tb hc6, K5.out.2.2.2.2.2.2.1.up (Nat.le_refl _) hc6.size, K5.out.2.2.2.2.2.2.2.up (Nat.le_refl _) hc6.size⟩)
            clear D6 hk6 ht6 hc6 ord HAP
            go_wp2_with fail
            go_meet
            case rel => exact ⟨rfl, rfl, R6.out⟩
          case rest =>
          clear d0 d1 d2 d3 d4 d5 dl
          clear HAP K5 D5
          obtain ⟨rfl, rfl, D6, hk6, hbk6, hbu6, hlk6, hlu6⟩ := hcut
          have K6 := Lib.hid (And.intro hk6 (And.intro hbk6 (And.intro hbu6 (And.intro hlk6 hlu6)))); clear hk6 hbk6 hbu6 hlk6 hlu6
          obtain ⟨w6, hw6⟩ : ∃ x, x = wc := ⟨_, rfl⟩
          subst hw6
          obtain ⟨ys, hown0, hcells0⟩ := id D6.row
          obtain ⟨Ar, cr, hrs, -, -⟩ := own_at hown0
          subst hrs
          clear hown0 hcells0
          obtain ⟨j, hj⟩ : ∃ j, j = l.length := ⟨_, rfl⟩
          have D6 := Lib.hid D6
          rw [← hj] at D6 DROW ⊢
          have HJ := Lib.hid (And.intro hj C.out.1.1); clear hj
          have d0 := K6.out.1.cell 0 (v := .int .i64 0) rfl
          have d1 := K6.out.1.cell 1 (v := .int .i64 (k : Int)) rfl
          have d2 := K6.out.1.cell 2 (v := .bool true) rfl
          have d3 := K6.out.1.cell 3 (v := .slice Ak nk ck) rfl
          have d4 := K6.out.1.cell 4 (v := .bool true) rfl
          have d5 := K6.out.1.cell 5 (v := .slice Au nu cu) rfl
          have dl := K6.out.1.lt
          obtain ⟨w7, hw7⟩ : ∃ w', w' = w6.alloc (.cells #[.int .i64 0, .int .i64 (k : Int), .bool true, .slice Ak nk ck, .bool true, .slice Au nu cu] 37) := ⟨_, rfl⟩
          have hb7 : Below w6.heap.size w6 w7 := by rw [hw7]; exact (Below.refl _ _).alloc (Nat.le_refl _) _
          have hs7 : w7.heap.size = w6.heap.size + 1 := by rw [hw7]; simp
          obtain ⟨xs7, hown, hcells⟩ := D6.out.row.below hb7
          rw [← HJ.out.1] at hown
          have hcell := co.cells_new w6 [.int .i64 0, .int .i64 (k : Int), .bool true, .slice Ak nk ck, .bool true, .slice Au nu cu] 37 w6.heap.size rfl
          have hbk := K6.out.2.1.below hb7 (Nat.le_refl _)
          have hbu := K6.out.2.2.1.below hb7 (Nat.le_refl _)
          have hlk := K6.out.2.2.2.1.up (Nat.le_refl _) hb7.size
          have hlu := K6.out.2.2.2.2.up (Nat.le_refl _) hb7.size
          have HW7 := Lib.hid (And.intro hw7 (And.intro hb7 (And.intro hs7 (And.intro hown (And.intro hcells (And.intro hcell (And.intro hbk (And.intro hbu (And.intro hlk hlu))))))))); clear hw7 hb7 hs7 hown hcells hcell hbk hbu hlk hlu
          have hj80 : j ≤ 100000 := by have h1 := C.out.1.1; have h2 := HJ.out.1; have h3 := AC.out.2.2.2.2; omega
          iterate 3 go_step
          go_upto_region 14 with fail
          iterate 4 go_step
          refine wpList_load_row rfl 37 (.tmp 8) rfl b5 rfl 37 #[.int .i64 0, .int .i64 (k : Int), .bool true, .slice Ak nk ck, .bool true, .slice Au nu cu] (0, 0) _ K6.out.1 Try.underlying37 rfl cm.info_rec ?_
          go_simp
          refine co.list_build _ rfl (.tmp 78) rfl 0 (k : Int) true true Ak Au nk nu ck cu rfl ?_
          go_simp
          rw [← HW7.out.1]
          refine wpList_append_own_at _ rfl (.tmp 77) (.tmp 79) 62 rfl q.B 37 i0 _ 6 80 Try.underlying62 HI.out.1 HI.out.2.1 HI.out.2.2.1 HI.out.2.2.2 rfl (by decide) (.slice Ar j cr) j xs7 rfl HW7.out.2.2.2.1 ⟨w6.heap.size, 0, none⟩ 1 1 [.int .i64 0, .int .i64 (k : Int), .bool true, .slice Ak nk ck, .bool true, .slice Au nu cu] rfl rfl (by rw [HW7.out.1]; exact HW7.out.2.2.2.2.2.1) (by simp [Value.oneCell']) (by unfold maxLen; omega) (by omega) (Nat.le_trans D6.out.size HW7.out.2.1.size) ?_
          intro v2 w8 h1 h2 _ h3
          have HV := Lib.hid (And.intro h1 (And.intro h2 h3))
          clear h1 h2 h3
          go_simp
          have D8 := co.grow (X := ((⟨g, t, p, o⟩ : CEnt).told (k : Int))) D6.out HJ.out.1.symm HW7.out.2.1 AC.out.2.2.1 DROW.out HW7.out.2.2.2.2.2.2.1 HW7.out.2.2.2.2.2.2.2.1 HW7.out.2.2.2.2.2.2.2.2.1 HW7.out.2.2.2.2.2.2.2.2.2 (by unfold i64ok; show (-9223372036854775808 : Int) ≤ 0 ∧ (0 : Int) ≤ 9223372036854775807; decide) AC.out.2.2.2.1 HW7.out.2.2.2.1 HW7.out.2.2.2.2.1 HV.out.1 HV.out.2.1 HV.out.2.2
          have D8 := Lib.hid D8
          clear d0 d1 d2 d3 d4 d5 dl
          clear HW7 K6
          have REL := Lib.hid (show ∀ wz, Below w8.heap.size w8 wz → co.One w wz q (k + 1) v2 from fun wz hz => ⟨ac ++ [.put ⟨g, t, p, o⟩], l ++ [((⟨g, t, p, o⟩ : CEnt).told (k : Int))], C.out.1.snoc AC.out.2.1, co.up_snoc C.out.1.good C.out.2.1 (by rw [← HV0.out]; exact HUP.out), by have := HLK.out; simp; omega, by rw [co.all_snoc, ← HV0.out]; exact (D8.out.below hz).up (by omega)⟩)
          obtain ⟨c0, c1, c2, c3, c4, c5, hbb⟩ := HC.out w8 D8.out.bel
          repeat go_step
          go_quiet (fail)
          go_wp2_with fail
          go_roundw
          case rel => exact ⟨k + 1, by omega, by go_num, REL.out _ (bdrew (Below.refl _ _) _)⟩
          case measure => simp [intOf]; omega
  
      · have e1 : (kind == 1) = false := by simpa using k1
        by_cases k2 : kind = 2
        · subst k2
          have e1 : ((2 : Int) == 1) = false := rfl
          have e2 : ((2 : Int) == 2) = true := rfl
          obtain ⟨F, hF⟩ : ∃ F, F = V0.flo g := ⟨_, rfl⟩
          have hfl0 : ∀ W, Chg wr W (fun _ => False) → Calls Try.prog 18 #[.pointer (some ⟨P1, 0, none⟩), .string g] W fun e w' => e = .returned (.int .i64 F) ∧ W = w' := fun W hc => by
            rw [hF, HP.out.1]
            exact cm.floor_any g OK.out.1.1 q.p1 q.o1 q.f1 V0 (2 * k) W (C.out.2.2.ta.keep hc (fun h => h) (fun h => h) fun h => h)
          have HFL0 := Lib.hid hfl0; clear hfl0
          have HFL := Lib.hid (fun m => HFL0.out (wr.drewN m) ((Chg.refl _ _).drewN m))
          have HF := Lib.hid hF; clear hF
          have REL := Lib.hid (show ∀ wz, Below wr.heap.size wr wz → co.One w wz q (k + 1) u6 from fun wz hz => ⟨ac, l, C.out.1, C.out.2.1, Nat.le_succ_of_le HLK.out, by rw [← HV0.out]; exact (C.out.2.2.below hz).up (by omega)⟩)
          by_cases hnum : F < gn
          · have d1 : decide (F < gn) = true := decide_eq_true hnum
            cases hog : cm.gen g gn with
            | false =>
              as_aux_lemma =>
              have HGB := Lib.hid (fun m => cm.tgen_bad g gn P1 (wr.drewN m) OK.out.1.1 hog)
              go_upto_region 15 with fail
              go_quiet (first | (go_at_call 14; with_reducible exact Calls.quiet_of_same ((HGB.out _).mono fun _ _ h => ⟨h.1, h.2.symm⟩)) | (go_at_call 18; with_reducible exact Calls.quiet_of_same ((HFL.out _).mono fun _ _ h => ⟨h.1, h.2.symm⟩)))
              go_wp2_with fail
              go_roundw
              case rel => exact ⟨k + 1, by omega, by go_num, REL.out _ (bdrew (Below.refl _ _) _)⟩
              case measure => simp [intOf]; omega
            | true =>
              as_aux_lemma =>
              clear REL
              have ord := C.out.2.2.ord
              have hcl : ∀ y : Later wr (fun j => j = q.o1 ∨ j = q.f1), y.1.cell? ⟨b, off + k * 12, none⟩ = some (.int .i64 2) ∧ y.1.cell? ⟨b, off + k * 12 + 1, none⟩ = some (.string g) ∧ y.1.cell? ⟨b, off + k * 12 + 5, none⟩ = some (.int .i64 gn) := fun y => by
                obtain ⟨a0, a1, -, -, -, a5, -⟩ := HC.out y.1 (C.out.2.2.bel.trans (y.2.below C.out.2.2.bel.size fun j hj => by omega))
                exact ⟨a0, a1, a5⟩
              have z0 : ∀ y : Later wr (fun j => j = q.o1 ∨ j = q.f1), y.1.cell? ⟨b, off + k * 12, none⟩ = some (.int .i64 2) := fun y => (hcl y).1
              have z1 : ∀ y : Later wr (fun j => j = q.o1 ∨ j = q.f1), y.1.cell? ⟨b, off + k * 12 + 1, none⟩ = some (.string g) := fun y => (hcl y).2.1
              have z5 : ∀ y : Later wr (fun j => j = q.o1 ∨ j = q.f1), y.1.cell? ⟨b, off + k * 12 + 5, none⟩ = some (.int .i64 gn) := fun y => (hcl y).2.2
              clear hcl ord
              have hgen := cm.tgen_ok g gn q.p1 q.o1 q.f1 V0 (2 * k) wr.drew (C.out.2.2.ta.keep ((Chg.refl wr (fun _ => False)).drew) (fun h => h) (fun h => h) fun h => h) hog (by unfold maxLen; omega)
              rw [← HP.out.1] at hgen
              have HGEN := Lib.hid hgen; clear hgen
              go_upto_region 15 with fail
              have hS0 : later wr (fun j => j = q.o1 ∨ j = q.f1) wr.drew := later_of ((Chg.refl _ _).drew)
              refine wp_plan (S := fun w0 => ∃ y : Later wr (fun j => j = q.o1 ∨ j = q.f1), w0 = y.1) (by kernel_rfl) hS0 ?_
              intro hS' K5 hK5
              have HS := Lib.hid hS'; clear hS' hS0
              refine plan_group [true, true, true, true, true, true, true, true, true, true, true, true, true, true, true, true, true, true, true] [0, 1, 2, 3, 4, 5, 6, 7, 8, 9, 10, 11, 12, 13, 14, 15, 16, 17, 18] 19 (by dsimp only [sel]) (by rfl) rfl (by kernel_rfl) (by kernel_rfl) HS.out ?_
              (repeat go_big_quiet_step (fail)); refine wpQuiet_nil ?_
              refine plan_one [false, false, false, false, false, false, false, false, false, false, false, false, false, false, false, false, false, false, false, true] 19 18 (by dsimp only [sel]) (by rfl) rfl (by kernel_rfl) ?_; intro K1 hK1
              go_wp2_with (refine (HFL0.out wr.drew ((Chg.refl _ _).drew)).mono ?_; rintro en wy ⟨rfl, h3⟩; subst h3)
              refine ⟨by first | exact HS.out | exact fun _ => HS.out, ?_⟩
              refine plan_group [false, false, false, false, false, false, false, false, false, false, false, false, false, false, false, false, false, false, false, false, true, true, true, true, true, true, true, true, true, true, true, true, true, true, true] [20, 21, 22, 23, 24, 25, 26, 27, 28, 29, 30, 31, 32, 33, 34] 3 (by dsimp only [sel]) (by rfl) rfl (by kernel_rfl) (by kernel_rfl) HS.out ?_
              (repeat go_big_quiet_step (fail)); refine wpQuiet_nil ?_
              clear z0 z1 z5
              refine plan_one [false, false, false, false, false, false, false, false, false, false, false, false, false, false, false, false, false, false, false, false, false, false, false, false, false, false, false, false, false, false, false, false, false, false, false, true] 35 2 (by dsimp only [sel]) (by rfl) rfl (by kernel_rfl) ?_; intro K2 hK2
              go_wp2_with (refine HGEN.out.mono ?_; rintro en v2 ⟨rfl, ht2, hc2⟩; have T2 := Lib.hid (And.intro ht2 (show Chg wr v2 (fun j => j = q.o1 ∨ j = q.f1) from ((Chg.refl wr _).drew).trans hc2 fun _ _ h => h)); clear ht2 hc2)
              refine ⟨by first | exact later_of T2.out.2 | exact fun _ => later_of T2.out.2, ?_⟩
              refine plan_group [false, false, false, false, false, false, false, false, false, false, false, false, false, false, false, false, false, false, false, false, false, false, false, false, false, false, false, false, false, false, false, false, false, false, false, false, true, true] [36, 37] 0 (by dsimp only [sel]) (by rfl) rfl (by kernel_rfl) (by kernel_rfl) (later_of T2.out.2) ?_
              (repeat go_big_quiet_step (fail)); refine wpQuiet_nil ?_
              refine wp_plan_end (by kernel_rfl) ?_
              refine hK5 _ _ ?_
              clear HS HGEN
              have D2 := Lib.hid (C.out.2.2.doA (by rw [← HP.out.1]; exact T2.out.1) T2.out.2)
              clear T2
              have hgr0 : ∀ W : World, Calls Try.prog 25 #[.string g, .int .i64 gn, .int .i64 (k : Int)] W (cm.recPostN W (cm.grec g gn (k : Int)) 0) := fun W => by
                have h := cm.genrec_any g gn (k : Int) W OK.out.1.1
                have hm : cm.gmay g gn (k : Int) = true := by unfold cm.gmay; rw [hog, cm.now_ok (by omega) (by omega)]; rfl
                simp only [if_pos hm] at h
                exact h
              have HGR := Lib.hid hgr0; clear hgr0
              have hcl : ∀ y : Later v2 (fun j => v2.heap.size ≤ j), y.1.cell? ⟨b, off + k * 12 + 1, none⟩ = some (.string g) ∧ y.1.cell? ⟨b, off + k * 12 + 5, none⟩ = some (.int .i64 gn) := fun y => by
                obtain ⟨-, a1, -, -, -, a5, -⟩ := HC.out y.1 (D2.out.bel.trans (y.2.below D2.out.bel.size fun j hj => Nat.le_trans D2.out.bel.size hj))
                exact ⟨a1, a5⟩
              have z1 : ∀ y : Later v2 (fun j => v2.heap.size ≤ j), y.1.cell? ⟨b, off + k * 12 + 1, none⟩ = some (.string g) := fun y => (hcl y).1
              have z5 : ∀ y : Later v2 (fun j => v2.heap.size ≤ j), y.1.cell? ⟨b, off + k * 12 + 5, none⟩ = some (.int .i64 gn) := fun y => (hcl y).2
              clear hcl
              clear c0 c1 c2 c3 c4 c5 hbb
              obtain ⟨-, -, -, -, -, -, hbb⟩ := HC.out v2 D2.out.bel
              go_upto_region 16 with fail
              go_cut [10, 11] from 35 to 146 (fun s10 s11 wx => co.Boxed v2 wx (cm.grec g gn (k : Int)) (k : Int) s10 s11)
              case first =>
                as_aux_lemma =>
                have hS0 : later v2 (fun j => v2.heap.size ≤ j) v2.drew := later_of ((Chg.refl _ _).drew)
                refine wp_plan (S := fun w0 => ∃ y : Later v2 (fun j => v2.heap.size ≤ j), w0 = y.1) (by kernel_rfl) hS0 ?_
                intro hS' K5 hK5
                have HS := Lib.hid hS'; clear hS' hS0
                refine plan_group [true, true, true, true, true, true, true, true, true, true, true, true] [0, 1, 2, 3, 4, 5, 6, 7, 8, 9, 10, 11] 7 (by dsimp only [sel]) (by rfl) rfl (by kernel_rfl) (by kernel_rfl) HS.out ?_
                (repeat go_big_quiet_step (fail)); refine wpQuiet_nil ?_
                clear z1 z5
                have hdr : Chg v2 v2.drew (fun _ => False) := (Chg.refl v2 _).drew
                refine plan_two [false, false, false, false, false, false, false, false, false, false, false, false, true] [false, false, false, false, false, false, false, false, false, false, false, false, false, false, false, false, true] 12 16 6 (by dsimp only [sel]) (by dsimp only [sel]) (by rfl) (by rfl) rfl (by kernel_rfl) ?_ ?_
                · intro K1 hK1
                  go_wp2_with (refine (HGR.out v2.drew).mono ?_; rintro en va ⟨⟨v, rfl, hv, hnew⟩, h3⟩; have HA := Lib.hid (And.intro hv (And.intro hnew h3)); clear hv hnew h3)
                  obtain ⟨xo, xt, xk, xv, Ak, nk, ck, Au, nu, cu, rfl, rfl, rfl, rfl, rfl, hk1, hu1⟩ := HA.out.1.shown2
                  have ca : Chg v2 va (fun _ => False) := hdr.trans (chg_of (P := fun _ => False) HA.out.2.2) fun _ _ h => h
                  have HCA := Lib.hid ca; clear ca
                  have K4 := Lib.hid (And.intro HA.out.1 (And.intro hk1 (And.intro hu1 HA.out.2.1.locs))); clear hk1 hu1 HA
                  simp only [cm.grec] at K4 ⊢
                  have HSA := Lib.hid (later_of (HCA.out.mono (Q := fun j => v2.heap.size ≤ j) fun _ _ h => h.elim))
                  refine ⟨by first | exact HSA.out | exact fun _ => HSA.out, ?_⟩
                  refine plan_group [false, false, false, false, false, false, false, false, false, false, false, false, false, true, true, true] [13, 14, 15] 3 (by dsimp only [sel]) (by rfl) rfl (by kernel_rfl) (by kernel_rfl) HSA.out ?_
                  go_simp
                  (repeat go_big_quiet_step (fail)); refine wpQuiet_nil ?_
                  refine plan_one [false, false, false, false, false, false, false, false, false, false, false, false, false, false, false, false, true] 16 2 (by dsimp only [sel]) (by rfl) rfl (by kernel_rfl) ?_; intro K2 hK2; go_wp2_with fail
                  obtain ⟨bz, hbz⟩ : ∃ b, b = va.heap.size := ⟨_, rfl⟩
                  obtain ⟨wz, hwz⟩ : ∃ wz, wz = va.alloc (.cells #[.int .i64 0, .int .i64 0, .bool false, .slice none 0 0, .bool false, .slice none 0 0] 37) := ⟨_, rfl⟩
                  rw [← hwz, ← hbz]
                  have hzz : Blk wz bz 37 #[.int .i64 0, .int .i64 0, .bool false, .slice none 0 0, .bool false, .slice none 0 0] := by rw [hwz, hbz]; exact Blk.new _ _ _
                  have hcz : Chg va wz (fun _ => False) := by rw [hwz]; exact Chg.alloc _ _ _
                  have HZ := Lib.hid (And.intro hzz (And.intro hcz hbz)); clear hzz hcz hbz hwz
                  have hcz2 : Chg v2 wz (fun j => v2.heap.size ≤ j) := (HCA.out.mono (Q := fun j => v2.heap.size ≤ j) fun _ _ h => h.elim).trans HZ.out.2.1 fun _ _ h => h.elim
                  have HSZ := Lib.hid (And.intro (later_of hcz2) hcz2); clear hcz2
                  refine ⟨by first | exact HSZ.out.1 | exact fun _ => HSZ.out.1, ?_⟩
                  refine plan_one [false, false, false, false, false, false, false, false, false, false, false, false, false, false, false, false, false, true] 17 1 (by dsimp only [sel]) (by rfl) rfl (by kernel_rfl) ?_; intro K3 hK3
                  go_wp2_with (refine wpList_store_row rfl 37 (.tmp 10) (.tmp 133) rfl bz #[.int .i64 0, .int .i64 (k : Int), .bool true, .slice Ak nk ck, .bool true, .slice Au nu cu] rfl rfl 37 _ HZ.out.1 cm.info_rec rfl (by simp [Value.oneCell']) ?_)
                  have hFIN := co.boxed_of HCA.out HZ.out.1 HZ.out.2.1 (by rw [HZ.out.2.2]; exact HCA.out.size) K4.out.2.1 K4.out.2.2.1 (K4.out.2.2.2.1.up (by simp) (Nat.le_refl _)) (K4.out.2.2.2.2.up (by simp) (Nat.le_refl _)) (k : Int) (X := cm.grec g gn (k : Int)) rfl rfl rfl rfl
                  have HFIN := Lib.hid hFIN; clear hFIN
                  have HSW := Lib.hid (later_of (HFIN.out.2))
                  refine ⟨by first | exact HSW.out | exact fun _ => HSW.out, ?_⟩
                  refine plan_group [false, false, false, false, false, false, false, false, false, false, false, false, false, false, false, false, false, false, true] [18] 0 (by dsimp only [sel]) (by rfl) rfl (by kernel_rfl) (by kernel_rfl) HSW.out ?_
                  go_simp
                  (repeat go_big_quiet_step (fail)); refine wpQuiet_nil ?_
                  refine wp_plan_end (by kernel_rfl) ?_
                  refine hK5 _ _ ?_
                  clear HS
                  go_wp2_with fail
                  go_meet
                  case rel => exact HFIN.out.1
                · intro K1 hK1
                  go_wp2_with fail
                  obtain ⟨wz, hwz⟩ : ∃ wz, wz = (v2.alloc (.cells #[.int .i64 0, .int .i64 0, .bool false, .slice none 0 0, .bool false, .slice none 0 0] 37)).drew := ⟨_, rfl⟩
                  rw [← hwz]
                  have hdz : Blk wz v2.heap.size 37 #[.int .i64 0, .int .i64 0, .bool false, .slice none 0 0, .bool false, .slice none 0 0] := by rw [hwz]; exact (Blk.new v2 _ _).drew 1
                  have hcz : Chg v2 wz (fun _ => False) := by rw [hwz]; exact (Chg.alloc v2 _ _).drew
                  have HZ := Lib.hid (And.intro hdz hcz); clear hdz hcz hwz
                  have HSZ := Lib.hid (later_of (HZ.out.2.mono (Q := fun j => v2.heap.size ≤ j) fun _ _ h => h.elim))
                  refine ⟨by first | exact HSZ.out | exact fun _ => HSZ.out | exact ⟨⟨wz, HZ.out.2.mono fun _ _ h => h.elim⟩, rfl⟩, ?_⟩
                  refine plan_one [false, false, false, false, false, false, false, false, false, false, false, false, true] 12 5 (by dsimp only [sel]) (by rfl) rfl (by kernel_rfl) ?_; intro K2 hK2
                  go_wp2_with (refine (HGR.out wz).mono ?_; rintro en va ⟨⟨v, rfl, hv, hnew⟩, h3⟩; have HA := Lib.hid (And.intro hv (And.intro hnew h3)); clear hv hnew h3)
                  obtain ⟨xo, xt, xk, xv, Ak, nk, ck, Au, nu, cu, rfl, rfl, rfl, rfl, rfl, hk1, hu1⟩ := HA.out.1.shown2
                  have ca : Chg v2 va (fun _ => False) := HZ.out.2.trans (chg_of (P := fun _ => False) HA.out.2.2) fun _ _ h => h
                  have hzz := (chg_of (P := fun _ => False) HA.out.2.2).blk HZ.out.1 fun h => h
                  have HCA := Lib.hid (And.intro ca hzz); clear ca hzz
                  have K4 := Lib.hid (And.intro HA.out.1 (And.intro hk1 (And.intro hu1 (And.intro HA.out.2.1.locs HZ.out.2.size)))); clear hk1 hu1 HA
                  simp only [cm.grec] at K4 ⊢
                  have HSA : later v2 (fun j => v2.heap.size ≤ j) va := later_of (HCA.out.1.mono fun _ _ h => h.elim)
                  refine ⟨by first | exact HSA | exact fun _ => HSA | exact ⟨⟨va, HCA.out.1.mono fun _ _ h => h.elim⟩, rfl⟩, ?_⟩
                  refine plan_group [false, false, false, false, false, false, false, false, false, false, false, false, false, true, true, true] [13, 14, 15] 2 (by dsimp only [sel]) (by rfl) rfl (by kernel_rfl) (by kernel_rfl) HSA ?_
                  go_simp
                  (repeat go_big_quiet_step (fail)); refine wpQuiet_nil ?_
                  refine plan_one [false, false, false, false, false, false, false, false, false, false, false, false, false, false, false, false, false, true] 17 1 (by dsimp only [sel]) (by rfl) rfl (by kernel_rfl) ?_; intro K3 hK3
                  go_wp2_with (refine wpList_store_row rfl 37 (.tmp 10) (.tmp 133) rfl v2.heap.size #[.int .i64 0, .int .i64 (k : Int), .bool true, .slice Ak nk ck, .bool true, .slice Au nu cu] rfl rfl 37 _ HCA.out.2 cm.info_rec rfl (by simp [Value.oneCell']) ?_)
                  have hFIN := co.boxed_of HCA.out.1 HCA.out.2 (Chg.refl _ _) (Nat.le_refl _) K4.out.2.1 K4.out.2.2.1 (K4.out.2.2.2.1.1.up K4.out.2.2.2.2 (Nat.le_refl _)) (K4.out.2.2.2.1.2.up K4.out.2.2.2.2 (Nat.le_refl _)) (k : Int) (X := cm.grec g gn (k : Int)) rfl rfl rfl rfl
                  have HFIN := Lib.hid hFIN; clear hFIN
                  have HSW := Lib.hid (later_of (HFIN.out.2))
                  refine ⟨by first | exact HSW.out | exact fun _ => HSW.out, ?_⟩
                  refine plan_group [false, false, false, false, false, false, false, false, false, false, false, false, false, false, false, false, false, false, true] [18] 0 (by dsimp only [sel]) (by rfl) rfl (by kernel_rfl) (by kernel_rfl) HSW.out ?_
                  go_simp
                  (repeat go_big_quiet_step (fail)); refine wpQuiet_nil ?_
                  refine wp_plan_end (by kernel_rfl) ?_
                  refine hK5 _ _ ?_
                  clear HS
                  go_wp2_with fail
                  go_meet
                  case rel => exact HFIN.out.1
              case rest =>
              as_aux_lemma =>
              obtain ⟨b5, Ak, nk, ck, Au, nu, cu, rfl, rfl, hk5, hv5, hbk5, hbu5, hb5, hbel5, hlk5, hlu5⟩ := hcut
              have K5 := Lib.hid (And.intro hk5 (And.intro hv5 (And.intro hbk5 (And.intro hbu5 (And.intro (Nat.le_trans D2.out.size hb5) (And.intro hbel5.size (And.intro hlk5 hlu5)))))))
              have D5 := Lib.hid (D2.out.below hbel5)
              have DROW := Lib.hid D2.out.own
              clear hk5 hv5 hbk5 hbu5 hb5 hbel5 hlk5 hlu5
              have AC := Lib.hid (And.intro (cm.act_grec (k : Int) hog) (And.intro (show co.Of (.up g gn) (cm.grec g gn (k : Int)) from ⟨hog, _, rfl⟩) (And.intro D2.out.size (And.intro (show i64ok (cm.grec g gn (k : Int)).time from by unfold i64ok; show _ ≤ (k : Int) ∧ (k : Int) ≤ _; omega) (show l.length ≤ 100000 from by have := HLK.out; omega)))))
              have HUP := Lib.hid (show ∀ g2 n2, (CAct.up g gn) = .up g2 n2 → V0.flo g2 < n2 from fun g2 n2 h => by cases h; rw [← HF.out]; exact hnum)
              obtain ⟨M, hM⟩ : ∃ M, M = v2.heap.size := ⟨_, rfl⟩
              rw [← hM] at K5 AC DROW
              clear HC D2 hM
              go_upto_region 17 with fail
              have d0 := K5.out.1.cell 0 (v := .int .i64 0) rfl
              have d1 := K5.out.1.cell 1 (v := .int .i64 (k : Int)) rfl
              have d2 := K5.out.1.cell 2 (v := .bool true) rfl
              have d3 := K5.out.1.cell 3 (v := .slice Ak nk ck) rfl
              have d4 := K5.out.1.cell 4 (v := .bool true) rfl
              have d5 := K5.out.1.cell 5 (v := .slice Au nu cu) rfl
              have dl := K5.out.1.lt
              have hap := cm.apply_any _ (cm.grec g gn (k : Int)) q.p2 q.o2 q.f2 V0 (2 * k + 1) wc K5.out.2.1 D5.out.tb (by unfold maxLen; omega)
              rw [AC.out.1, show cm.code (some (.up g gn)) = 0 from rfl, show V0.app (some (.up g gn)) = V0.does (.up g gn) from rfl] at hap
              rw [← HP.out.2.1] at hap
              have HAP := Lib.hid hap; clear hap
              go_cut [10, 142] from 35 to 146 (fun s10 s142 wx => s10 = .pointer (some ⟨b5, 0, none⟩) ∧ s142 = .bool false ∧ co.Ready w wx q (V0.does (.up g gn)) (V0.does (.up g gn)) (2 * k + 2) u6 l b5 M Ak nk ck Au nu cu (k : Int) (cm.grec g gn (k : Int)))
              case first =>
                as_aux_lemma =>
                go_wp2_with fail
                refine HAP.out.mono ?_
                rintro en w6 ⟨rfl, ht6, hc6⟩
                clear d0 d1 d2 d3 d4 d5 dl
                have D6 := D5.out.doB (by rw [← HP.out.2.1]; exact ht6) hc6
                have ord := D5.out.ord
                have hk6 := hc6.blk K5.out.1 (fun h => by have := K5.out.2.2.2.2.1; omega)
                have R6 := Lib.hid (show co.Ready w w6 q (V0.does (.up g gn)) (V0.does (.up g gn)) (2 * k + 2) u6 l b5 M Ak nk ck Au nu cu (k : Int) (cm.grec g gn (k : Int)) from ⟨D6, hk6, BytesV.tab K5.out.2.2.1 D5.out.tb hc6, BytesV.tab K5.out.2.2.2.1 D5.out.tb hc6, K5.out.2.2.2.2.2.2.1.up (Nat.le_refl _) hc6.size, K5.out.2.2.2.2.2.2.2.up (Nat.le_refl _) hc6.size⟩)
                clear D6 hk6 ht6 hc6 ord HAP
                go_wp2_with fail
                go_meet
                case rel => exact ⟨rfl, rfl, R6.out⟩
              case rest =>
              clear d0 d1 d2 d3 d4 d5 dl
              clear HAP K5 D5
              obtain ⟨rfl, rfl, D6, hk6, hbk6, hbu6, hlk6, hlu6⟩ := hcut
              have K6 := Lib.hid (And.intro hk6 (And.intro hbk6 (And.intro hbu6 (And.intro hlk6 hlu6)))); clear hk6 hbk6 hbu6 hlk6 hlu6
              obtain ⟨w6, hw6⟩ : ∃ x, x = wc := ⟨_, rfl⟩
              subst hw6
              obtain ⟨ys, hown0, hcells0⟩ := id D6.row
              obtain ⟨Ar, cr, hrs, -, -⟩ := own_at hown0
              subst hrs
              clear hown0 hcells0
              obtain ⟨j, hj⟩ : ∃ j, j = l.length := ⟨_, rfl⟩
              have D6 := Lib.hid D6
              rw [← hj] at D6 DROW ⊢
              have HJ := Lib.hid (And.intro hj C.out.1.1); clear hj
              have d0 := K6.out.1.cell 0 (v := .int .i64 0) rfl
              have d1 := K6.out.1.cell 1 (v := .int .i64 (k : Int)) rfl
              have d2 := K6.out.1.cell 2 (v := .bool true) rfl
              have d3 := K6.out.1.cell 3 (v := .slice Ak nk ck) rfl
              have d4 := K6.out.1.cell 4 (v := .bool true) rfl
              have d5 := K6.out.1.cell 5 (v := .slice Au nu cu) rfl
              have dl := K6.out.1.lt
              obtain ⟨w7, hw7⟩ : ∃ w', w' = w6.alloc (.cells #[.int .i64 0, .int .i64 (k : Int), .bool true, .slice Ak nk ck, .bool true, .slice Au nu cu] 37) := ⟨_, rfl⟩
              have hb7 : Below w6.heap.size w6 w7 := by rw [hw7]; exact (Below.refl _ _).alloc (Nat.le_refl _) _
              have hs7 : w7.heap.size = w6.heap.size + 1 := by rw [hw7]; simp
              obtain ⟨xs7, hown, hcells⟩ := D6.out.row.below hb7
              rw [← HJ.out.1] at hown
              have hcell := co.cells_new w6 [.int .i64 0, .int .i64 (k : Int), .bool true, .slice Ak nk ck, .bool true, .slice Au nu cu] 37 w6.heap.size rfl
              have hbk := K6.out.2.1.below hb7 (Nat.le_refl _)
              have hbu := K6.out.2.2.1.below hb7 (Nat.le_refl _)
              have hlk := K6.out.2.2.2.1.up (Nat.le_refl _) hb7.size
              have hlu := K6.out.2.2.2.2.up (Nat.le_refl _) hb7.size
              have HW7 := Lib.hid (And.intro hw7 (And.intro hb7 (And.intro hs7 (And.intro hown (And.intro hcells (And.intro hcell (And.intro hbk (And.intro hbu (And.intro hlk hlu))))))))); clear hw7 hb7 hs7 hown hcells hcell hbk hbu hlk hlu
              have hj80 : j ≤ 100000 := by have h1 := C.out.1.1; have h2 := HJ.out.1; have h3 := AC.out.2.2.2.2; omega
              iterate 3 go_step
              go_upto_region 19 with fail
              iterate 4 go_step
              refine wpList_load_row rfl 37 (.tmp 10) rfl b5 rfl 37 #[.int .i64 0, .int .i64 (k : Int), .bool true, .slice Ak nk ck, .bool true, .slice Au nu cu] (0, 0) _ K6.out.1 Try.underlying37 rfl cm.info_rec ?_
              go_simp
              refine co.list_build _ rfl (.tmp 144) rfl 0 (k : Int) true true Ak Au nk nu ck cu rfl ?_
              go_simp
              rw [← HW7.out.1]
              refine wpList_append_own_at _ rfl (.tmp 143) (.tmp 145) 62 rfl q.B 37 i0 _ 6 80 Try.underlying62 HI.out.1 HI.out.2.1 HI.out.2.2.1 HI.out.2.2.2 rfl (by decide) (.slice Ar j cr) j xs7 rfl HW7.out.2.2.2.1 ⟨w6.heap.size, 0, none⟩ 1 1 [.int .i64 0, .int .i64 (k : Int), .bool true, .slice Ak nk ck, .bool true, .slice Au nu cu] rfl rfl (by rw [HW7.out.1]; exact HW7.out.2.2.2.2.2.1) (by simp [Value.oneCell']) (by unfold maxLen; omega) (by omega) (Nat.le_trans D6.out.size HW7.out.2.1.size) ?_
              intro v2 w8 h1 h2 _ h3
              have HV := Lib.hid (And.intro h1 (And.intro h2 h3))
              clear h1 h2 h3
              go_simp
              have D8 := co.grow (X := (cm.grec g gn (k : Int))) D6.out HJ.out.1.symm HW7.out.2.1 AC.out.2.2.1 DROW.out HW7.out.2.2.2.2.2.2.1 HW7.out.2.2.2.2.2.2.2.1 HW7.out.2.2.2.2.2.2.2.2.1 HW7.out.2.2.2.2.2.2.2.2.2 (by unfold i64ok; show (-9223372036854775808 : Int) ≤ 0 ∧ (0 : Int) ≤ 9223372036854775807; decide) AC.out.2.2.2.1 HW7.out.2.2.2.1 HW7.out.2.2.2.2.1 HV.out.1 HV.out.2.1 HV.out.2.2
              have D8 := Lib.hid D8
              clear d0 d1 d2 d3 d4 d5 dl
              clear HW7 K6
              have REL := Lib.hid (show ∀ wz, Below w8.heap.size w8 wz → co.One w wz q (k + 1) v2 from fun wz hz => ⟨ac ++ [.up g gn], l ++ [(cm.grec g gn (k : Int))], C.out.1.snoc AC.out.2.1, co.up_snoc C.out.1.good C.out.2.1 (by rw [← HV0.out]; exact HUP.out), by have := HLK.out; simp; omega, by rw [co.all_snoc, ← HV0.out]; exact (D8.out.below hz).up (by omega)⟩)
              repeat go_step
              exact ⟨⟨k + 1, by omega, (by go_num), REL.out _ (Below.refl _ _)⟩, (by simp [intOf]; omega)⟩
          · have d1 : decide (F < gn) = false := decide_eq_false hnum
            as_aux_lemma =>
            go_upto_region 15 with fail
            go_quiet (first | (go_at_call 18; with_reducible exact Calls.quiet_of_same ((HFL.out _).mono fun _ _ h => ⟨h.1, h.2.symm⟩)))
            go_wp2_with fail
            go_roundw
            case rel => exact ⟨k + 1, by omega, by go_num, REL.out _ (bdrew (Below.refl _ _) _)⟩
            case measure => simp [intOf]; omega
  
        · have e2 : (kind == 2) = false := by simpa using k2
          have REL := Lib.hid (show ∀ wz, Below wr.heap.size wr wz → co.One w wz q (k + 1) u6 from fun wz hz => ⟨ac, l, C.out.1, C.out.2.1, Nat.le_succ_of_le HLK.out, by rw [← HV0.out]; exact (C.out.2.2.below hz).up (by omega)⟩)
          go_upto_region 15 with fail
          go_quiet (fail)
          go_wp2_with fail
          go_roundw
          case rel => exact ⟨k + 1, by omega, by go_num, REL.out _ (bdrew (Below.refl _ _) _)⟩
          case measure => simp [intOf]; omega
    · obtain rfl : k = N := by omega
      have C := Lib.hid (And.intro hof (And.intro hup hco)); clear hof hup hco
      have hlen := HLK.out
      obtain ⟨S0, hS0⟩ : ∃ T, T = co.all CTab.zero ac := ⟨_, rfl⟩
      rw [← hS0] at C
      have HS0 := Lib.hid hS0; clear hS0
      obtain ⟨Ar, cr, hrs, -⟩ := C.out.2.2.row.recsV
      subst hrs
      obtain ⟨j, hj⟩ : ∃ j, j = l.length := ⟨_, rfl⟩
      rw [← hj] at C hlen ⊢
      have HJ := Lib.hid (And.intro hj C.out.1.1); clear hj
      clear hlt
      go_upto_region 20 with fail
      go_wp2_with fail
      go_loopw [12, 13, 14] (fun i _ _ wx => ∃ (m : Nat) (V : CTab), m ≤ j ∧ i = .int .i64 (m : Int) ∧ CoSt w wx q S0 S0 V (2 * k + m) (.slice Ar j cr) l ∧ co.all V (co.last (ac.drop m)) = S0) (fun i _ _ _ => j - (intOf i).toNat)
      case atStart => exact ⟨0, CTab.zero, by omega, rfl, C.out.2.2, by rw [List.drop_zero, co.last_all CTab.zero ac C.out.1.good C.out.2.1]; exact HS0.out.symm⟩
      case round =>
        obtain ⟨m, V, hm, rfl, hco, hall⟩ := hrel
        by_cases hlm : m < j
        · have hlm' : (m : Int) < (j : Int) := by omega
          have hml : m < l.length := by rw [← HJ.out.1]; exact hlm
          obtain ⟨X, hX⟩ : ∃ X, l[m]? = some X := ⟨_, List.getElem?_eq_getElem hml⟩
          obtain ⟨a, ha⟩ : ∃ a, ac[m]? = some a := ⟨_, List.getElem?_eq_getElem (by rw [HJ.out.2]; exact hml)⟩
          have hof := C.out.1.2 m a X ha hX
          obtain ⟨b, off, hAr⟩ : ∃ b off, Ar = some ⟨b, off, none⟩ := by
            obtain ⟨A', c', e', hr'⟩ := hco.row.recsV
            obtain ⟨b2, off2, c2, _, _, e2, -⟩ := hr'.at' hX
            rw [e2] at e'
            simp at e'
            exact ⟨b2, off2, e'.1⟩
          subst hAr
          have D := Lib.hid (And.intro hco (And.intro hall (And.intro hX (And.intro ha hof)))); clear hco hall hX ha hof hml
          go_wp2_with fail
          go_loopw [13, 14] (fun r t wx => ∃ (t' : Nat) (r' : Bool), m < t' ∧ t' ≤ j ∧ t = .int .i64 (t' : Int) ∧ r = .bool r' ∧ (r' = true ↔ ∀ s Y, m < s → s < t' → l[s]? = some Y → Y.key ≠ X.key) ∧ CoSt w wx q S0 S0 V (2 * k + m) (.slice (some ⟨b, off, none⟩) j cr) l) (fun _ t _ => j - (intOf t).toNat)
          case atStart => exact ⟨m + 1, true, by omega, by omega, (by go_num), rfl, ⟨fun _ s Y h1 h2 => absurd h1 (by omega), fun _ => rfl⟩, D.out.1⟩
          case round =>
            obtain ⟨t, r, ht1, ht2, rfl, rfl, hr, hco⟩ := hrel
            by_cases hlt : t < j
            · have hlt' : (t : Int) < (j : Int) := by omega
              have htl : t < l.length := by rw [← HJ.out.1]; exact hlt
              obtain ⟨Y, hY⟩ : ∃ Y, l[t]? = some Y := ⟨_, List.getElem?_eq_getElem htl⟩
              have E := Lib.hid (And.intro hr (And.intro hco hY)); clear hr hco hY htl
              cases r with
              | false =>
                as_aux_lemma =>
                go_upto_region 27 with fail
                go_quiet (fail)
                go_wp2_with fail
                go_roundw
                case rel => exact ⟨t + 1, false, by omega, by omega, (by go_num), rfl, ⟨(fun h => by cases h), (fun h => E.out.1.2 fun s Z h1 h2 => h s Z h1 (by omega))⟩, E.out.2.1.below (bdrew (Below.refl _ _) _)⟩
                case measure => simp [intOf]; omega
              | true =>
                as_aux_lemma =>
                obtain ⟨Ak, nk, ck, Au, nu, cu, bl, -, -, -, d3, -, -, hnk, hak, hbk, -⟩ := co.rec_at E.out.2.1.row D.out.2.2.1
                obtain ⟨Bk, mk, ek, Bu, mu, eu, -, -, -, -, e3, -, -, hmk, hak2, hbk2, -⟩ := co.rec_at E.out.2.1.row E.out.2.2
                have k1 : ∀ n, (convert 35 9 (.slice Ak nk ck)).run Try.prog (wr.drewN n) = .ok (.string (strOf X.key)) (wr.drewN n) := fun n => conv_any Try.underlying35 Try.underlying5 Try.underlying9 X.key hnk.symm (by rw [hnk]; exact hak.below (bdrew (Below.refl _ _) n) (Nat.le_refl _))
                have k2 : ∀ n, (convert 35 9 (.slice Bk mk ek)).run Try.prog (wr.drewN n) = .ok (.string (strOf Y.key)) (wr.drewN n) := fun n => conv_any Try.underlying35 Try.underlying5 Try.underlying9 Y.key hmk.symm (by rw [hmk]; exact hak2.below (bdrew (Below.refl _ _) n) (Nat.le_refl _))
                clear hnk hak hmk hak2
                have hinj : strOf Y.key = strOf X.key → Y.key = X.key := fun h => strOf_inj hbk2 hbk h
                clear hbk hbk2
                have HIJ := Lib.hid hinj; clear hinj
                by_cases hk : strOf Y.key = strOf X.key
                · have hk3 := HIJ.out hk
                  rw [hk] at k2
                  have HK3 := Lib.hid hk3; clear hk3 hk
                  go_upto_region 27 with fail
                  go_quiet (fail)
                  go_wp2_with fail
                  go_roundw
                  case rel => exact ⟨t + 1, false, by omega, by omega, (by go_num), rfl, ⟨(fun h => by cases h), fun h => absurd HK3.out (h t Y (by omega) (by omega) E.out.2.2)⟩, E.out.2.1.below (bdrew (Below.refl _ _) _)⟩
                  case measure => simp [intOf]; omega
                · have hs := cm.str_ne hk
                  have HK3 := Lib.hid (show Y.key ≠ X.key from fun h => hk (by rw [h])); clear hk
                  go_upto_region 27 with fail
                  go_quiet (fail)
                  go_wp2_with fail
                  go_roundw
                  case rel =>
                    refine ⟨t + 1, true, by omega, by omega, (by go_num), rfl, ⟨fun _ s Z h1 h2 hZ => ?_, fun _ => rfl⟩, E.out.2.1.below (bdrew (Below.refl _ _) _)⟩
                    by_cases hst : s < t
                    · exact E.out.1.1 rfl s Z h1 hst hZ
                    · obtain rfl : s = t := by omega
                      have e := E.out.2.2
                      rw [hZ] at e
                      rw [Option.some.inj e]
                      exact HK3.out
                  case measure => simp [intOf]; omega
            · obtain rfl : t = j := by omega
              have E := Lib.hid (And.intro hr hco); clear hr hco
              clear hlt
              obtain ⟨Ak, nk, ck, Au, nu, cu, bl, d0, d1, d2, d3, d4, d5, -, -, -, hrv⟩ := co.rec_at E.out.2.row D.out.2.2.1
              cases r with
              | false =>
                as_aux_lemma =>
                have HN := Lib.hid (co.step_no C.out.1 D.out.2.2.2.1 D.out.2.2.1 D.out.2.1 (fun h => by
                  have h2 := E.out.1.2 fun s Y h1 h2 hY => h s Y h1 (by rw [← HJ.out.1]; exact h2) hY
                  cases h2))
                clear hrv
                go_wp2_with fail
                go_roundw
                case rel => exact ⟨m + 1, V, by omega, (by go_num), E.out.2.up (by omega), HN.out⟩
                case measure => simp [intOf]; omega
              | true =>
                as_aux_lemma =>
                have HN := Lib.hid (co.step_yes C.out.1 D.out.2.2.2.1 D.out.2.2.1 D.out.2.1 (fun s Y h1 h2 hY => E.out.1.1 rfl s Y h1 (by rw [HJ.out.1]; exact h2) hY))
                have hap := cm.apply_any _ X q.p3 q.o3 q.f3 V (2 * k + m) wr hrv E.out.2.tc (by unfold maxLen; omega)
                rw [D.out.2.2.2.2.act, show cm.code (some a) = 0 from rfl, show V.app (some a) = V.does a from rfl, ← HP.out.2.2] at hap
                have HAP := Lib.hid hap; clear hap hrv
                obtain ⟨xo, hxo⟩ : ∃ x, x = X.off := ⟨_, rfl⟩
                obtain ⟨xt, hxt⟩ : ∃ x, x = X.time := ⟨_, rfl⟩
                obtain ⟨xk, hxk⟩ : ∃ x, x = X.hasKey := ⟨_, rfl⟩
                obtain ⟨xv, hxv⟩ : ∃ x, x = X.hasVal := ⟨_, rfl⟩
                rw [← hxo] at d0 HAP
                rw [← hxt] at d1 HAP
                rw [← hxk] at d2 HAP
                rw [← hxv] at d4 HAP
                clear hxo hxt hxk hxv
                go_wp2_with fail
                refine HAP.out.mono ?_
                rintro en w6 ⟨rfl, ht6, hc6⟩
                have D6 := Lib.hid (E.out.2.doC (by rw [← HP.out.2.2]; exact ht6) hc6); clear ht6 hc6
                clear d0 d1 d2 d3 d4 d5 bl
                go_wp2_with fail
                go_roundw
                case rel => exact ⟨m + 1, V.does a, by omega, (by go_num), D6.out, HN.out⟩
                case measure => simp [intOf]; omega
        · obtain rfl : m = j := by omega
          have hV : V = S0 := by
            rw [List.drop_eq_nil_of_le (by rw [HJ.out.2, ← HJ.out.1]; exact Nat.le_refl _)] at hall
            exact hall
          subst hV
          have F := Lib.hid hco; clear hco hall
          have hre := fun w => co.run_ent w
          have hrz := fun w => co.run_zero w
          go_wp2_with fail
          refine (cm.get_nil ⟨#[103]⟩ ⟨#[116]⟩ 0 wr).mono ?_
          rintro en wy ⟨rfl, h3⟩
          subst h3
          go_wp2_with fail
          have hs1 := cm.same_any q.p1 q.o1 q.f1 _ q.p2 q.o2 q.f2 _ V wr F.out.ta F.out.tb
          rw [← HP.out.1, ← HP.out.2.1] at hs1
          have HS1 := Lib.hid hs1; clear hs1
          refine HS1.out.mono ?_
          rintro en v1 ⟨rfl, h1⟩
          have F1 := Lib.hid (F.out.below h1); clear h1 F HS1
          have hs1 := cm.same_any q.p1 q.o1 q.f1 _ q.p3 q.o3 q.f3 _ V v1 F1.out.ta F1.out.tc
          rw [← HP.out.1, ← HP.out.2.2] at hs1
          have HS1 := Lib.hid hs1; clear hs1
          go_wp2_with fail
          refine HS1.out.mono ?_
          rintro en v2 ⟨rfl, h1⟩
          have F2 := Lib.hid (F1.out.below h1); clear h1 F1 HS1
          go_wp2_with fail
          refine (cm.put_nil ⟨⟨#[103]⟩, ⟨#[116]⟩, 0, 0⟩ v2).mono ?_
          rintro en v3 ⟨rfl, h1⟩
          have F3 := Lib.hid (F2.out.below h1); clear h1 F2
          go_wp2_with fail
          refine (cm.tgen_nil ⟨#[103]⟩ 1 v3).mono ?_
          rintro en wy ⟨rfl, h3⟩
          subst h3
          go_wp2_with fail
          refine (cm.apply_nil _ cm.zero v3 (cm.zero_v v3)).mono ?_
          rintro en v4 ⟨rfl, h1⟩
          have F4 := Lib.hid (F3.out.below h1); clear h1 F3
          go_wp2_with fail
          refine (cm.floor_nil ⟨#[103]⟩ v4).mono ?_
          rintro en wy ⟨rfl, h3⟩
          subst h3
          go_wp2_with fail
          refine (law18.awake_any v4).mono ?_
          rintro en v5 ⟨rfl, h1⟩
          have F5 := Lib.hid (F4.out.bel.trans (h1.mono F4.out.bel.size)); clear h1 F4
          go_wp2_with fail
          go_ret
          exact ⟨rfl, F5.out⟩
end Go.Proofs.Ytkkpbnhagobhmaa

/- The walk of the law NetPlays: it answers true, whatever the input. -/
import Derived.Test.YtbbekgliaedigaaNetX
import Derived.Test.YtbbekgliaedigaaNetP
import Derived.Test.YtbbekgliaedigaaNetI
import Derived.Test.YtbbekgliaedigaaAlikeB
namespace Go.Proofs.Ytbbekgliaedigaa
open Go.RowKit

def ntotal (xs : List NStep) : Nat := (xs.map fun x => x.b.length + 1).sum
theorem ntotal_succ (xs : List NStep) (k : Nat) (hk : k < xs.length) : ntotal (xs.take (k + 1)) = ntotal (xs.take k) + ((xs[k]).b.length + 1) := by
  unfold ntotal
  rw [List.take_succ_eq_append_getElem hk, List.map_append, List.sum_append]
  simp
theorem ntotal_len (xs : List NStep) : xs.length ≤ ntotal xs := by
  induction xs with
  | nil => simp
  | cons x xs ih => unfold ntotal at *; simp only [List.map_cons, List.sum_cons, List.length_cons]; omega
theorem ntotal_mem {xs : List NStep} {x : NStep} (h : x ∈ xs) : x.b.length ≤ ntotal xs := by
  induction xs with
  | nil => cases h
  | cons y xs ih =>
    unfold ntotal at *
    simp only [List.map_cons, List.sum_cons]
    rcases List.mem_cons.1 h with rfl | h
    · omega
    · have := ih h
      omega

set_option maxRecDepth 20000 in
set_option maxHeartbeats 8000000 in
theorem law23.plays (A : Option Addr) (n c : Nat) (xs : List NStep) (most : Int) (w : World) (hl : xs.length = n ∧ n ≤ c ∧ c ≤ maxLen) (hit : NSteps w A xs) :
    Calls Try.prog 14 #[.slice A n c, .int .i64 most] w fun e w' => e = .returned (.bool true) ∧ Below w.heap.size w w' := by
  obtain ⟨hl, hnc, hcm⟩ := hl
  have HIT := Lib.hid hit; clear hit
  have HL := Lib.hid hl; clear hl
  unfold maxLen at hcm
  go_enter Try.func14, Try.ntmps14
  go_wp2
  go_loopw [5, 6] (fun x i wr => ∃ (k : Nat) (t : Int), k ≤ n ∧ i = .int .i64 (k : Int) ∧ x = .int .i64 t ∧ 0 ≤ t ∧ t ≤ 1099511627776 ∧ (t ≤ 1000 → t = (ntotal (xs.take k) : Nat)) ∧ Below w.heap.size w wr) (fun _ i _ => n - (intOf i).toNat)
  case atStart => exact ⟨0, 0, by omega, rfl, rfl, by omega, by omega, by simp [ntotal], Below.refl _ _⟩
  case round =>
    obtain ⟨k, t, hk, rfl, rfl, ht0, ht1, ht, hb⟩ := hrel
    have HT := Lib.hid ht; clear ht
    have HB := Lib.hid hb; clear hb
    by_cases ht2 : t ≤ 1000
    · by_cases hlt : k < n
      · have hlt' : (k : Int) < n := by omega
        have hkx : k < xs.length := by rw [HL.out]; exact hlt
        obtain ⟨b, off, rfl, hbb, X, cx, -, -, -, c0, -, hlx, -⟩ := (HIT.out.below HB.out (Nat.le_refl _)).at' k hkx
        obtain ⟨m, hm⟩ : ∃ m, m = (xs[k]).b.length := ⟨_, rfl⟩
        have hsucc := ntotal_succ xs k hkx
        rw [← hm] at c0 hlx hsucc
        have HS := Lib.hid hsucc; clear hsucc hm
        unfold maxLen at hlx
        go_wp2_with fail
        refine (alike.sum_any t (some ⟨wr.heap.size, 0, none⟩) 2 2 [(m : Int), 1] _ ht0 ht1 (by omega) rfl ((At.new wr #[.int .i64 (m : Int), .int .i64 1] 3 (n := 2) rfl).congr fun j hj => by
          rcases j with _ | _ | j
          · rfl
          · rfl
          · omega) (by simp; omega)).mono ?_
        rintro e w1 ⟨rfl, rfl⟩
        have hsum : alike.sum t [(m : Int), 1] = min (t + ((m : Int) + 1)) 1099511627776 := by simp [alike.sum]
        rw [hsum]
        clear hsum
        obtain ⟨u, hu⟩ : ∃ u, u = min (t + ((m : Int) + 1)) 1099511627776 := ⟨_, rfl⟩
        rw [← hu]
        have hu0 : 0 ≤ u := by omega
        have hu1 : u ≤ 1099511627776 := by omega
        have hnext : u ≤ 1000 → u = (ntotal (xs.take (k + 1)) : Nat) := fun h => by
          have := HT.out ht2
          rw [HS.out]
          omega
        have HN := Lib.hid hnext; clear hnext
        clear hu
        go_wp2
        go_roundw
        case rel => exact ⟨k + 1, u, by omega, by go_num, rfl, hu0, hu1, HN.out, HB.out.alloc HB.out.size _⟩
        case measure => simp [intOf]; omega
      · obtain rfl : k = n := by omega
        obtain ⟨hn1000, hmem⟩ : k ≤ 1000 ∧ ∀ x ∈ xs, x.b.length ≤ 1000 := by
          have h1 := HT.out ht2
          rw [List.take_of_length_le (by rw [HL.out]; exact Nat.le_refl _)] at h1
          have h2 := ntotal_len xs
          rw [HL.out] at h2
          exact ⟨by omega, fun x hx => by have := ntotal_mem hx; omega⟩
        have HMEM := Lib.hid hmem; clear hmem
        have ht3 : ¬ 1000 < t := by omega
        clear hlt HT
        by_cases hmost : most < 0
        · go_wp2_with fail
          refine (law23.awake wr).mono ?_
          rintro e w1 ⟨rfl, hb1⟩
          have HB1 := Lib.hid (HB.out.trans (hb1.mono HB.out.size)); clear hb1
          go_wp2
          go_ret
          exact ⟨rfl, HB1.out⟩
        · go_wp2_with fail
          refine (net.newS w.heap.size 0 wr HB.out.size).mono ?_
          rintro e w1 ⟨p, rfl, hn1, hb1⟩
          have HB1 := Lib.hid (HB.out.trans (hb1.mono HB.out.size)); clear hb1 HB
          have HN1 := Lib.hid hn1; clear hn1
          go_wp2_with fail
          obtain ⟨q, hq⟩ : ∃ q, q = w1.heap.size := ⟨_, rfl⟩
          obtain ⟨w2, hw2⟩ : ∃ w2, w2 = w1.alloc (.cells #[.int .i64 0, .slice none 0 0] 111) := ⟨_, rfl⟩
          rw [← hw2]
          rw [← hq]
          have htwo : Two w p q 0 [] 0 [] w2 := by
            have hbx : Below w1.heap.size w1 w2 := by rw [hw2]; exact (Below.refl _ _).alloc (Nat.le_refl _) _
            refine ⟨HN1.out.below hbx, ⟨[], ⟨.slice none 0 0, ?_, World.ownsRow_nil _ _ _ _, by simp, by simp⟩, rfl⟩, HB1.out.trans (hbx.mono HB1.out.size), by rw [hq]; exact HB1.out.size⟩
            rw [hw2, hq]
            exact Blk.new _ _ _
          have HTW := Lib.hid htwo; clear htwo hw2 hq HN1 HB1
          go_wp2_with fail
          go_loopw [9] (fun i wr => ∃ (j last : Nat) (S : List (Int × List Nat)), j ≤ k ∧ i = .int .i64 (j : Int) ∧ last ≤ j ∧ Two w p q last S last S wr) (fun i _ => k - (intOf i).toNat)
          case atStart => exact ⟨0, 0, [], by omega, rfl, by omega, HTW.out⟩
          case round =>
            obtain ⟨j, last, S, hj, rfl, hlj, htw⟩ := hrel
            clear HTW
            by_cases hjk : j < k
            · have hjk' : (j : Int) < k := by omega
              have hjx : j < xs.length := by rw [HL.out]; exact hjk
              obtain ⟨b, off, rfl, hbb, X, cx, c0, c1, c2, c3, hat, -, -, hkb, hab, hcb⟩ := (HIT.out.below htw.below (Nat.le_refl _)).at' j hjx
              have hatw : At w X (xs[j]).b.length (byteAt (xs[j]).b) := by
                obtain ⟨_, _, e1, hbw, X', cx', _, _, _, d3, hat', _⟩ := HIT.out.at' j hjx
                cases e1
                have d3' := (htw.below.cell (p := ⟨b, off + j * 4 + 3, none⟩) hbw).trans d3
                rw [c3] at d3'
                obtain ⟨rfl, rfl⟩ : X = X' ∧ cx = cx' := by simpa using d3'
                exact hat'
              have hsz := HMEM.out _ (List.getElem_mem hjx)
              have HATW := Lib.hid hatw; clear hatw hat
              obtain ⟨L, hL⟩ : ∃ L, L = (xs[j]).b := ⟨_, rfl⟩
              rw [← hL] at HATW c3 hsz
              obtain ⟨m, hm⟩ : ∃ m, m = L.length := ⟨_, rfl⟩
              rw [← hm] at HATW c3 hsz
              have HM := Lib.hid hm; clear hm hL
              generalize (xs[j]).kind = kind at *
              generalize (xs[j]).a = a at *
              generalize (xs[j]).c = cc at *
              have HAB := Lib.hid (show intOk a from hab); clear hab
              have HCB := Lib.hid (show intOk cc from hcb); clear hcb
              clear hkb
              obtain ⟨ws, hws⟩ : ∃ ws, ws = wr.alloc (.cells #[.int .i64 kind, .int .i64 a, .int .i64 cc, .slice X m cx] 107) := ⟨_, rfl⟩
              have hbs : Blk ws wr.heap.size 107 #[.int .i64 kind, .int .i64 a, .int .i64 cc, .slice X m cx] := by rw [hws]; exact Blk.new _ _ _
              have hts : Two w p q last S last S ws := htw.under (by rw [hws]; exact (Below.refl _ _).alloc (Nat.le_refl _) _)
              have hne : wr.heap.size ≠ q := by
                obtain ⟨l, hr, -⟩ := htw.ref
                have := hr.lt
                omega
              have HWS := Lib.hid hws
              have HBS := Lib.hid hbs; clear hbs
              have HTS := Lib.hid hts; clear hts htw
              clear hws
              have qa : ∀ x : After ws q, x.1.cell? ⟨wr.heap.size, 1, none⟩ = some (.int .i64 a) := fun x => (x.2 _ _ hne HBS.out).cell 1 rfl
              have qc : ∀ x : After ws q, x.1.cell? ⟨wr.heap.size, 2, none⟩ = some (.int .i64 cc) := fun x => (x.2 _ _ hne HBS.out).cell 2 rfl
              have qb : ∀ x : After ws q, x.1.cell? ⟨wr.heap.size, 3, none⟩ = some (.slice X m cx) := fun x => (x.2 _ _ hne HBS.out).cell 3 rfl
              have k0 : ws.cell? ⟨wr.heap.size, 0, none⟩ = some (.int .i64 kind) := HBS.out.cell 0 rfl
              have k1 : ws.cell? ⟨wr.heap.size, 1, none⟩ = some (.int .i64 a) := HBS.out.cell 1 rfl
              have HQ := Lib.hid qa
              clear hbb
              go_upto_region 16 with fail
              rw [← HWS.out]
              clear c0 c1 c2 c3 HWS
              by_cases h1 : kind = 1
              · subst h1
                clear qa qc
                clear k1
                go_upto_region 18 with fail
                have hS0 : after ws q ws.drew := after_of (Stays.drew ws)
                refine wp_plan (S := fun w0 => ∃ x : After ws q, w0 = x.1) (by kernel_rfl) hS0 ?_
                intro hS K5 hK5
                have HS := Lib.hid hS; clear hS hS0
                refine plan_group [true, true, true, false, true, true, true] [0, 1, 2, 4, 5, 6] 3 (by dsimp only [sel]) (by rfl) rfl (by kernel_rfl) (by kernel_rfl) HS.out ?_
                (repeat go_big_quiet_step (fail)); refine wpQuiet_nil ?_
                refine plan_one [false, false, false, true] 3 2 (by dsimp only [sel]) (by rfl) rfl (by kernel_rfl) ?_; intro K1 hK1; go_wp2_with fail
                refine (two.sendN (HTS.out.under (bdrew (Below.refl _ ws) 1)) (by omega) X m cx L HM.out.symm (by omega) HATW.out).mono ?_
                rintro e v1 ⟨rfl, ht1', hs1⟩
                have HT1 := Lib.hid ht1'; clear ht1'
                have HS1 := Lib.hid ((Stays.drew ws).trans hs1); clear hs1
                go_wp2_with fail
                refine ⟨after_of HS1.out, ?_⟩
                refine plan_one [false, false, false, false, false, false, false, true] 7 1 (by dsimp only [sel]) (by rfl) rfl (by kernel_rfl) ?_; intro K1 hK1; go_wp2_with fail
                refine (two.sendR HT1.out (by omega) X m cx L HM.out.symm (by omega) HATW.out).mono ?_
                rintro e v2 ⟨rfl, ht2', hs2⟩
                have hta := ht2'; clear ht2'
                have HS2 := Lib.hid (HS1.out.trans hs2); clear hs2
                have HTA := Lib.hid hta; clear hta
                go_wp2_with fail
                refine ⟨after_of HS2.out, ?_⟩
                refine plan_group [false, false, false, false, false, false, false, false, true] [8] 0 (by dsimp only [sel]) (by rfl) rfl (by kernel_rfl) (by kernel_rfl) (after_of HS2.out) ?_
                (repeat go_big_quiet_step (fail)); refine wpQuiet_nil ?_
                refine wp_plan_end (by kernel_rfl) ?_
                have hta := HTA.out
                clear HTA
                have HTA := Lib.hid hta; clear hta
                go_wp2_with fail
                refine (two.shows HTA.out (by omega) (by omega) 1000 (by omega)).mono ?_
                rintro e wz ⟨rfl, htz⟩
                have HTZ := Lib.hid htz; clear htz HTA
                go_wp2
                go_roundw
                case rel => exact ⟨j + 1, _, _, by omega, by go_num, by omega, HTZ.out⟩
                case measure => simp [intOf]; omega
              · by_cases h2 : kind = 2
                · subst h2
                  obtain ⟨E, L1, htk⟩ := take_is S a
                  have HTK := Lib.hid htk; clear htk
                  clear h1 qa qb qc
                  go_wp2_with fail
                  refine (two.deliverN HTS.out (by omega) HAB.out HTK.out).mono ?_
                  rintro e v1 ⟨A1, cA1, rfl, hat1, ht1', hs1⟩
                  have e1 : v1.cell? ⟨wr.heap.size, 1, none⟩ = some (.int .i64 a) := HQ.out ⟨v1, hs1⟩
                  have HT1 := Lib.hid ht1'; clear ht1'
                  have HA1 := Lib.hid hat1; clear hat1 hs1
                  go_wp2_with fail
                  refine (two.takeR HT1.out (by omega) HTS.out.apart HTK.out).mono ?_
                  rintro e v2 ⟨A2, cA2, rfl, hat2, ht2', hs2, hc2⟩
                  have hcv1 := conv_any (P := Try.prog) Try.underlying23 Try.underlying5 Try.underlying9 (c := cA1) L1 rfl (HA1.out v2 hc2)
                  have hcv2 := conv_any (P := Try.prog) Try.underlying23 Try.underlying5 Try.underlying9 (c := cA2) L1 rfl hat2
                  generalize strOf L1 = str at hcv1 hcv2
                  generalize L1.length = m1 at hcv1 hcv2 ⊢
                  have HTA := Lib.hid ht2'; clear ht2'
                  clear hat2 hs2 hc2 e1 HA1 HT1
                  have hta := HTA.out
                  clear HTA
                  have HTA := Lib.hid hta; clear hta
                  go_wp2_with fail
                  refine (two.shows HTA.out (by omega) (by omega) 1000 (by omega)).mono ?_
                  rintro e wz ⟨rfl, htz⟩
                  have HTZ := Lib.hid htz; clear htz HTA
                  go_wp2
                  go_roundw
                  case rel => exact ⟨j + 1, _, _, by omega, by go_num, by omega, HTZ.out⟩
                  case measure => simp [intOf]; omega
                · by_cases h3 : kind = 3
                  · subst h3
                    obtain ⟨E, L1, htk⟩ := take_is S a
                    have HTK := Lib.hid htk; clear htk
                    clear h1 h2 qa qb qc
                    go_wp2_with fail
                    refine (two.takeR HTS.out (by omega) HTS.out.apart HTK.out).mono ?_
                    rintro e v1 ⟨A1, cA1, rfl, hat1, ht1', hs1, -⟩
                    have e1 : v1.cell? ⟨wr.heap.size, 1, none⟩ = some (.int .i64 a) := HQ.out ⟨v1, hs1⟩
                    have HT1 := Lib.hid ht1'; clear ht1' hat1 hs1
                    go_wp2_with fail
                    refine (two.dropN HT1.out (by omega) HAB.out HTK.out).mono ?_
                    rintro e v2 ⟨rfl, hta, -⟩
                    clear HT1 e1
                    have HTA := Lib.hid hta; clear hta
                    go_wp2_with fail
                    refine (two.shows HTA.out (by omega) (by omega) 1000 (by omega)).mono ?_
                    rintro e wz ⟨rfl, htz⟩
                    have HTZ := Lib.hid htz; clear htz HTA
                    go_wp2
                    go_roundw
                    case rel => exact ⟨j + 1, _, _, by omega, by go_num, by omega, HTZ.out⟩
                    case measure => simp [intOf]; omega
                  · by_cases h4 : kind = 4
                    · subst h4
                      obtain ⟨N, E, last', S', hdb, hle'⟩ := dbl_is S last a
                      have HDB := Lib.hid hdb; clear hdb
                      clear h1 h2 h3 qa qb qc
                      go_wp2_with fail
                      refine (two.doubleN HTS.out (by omega) HAB.out HDB.out).mono ?_
                      rintro e v1 ⟨rfl, ht1', hs1⟩
                      have e1 : v1.cell? ⟨wr.heap.size, 1, none⟩ = some (.int .i64 a) := HQ.out ⟨v1, hs1⟩
                      have HT1 := Lib.hid ht1'; clear ht1' hs1
                      go_wp2_with fail
                      refine (two.doubleR HT1.out (by omega) HTS.out.apart HDB.out).mono ?_
                      rintro e v2 ⟨rfl, hta, -⟩
                      clear HT1 e1
                      have HTA := Lib.hid hta; clear hta
                      go_wp2_with fail
                      refine (two.shows HTA.out (by omega) (by omega) 1000 (by omega)).mono ?_
                      rintro e wz ⟨rfl, htz⟩
                      have HTZ := Lib.hid htz; clear htz HTA
                      go_wp2
                      go_roundw
                      case rel => exact ⟨j + 1, _, _, by omega, by go_num, by omega, HTZ.out⟩
                      case measure => simp [intOf]; omega
                    · by_cases h5 : kind = 5
                      · subst h5
                        obtain ⟨E, S', hsw⟩ := swp_is S a cc
                        have HSW := Lib.hid hsw; clear hsw
                        clear h1 h2 h3 h4 qb k1
                        go_upto_region 35 with fail
                        have hS0 : after ws q ws.drew := after_of (Stays.drew ws)
                        refine wp_plan (S := fun w0 => ∃ x : After ws q, w0 = x.1) (by kernel_rfl) hS0 ?_
                        intro hS K5 hK5
                        have HS := Lib.hid hS; clear hS hS0
                        refine plan_group [true, true, true, true, true, false, true, true, true, true, true] [0, 1, 2, 3, 4, 6, 7, 8, 9, 10] 3 (by dsimp only [sel]) (by rfl) rfl (by kernel_rfl) (by kernel_rfl) HS.out ?_
                        (repeat go_big_quiet_step (fail)); refine wpQuiet_nil ?_
                        refine plan_one [false, false, false, false, false, true] 5 2 (by dsimp only [sel]) (by rfl) rfl (by kernel_rfl) ?_; intro K1 hK1; go_wp2_with fail
                        refine (two.swapN (HTS.out.under (bdrew (Below.refl _ ws) 1)) (by omega) HAB.out HCB.out HSW.out).mono ?_
                        rintro e v1 ⟨rfl, ht1', hs1⟩
                        have HT1 := Lib.hid ht1'; clear ht1'
                        have HS1 := Lib.hid ((Stays.drew ws).trans hs1); clear hs1
                        go_wp2_with fail
                        refine ⟨after_of HS1.out, ?_⟩
                        refine plan_one [false, false, false, false, false, false, false, false, false, false, false, true] 11 1 (by dsimp only [sel]) (by rfl) rfl (by kernel_rfl) ?_; intro K1 hK1; go_wp2_with fail
                        refine (two.swapR HT1.out (by omega) HTS.out.apart HSW.out).mono ?_
                        rintro e v2 ⟨rfl, ht2', hs2⟩
                        have HTA := Lib.hid ht2'; clear ht2'
                        have HS2 := Lib.hid (HS1.out.trans hs2); clear hs2
                        go_wp2_with fail
                        refine ⟨after_of HS2.out, ?_⟩
                        refine plan_group [false, false, false, false, false, false, false, false, false, false, false, false, true] [12] 0 (by dsimp only [sel]) (by rfl) rfl (by kernel_rfl) (by kernel_rfl) (after_of HS2.out) ?_
                        (repeat go_big_quiet_step (fail)); refine wpQuiet_nil ?_
                        refine wp_plan_end (by kernel_rfl) ?_
                        have hta := HTA.out
                        clear HTA
                        have HTA := Lib.hid hta; clear hta
                        go_wp2_with fail
                        refine (two.shows HTA.out (by omega) (by omega) 1000 (by omega)).mono ?_
                        rintro e wz ⟨rfl, htz⟩
                        have HTZ := Lib.hid htz; clear htz HTA
                        go_wp2
                        go_roundw
                        case rel => exact ⟨j + 1, _, _, by omega, by go_num, by omega, HTZ.out⟩
                        case measure => simp [intOf]; omega
                      · clear qa qb qc k1
                        have hta := HTS.out
                        have HTA := Lib.hid hta; clear hta
                        go_wp2_with fail
                        refine (two.shows HTA.out (by omega) (by omega) 1000 (by omega)).mono ?_
                        rintro e wz ⟨rfl, htz⟩
                        have HTZ := Lib.hid htz; clear htz HTA
                        go_wp2
                        go_roundw
                        case rel => exact ⟨j + 1, _, _, by omega, by go_num, by omega, HTZ.out⟩
                        case measure => simp [intOf]; omega
            · obtain rfl : j = k := by omega
              clear HMEM HIT
              have HTW := Lib.hid htw; clear htw
              go_wp2_with fail
              refine (two.shows HTW.out (by omega) (by omega) most (by omega)).mono ?_
              rintro e v1 ⟨rfl, ht1'⟩
              have HT1 := Lib.hid ht1'; clear ht1'
              go_wp2_with fail
              refine (law23.awake v1).mono ?_
              rintro e v2 ⟨rfl, hb2⟩
              have HB2 := Lib.hid (HT1.out.below.trans (hb2.mono HT1.out.below.size)); clear hb2
              go_wp2
              go_ret
              exact ⟨rfl, HB2.out⟩
    · have ht3 : 1000 < t := by omega
      clear HT
      by_cases hlt : k < n
      · have hlt' : (k : Int) < n := by omega
        go_wp2_with fail
        refine (law23.awake wr).mono ?_
        rintro e w1 ⟨rfl, hb1⟩
        have HB1 := Lib.hid (HB.out.trans (hb1.mono HB.out.size)); clear hb1
        go_wp2
        go_ret
        exact ⟨rfl, HB1.out⟩
      · obtain rfl : k = n := by omega
        clear hlt
        go_wp2_with fail
        refine (law23.awake wr).mono ?_
        rintro e w1 ⟨rfl, hb1⟩
        have HB1 := Lib.hid (HB.out.trans (hb1.mono HB.out.size)); clear hb1
        go_wp2
        go_ret
        exact ⟨rfl, HB1.out⟩
end Go.Proofs.Ytbbekgliaedigaa

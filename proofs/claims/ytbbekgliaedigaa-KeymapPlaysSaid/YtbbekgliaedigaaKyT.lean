/- The walk of the law KeymapPlays: it answers true, whatever the input. -/
import Derived.Test.YtbbekgliaedigaaKyU
import Derived.BigQuiet
import Derived.Deep.QuietTactic
import Derived.Test.YtbbekgliaedigaaKeyH
namespace Go.Proofs.Ytbbekgliaedigaa
open Go.RowKit Go.Maps

theorem ktotal_mem {xs : List KStep} {x : KStep} (h : x ∈ xs) : x.key.length ≤ ktotal xs := by
  induction xs with
  | nil => cases h
  | cons y xs ih =>
    unfold ktotal at *
    simp only [List.map_cons, List.sum_cons]
    rcases List.mem_cons.1 h with rfl | h
    · omega
    · have := ih h
      omega

set_option maxRecDepth 20000 in
set_option maxHeartbeats 4000000 in
theorem law12.plays (most : Int) (A : Option Addr) (n c : Nat) (xs : List KStep) (B : Option Addr) (bn bc : Nat) (look : List Nat) (q : Int) (w : World) (hl : xs.length = n ∧ n ≤ c ∧ c ≤ maxLen) (hit : KSteps w A xs) (hbl : look.length = bn) (hbn : bn ≤ maxLen) (hbt : At w B bn (byteAt look)) :
    Calls Try.prog 3 #[.int .i64 most, .slice A n c, .slice B bn bc, .int .i64 q] w fun e w' => e = .returned (.bool true) ∧ Below w.heap.size w w' := by
  obtain ⟨hl, hnc, hcm⟩ := hl
  have HIT := Lib.hid hit; clear hit
  have HL := Lib.hid hl; clear hl
  have HLK := Lib.hid (And.intro hbl hbt); clear hbl hbt
  unfold maxLen at hcm hbn
  go_enter Try.func3, Try.ntmps3
  go_wp2
  go_loopw [9, 10] (fun x i wr => ∃ (k : Nat) (t : Int), k ≤ n ∧ i = .int .i64 (k : Int) ∧ x = .int .i64 t ∧ 0 ≤ t ∧ t ≤ 1099511627776 ∧ (t ≤ 2000 → t = (ktotal (xs.take k) : Nat)) ∧ Below w.heap.size w wr) (fun _ i _ => n - (intOf i).toNat)
  case atStart => exact ⟨0, 0, by omega, rfl, rfl, by omega, by omega, by simp [ktotal], Below.refl _ _⟩
  case round =>
    obtain ⟨k, t, hk, rfl, rfl, ht0, ht1, ht, hb⟩ := hrel
    have HT := Lib.hid ht; clear ht
    have HB := Lib.hid hb; clear hb
    by_cases ht2 : t ≤ 2000
    · by_cases hlt : k < n
      · have hlt' : (k : Int) < n := by omega
        have hkx : k < xs.length := by rw [HL.out]; exact hlt
        obtain ⟨b, off, rfl, hbb, X, cx, c0, c1, -, hlx, -⟩ := (HIT.out.below HB.out (Nat.le_refl _)).at' k hkx
        obtain ⟨m, hm⟩ : ∃ m, m = (xs[k]).key.length := ⟨_, rfl⟩
        have hsucc := ktotal_succ xs k hkx
        rw [← hm] at c0 hlx hsucc
        have HS := Lib.hid hsucc; clear hsucc hm c1
        unfold maxLen at hlx
        go_wp2_with fail
        refine (alike.sum_any t (some ⟨wr.heap.size, 0, none⟩) 2 2 [(m : Int), 1] _ ht0 ht1 (by omega) rfl ((At.new wr #[.int .i64 (m : Int), .int .i64 1] 3 (n := 2) rfl).congr fun j hj => by
          rcases j with _ | _ | j
          · rfl
          · rfl
          · omega) (by simp; omega)).mono ?_
        rintro e w1 ⟨rfl, rfl⟩
        have hsum : alike.sum t [(m : Int), 1] = min (t + ((m : Int) + 1)) 1099511627776 := by simp [alike.sum]
        rw [hsum]
        clear hsum
        obtain ⟨u, hu⟩ : ∃ u, u = min (t + ((m : Int) + 1)) 1099511627776 := ⟨_, rfl⟩
        rw [← hu]
        have hu0 : 0 ≤ u := by omega
        have hu1 : u ≤ 1099511627776 := by omega
        have hnext : u ≤ 2000 → u = (ktotal (xs.take (k + 1)) : Nat) := fun h => by
          have := HT.out ht2
          rw [HS.out]
          omega
        have HN := Lib.hid hnext; clear hnext
        clear hu
        go_wp2
        go_roundw
        case rel => exact ⟨k + 1, u, by omega, by go_num, rfl, hu0, hu1, HN.out, HB.out.alloc HB.out.size _⟩
        case measure => simp [intOf]; omega
      · obtain rfl : k = n := by omega
        obtain ⟨hn2000, hmem⟩ : k ≤ 2000 ∧ ∀ x ∈ xs, x.key.length ≤ 2000 := by
          have h1 := HT.out ht2
          rw [List.take_of_length_le (by rw [HL.out]; exact Nat.le_refl _)] at h1
          have h2 := ktotal_len xs
          rw [HL.out] at h2
          exact ⟨by omega, fun x hx => by have := ktotal_mem hx; omega⟩
        have HMEM := Lib.hid hmem; clear hmem
        have ht3 : ¬ 2000 < t := by omega
        clear hlt HT
        by_cases hq : q < 0
        · go_wp2_with fail
          refine (key.awake_any wr).mono ?_
          rintro e w1 ⟨rfl, hb1⟩
          have HB1 := Lib.hid (HB.out.trans (hb1.mono HB.out.size)); clear hb1
          go_wp2
          go_ret
          exact ⟨rfl, HB1.out⟩
        · by_cases hmost : 1 ≤ most ∧ most ≤ 1000000
          · obtain ⟨hm1, hm2⟩ := hmost
            go_wp2_with fail
            refine (key.new_any most wr ⟨hm1, hm2⟩).mono ?_
            rintro e w1 ⟨⟨p, b, rfl, hk1, hp1, hb1⟩, hbe1⟩
            have HK1 := Lib.hid hk1; clear hk1
            have HB1 := Lib.hid (HB.out.trans (hbe1.mono HB.out.size)); clear hbe1
            have hwp : w.heap.size ≤ p := by have := HB.out.size; omega
            have hwb : w.heap.size ≤ b := by have := HB.out.size; omega
            clear HB
            go_wp2_with fail
            obtain ⟨r, hr⟩ : ∃ r, r = w1.heap.size := ⟨_, rfl⟩
            obtain ⟨w2, hw2⟩ : ∃ w2, w2 = w1.alloc (.cells #[.int .i64 most, .slice none 0 0] 35) := ⟨_, rfl⟩
            rw [← hw2, ← hr]
            have hmt : MTwo w p b r most 0 (fun _ => none) [] w2 := by
              have hbx : Below w1.heap.size w1 w2 := by rw [hw2]; exact (Below.refl _ _).alloc (Nat.le_refl _) _
              refine ⟨HK1.out.keep hbx, ⟨.slice none 0 0, ?_, World.ownsRow_nil _ _ _ _, by simp⟩, HB1.out.trans (hbx.mono HB1.out.size), hwp, hwb, by rw [hr]; exact HB1.out.size⟩
              rw [hw2, hr]
              exact Blk.new _ _ _
            have HMT := Lib.hid hmt; clear hmt hw2 hr HK1 HB1
            go_wp2_with fail
            go_loopw [15] (fun i wr => ∃ (j N : Nat) (g : ByteArray → Option Int) (l : List PItm), j ≤ k ∧ i = .int .i64 (j : Int) ∧ N ≤ j ∧ MapIs N g l ∧ (∀ x ∈ l, x.vs = [] ∧ x.bs.length ≤ 2000) ∧ MTwo w p b r most N g l wr) (fun i _ => k - (intOf i).toNat)
            case atStart => exact ⟨0, 0, _, [], by omega, rfl, by omega, MapIs.nil, by simp, HMT.out⟩
            case round =>
              obtain ⟨j, N, g, l, hj, rfl, hNj, his, hall, hmt⟩ := hrel
              clear HMT
              have HIS := Lib.hid his; clear his
              have HALL := Lib.hid hall; clear hall
              by_cases hjk : j < k
              · have hjk' : (j : Int) < k := by omega
                have hjx : j < xs.length := by rw [HL.out]; exact hjk
                obtain ⟨b0, off, rfl, hbb, X, cx, c0, c1, hat, hlx, -, ho1, ho2⟩ := HIT.out.at' j hjx
                have hsz := HMEM.out _ (List.getElem_mem hjx)
                obtain ⟨K, hK⟩ : ∃ K, K = (xs[j]).key := ⟨_, rfl⟩
                rw [← hK] at c0 hat hlx hsz
                obtain ⟨m, hm⟩ : ∃ m, m = K.length := ⟨_, rfl⟩
                rw [← hm] at c0 hat hlx hsz
                have HM := Lib.hid hm; clear hm hK
                generalize (xs[j]).off = o at *
                have HAT := Lib.hid hat; clear hat
                have hd0 : ∀ {wx : World}, Below w.heap.size w wx → wx.cell? ⟨b0, off + j * 2, none⟩ = some (.slice X m cx) := fun hbx => (hbx.cell (p := ⟨b0, off + j * 2, none⟩) hbb).trans c0
                have hd1 : ∀ {wx : World}, Below w.heap.size w wx → wx.cell? ⟨b0, off + j * 2 + 1, none⟩ = some (.int .i64 o) := fun hbx => (hbx.cell (p := ⟨b0, off + j * 2 + 1, none⟩) hbb).trans c1
                have HD := Lib.hid (And.intro @hd0 @hd1); clear hd0 hd1 c0 c1
                have HMT := Lib.hid hmt; clear hmt
                have hoi := HIS.out.offer most (POff X m cx K o)
                have hall' : ∀ y ∈ pf.offer l most (POff X m cx K o), y.vs = [] ∧ y.bs.length ≤ 2000 := pf.offer_all HALL.out fun o' => ⟨rfl, by have h1 := HM.out; show K.length ≤ 2000; omega⟩
                have hup := key.cnt_up N most g (strOf K)
                have hcan := HIS.out.can most (strOf K)
                have hll : l.length ≤ 10000 := by have h1 := HIS.out.len; omega
                have hoN := fun (wx : World) (h : MTwo w p b r most N g l wx) => mtwo.offerN h X m cx K o HM.out.symm (by unfold maxLen; omega) HAT.out ⟨ho1, ho2⟩ (by unfold maxLen; omega)
                have hoR := fun (wx : World) (N2 : Nat) (g2 : ByteArray → Option Int) (h : MTwo w p b r most N2 g2 l wx) => mtwo.offerR h hll X m cx K o HM.out.symm (by omega) HAT.out
                have hoi' : MapIs (key.cnt N most g (strOf K)) (key.put N most g (strOf K) o) (pf.offer l most (POff X m cx K o)) := hoi
                rw [hcan] at hoN
                clear hoi hcan
                generalize pf.can l most (strOf K) = cb at *
                generalize key.cnt N most g (strOf K) = N' at *
                generalize key.put N most g (strOf K) o = g' at *
                generalize pf.offer l most (POff X m cx K o) = l' at *
                have HON := Lib.hid hoN; clear hoN
                have HOR := Lib.hid hoR; clear hoR
                have HOI := Lib.hid hoi'; clear hoi'
                have HAL := Lib.hid hall'; clear hall'
                have qk : ∀ x : Under w, x.1.cell? ⟨b0, off + j * 2, none⟩ = some (.slice X m cx) := fun x => HD.out.1 x.2
                have qo : ∀ x : Under w, x.1.cell? ⟨b0, off + j * 2 + 1, none⟩ = some (.int .i64 o) := fun x => HD.out.2 x.2
                clear HIS HALL HAT HM
                go_upto_region 18 with fail
                have hS0 : ∃ x : Under w, wr.drew = x.1 := under_of (bdrew HMT.out.below 1)
                refine wp_plan (S := fun w0 => ∃ x : Under w, w0 = x.1) (by kernel_rfl) hS0 ?_
                intro hS K5 hK5
                have HS := Lib.hid hS; clear hS hS0
                refine plan_group [true, true, true, true, true, true, true, true, true, true, true, false, true, true, true, true, true, true, true, true, true, true, true] [0, 1, 2, 3, 4, 5, 6, 7, 8, 9, 10, 12, 13, 14, 15, 16, 17, 18, 19, 20, 21, 22] 13 (by dsimp only [sel]) (by rfl) rfl (by kernel_rfl) (by kernel_rfl) HS.out ?_
                (repeat go_big_quiet_step (fail)); refine wpQuiet_nil ?_
                clear qk qo
                refine plan_one [false, false, false, false, false, false, false, false, false, false, false, true] 11 12 (by dsimp only [sel]) (by rfl) rfl (by kernel_rfl) ?_; intro K1 hK1; go_wp2_with fail
                refine (HON.out _ (HMT.out.under (bdrew (Below.refl _ wr) 1))).mono ?_
                rintro e v1 ⟨rfl, ht1⟩
                have HT1 := Lib.hid ht1; clear ht1
                go_wp2_with fail
                refine ⟨under_of HT1.out.below, ?_⟩
                refine plan_one [false, false, false, false, false, false, false, false, false, false, false, false, false, false, false, false, false, false, false, false, false, false, false, true] 23 11 (by dsimp only [sel]) (by rfl) rfl (by kernel_rfl) ?_; intro K1 hK1; go_wp2_with fail
                refine (HOR.out _ _ _ HT1.out).mono ?_
                rintro e v2 ⟨rfl, ht2⟩
                obtain ⟨A3, c3, -, q31⟩ := ht2.rm.cell
                rw [← HOI.out.len] at q31
                have HT2 := Lib.hid ht2; clear ht2
                go_wp2_with fail
                refine ⟨under_of HT2.out.below, ?_⟩
                refine plan_sub (S' := fun w0 => ∃ x : Under v2, w0 = x.1) (under_sub HT2.out.below) _ _ _ _ ?_
                have HS2 := Lib.hid (show ∃ x : Under v2, v2 = x.1 from under_of (Below.refl _ _))
                refine plan_group [false, false, false, false, false, false, false, false, false, false, false, false, false, false, false, false, false, false, false, false, false, false, false, false, true, true, true, false, true, true, true, true, true] [24, 25, 26, 28, 29, 30, 31, 32] 3 (by dsimp only [sel]) (by rfl) rfl (by kernel_rfl) (by kernel_rfl) HS2.out ?_
                (repeat go_big_quiet_step (fail)); refine wpQuiet_nil ?_
                refine plan_one [false, false, false, false, false, false, false, false, false, false, false, false, false, false, false, false, false, false, false, false, false, false, false, false, false, false, false, true] 27 2 (by dsimp only [sel]) (by rfl) rfl (by kernel_rfl) ?_; intro K1 hK1; go_wp2_with fail
                refine (key.len_any p b most N' g' v2 HT2.out.km).mono ?_
                rintro e v3 ⟨rfl, rfl⟩
                go_wp2_with fail
                refine ⟨HS2.out, ?_⟩
                refine plan_group [false, false, false, false, false, false, false, false, false, false, false, false, false, false, false, false, false, false, false, false, false, false, false, false, false, false, false, false, false, false, false, false, false, true, true] [33, 34] 0 (by dsimp only [sel]) (by rfl) rfl (by kernel_rfl) (by kernel_rfl) HS2.out ?_
                (repeat go_big_quiet_step (fail)); refine wpQuiet_nil ?_
                refine wp_plan_end (by kernel_rfl) ?_
                go_wp2_with fail
                go_roundw
                case rel => exact ⟨j + 1, N', g', l', by omega, by go_num, by omega, HOI.out, HAL.out, HT2.out⟩
                case measure => simp [intOf]; omega
              · obtain rfl : j = k := by omega
                obtain ⟨LV, hLV⟩ : ∃ LV, LV = (pf.look l (strOf look)).getD 0 := ⟨_, rfl⟩
                obtain ⟨LB, hLB⟩ : ∃ LB, LB = (pf.look l (strOf look)).isSome := ⟨_, rfl⟩
                have hNl := HIS.out.len
                have hlN := fun (wx : World) (h : MTwo w p b r most N g l wx) => mtwo.lastN h HIS.out B bn bc look HLK.out.1 hbn HLK.out.2
                have hlR := fun (wx : World) (h : MTwo w p b r most N g l wx) => mtwo.lastR h (by omega) B bn bc look HLK.out.1 HLK.out.2
                rw [← hLV, ← hLB] at hlN hlR
                clear hLV hLB
                have HLN := Lib.hid hlN; clear hlN
                have HLR := Lib.hid hlR; clear hlR
                have hkeys := fun (wx : World) (h : KM wx p b most N g) (n : Int) (hn : 0 ≤ n) => KM.keysIs h HIS.out (fun x hx => ⟨(HALL.out x hx).1, by have := (HALL.out x hx).2; omega⟩) (by omega) n hn
                have HKY := Lib.hid hkeys; clear hkeys
                obtain ⟨M2, hM2⟩ : ∃ M2 : Nat, (if (N : Int) < q then (N : Int) else q) = (M2 : Int) := ⟨(if (N : Int) < q then (N : Int) else q).toNat, by split <;> omega⟩
                have HM2 := Lib.hid hM2; clear hM2
                have HNL := Lib.hid hNl; clear hNl
                have HMT := Lib.hid hmt; clear hmt
                go_wp2_with fail
                refine (HLN.out _ HMT.out).mono ?_
                rintro e w1 ⟨rfl, q1, hq1⟩
                have ht1 := HMT.out.under (bdrew (Below.refl _ wr) q1)
                rw [← hq1] at ht1
                have HT1 := Lib.hid ht1; clear ht1 hq1
                go_wp2_with fail
                refine (HLR.out _ HT1.out).mono ?_
                rintro e w2 ⟨rfl, q2, hq2⟩
                have ht2 := HT1.out.under (bdrew (Below.refl _ w1) q2)
                rw [← hq2] at ht2
                have HT2 := Lib.hid ht2; clear ht2 hq2 HT1 HMT
                go_wp2_with fail
                refine (HKY.out _ HT2.out.km 10000 (by omega)).mono ?_
                rintro e w3 ⟨A1, c1, l1, rfl, -, hat1, hpb1, -, hsays1, hb1⟩
                have hN1 := HNL.out
                have hs1 := hsays1 (by omega)
                have hl1 : l1.length = N := by have := congrArg List.length hs1; rw [List.length_map, List.length_map] at this; omega
                rw [hl1]
                have ht3 := HT2.out.under hb1
                obtain ⟨A3, c3, hat3, q13⟩ := ht3.rm.cell
                rw [← hN1] at q13
                have hsame := fun (wx : World) (h : Below w3.heap.size w3 wx) => pf.same_true A1 N c1 l1 A3 c3 l wx hl1 (by omega) (hat1.below h (Nat.le_refl _)) (fun x hx => (hpb1 x hx).below h (Nat.le_refl _)) (hat3.below h (Nat.le_refl _)) (fun x hx => (ht3.rm.bytes x hx).below ((ht3.below).trans (h.mono ht3.below.size)) (Nat.le_refl _)) hs1
                have HSAME := Lib.hid hsame; clear hsame
                have HT3 := Lib.hid ht3; clear ht3 hat1 hpb1 hsays1 hb1 hN1 hs1 hl1 hat3 HT2
                have qd : w3.drew.cell? ⟨r, 1, none⟩ = some (.slice A3 N c3) := q13 ⟨w3.drew, bdrew (Below.refl _ _) 1⟩
                have q0 : w3.cell? ⟨r, 1, none⟩ = some (.slice A3 N c3) := q13 ⟨w3, Below.refl _ _⟩
                go_upto_region 23 with fail
                have hS0 : ∃ x : Under w3, w3.drew = x.1 := under_of (bdrew (Below.refl _ _) 1)
                refine wp_plan (S := fun w0 => ∃ x : Under w3, w0 = x.1) (by kernel_rfl) hS0 ?_
                intro hS K5 hK5
                have HS := Lib.hid hS; clear hS hS0
                refine plan_group [true, true, true, true, true, true, true, true, true, true, true, true, true] [0, 1, 2, 3, 4, 5, 6, 7, 8, 9, 10, 11, 12] 18 (by dsimp only [sel]) (by rfl) rfl (by kernel_rfl) (by kernel_rfl) HS.out ?_
                (repeat go_big_quiet_step (fail)); refine wpQuiet_nil ?_
                refine plan_one [false, false, false, false, false, false, false, false, false, false, false, false, false, true] 13 17 (by dsimp only [sel]) (by rfl) rfl (by kernel_rfl) ?_; intro K1 hK1; go_wp2_with fail
                refine ⟨HS.out, ?_⟩
                refine plan_one [false, false, false, false, false, false, false, false, false, false, false, false, false, false, true] 14 16 (by dsimp only [sel]) (by rfl) rfl (by kernel_rfl) ?_; intro K1 hK1; go_wp2_with fail
                refine (HSAME.out _ (bdrew (Below.refl _ w3) 1)).mono ?_
                rintro e w4 ⟨rfl, q4, hq4⟩
                have hb4 : Below w3.heap.size w3 w4 := by rw [hq4]; exact bdrew (bdrew (Below.refl _ w3) 1) q4
                have HB4 := Lib.hid hb4; clear hb4 hq4
                clear qd q0
                go_wp2_with fail
                refine ⟨under_of HB4.out, ?_⟩
                have hmin := HM2.out
                have hmin2 : min q (N : Int) = (M2 : Int) := by rw [← hmin]; split <;> omega
                refine plan_group [false, false, false, false, false, false, false, false, false, false, false, false, false, false, false, true, true, true, true, true, false, false, true, true, true, true, true, true, true] [15, 16, 17, 18, 19, 22, 23, 24, 25, 26, 27, 28] 4 (by dsimp only [sel]) (by rfl) rfl (by kernel_rfl) (by kernel_rfl) (under_of HB4.out) ?_
                (repeat go_big_quiet_step (fail)); refine wpQuiet_nil ?_
                clear hmin hmin2 q13
                refine plan_one [false, false, false, false, false, false, false, false, false, false, false, false, false, false, false, false, false, false, false, false, true] 20 3 (by dsimp only [sel]) (by rfl) rfl (by kernel_rfl) ?_; intro K1 hK1; go_wp2_with fail
                have ht4 := HT3.out.under HB4.out
                refine (HKY.out _ ht4.km q (by omega)).mono ?_
                rintro e w5 ⟨A5, c5, l5, rfl, -, -, -, hlen5, -, hb5⟩
                have hl5 : l5.length = M2 := by
                  have h1 := HM2.out
                  have h2 := HNL.out
                  rw [← h2] at hlen5
                  omega
                rw [hl5]
                clear hlen5 hl5
                have HB5 := Lib.hid (HB4.out.trans (hb5.mono HB4.out.size)); clear hb5
                have HT5 := Lib.hid (HT3.out.under HB5.out); clear ht4 HT3
                go_wp2_with fail
                refine ⟨under_of HB5.out, ?_⟩
                refine plan_group [false, false, false, false, false, false, false, false, false, false, false, false, false, false, false, false, false, false, false, false, false, true, false, false, false, false, false, false, false, true, true] [21, 29, 30] 0 (by dsimp only [sel]) (by rfl) rfl (by kernel_rfl) (by kernel_rfl) (under_of HB5.out) ?_
                (repeat go_big_quiet_step (fail)); refine wpQuiet_nil ?_
                refine wp_plan_end (by kernel_rfl) ?_
                go_wp2_with fail
                refine (key.last_nil _ _).mono ?_
                rintro e w6 ⟨rfl, rfl⟩
                go_wp2_with fail
                refine (key.offer_nil _ _ _).mono ?_
                rintro e w6 ⟨rfl, rfl⟩
                go_wp2_with fail
                refine (key.len_nil _).mono ?_
                rintro e w6 ⟨rfl, rfl⟩
                go_wp2_with fail
                refine (law12.keys_nil 5 _ (by omega) (Nat.lt_of_le_of_lt (Nat.zero_le _) HT5.out.rm.lt)).mono ?_
                rintro e w6 ⟨v6, rfl, ho6, hb6⟩
                obtain ⟨A6, c6, rfl, -, -⟩ := own_at ho6
                have HB6 := Lib.hid (HT5.out.below.trans (hb6.mono HT5.out.below.size)); clear hb6 ho6
                go_wp2_with fail
                refine (key.awake_any _).mono ?_
                rintro e w7 ⟨rfl, hb7⟩
                have HB7 := Lib.hid (HB6.out.trans (hb7.mono HB6.out.size)); clear hb7
                go_wp2
                go_ret
                exact ⟨rfl, HB7.out⟩
          · by_cases hm1 : 1 ≤ most
            · have hm2 : ¬ most ≤ 1000000 := fun h => hmost ⟨hm1, h⟩
              have hmd : decide (most ≤ 1000000) = false := decide_eq_false hm2
              clear hmost
              go_wp2_with fail
              refine (key.new_bad most wr (by omega)).mono ?_
              rintro e w1 ⟨rfl, rfl⟩
              go_wp2_with fail
              refine (key.awake_any _).mono ?_
              rintro e w2 ⟨rfl, hb1⟩
              have HB1 := Lib.hid (HB.out.trans (hb1.mono HB.out.size)); clear hb1
              go_wp2
              go_ret
              exact ⟨rfl, HB1.out⟩
            · clear hmost
              go_wp2_with fail
              refine (key.new_bad most wr (by omega)).mono ?_
              rintro e w1 ⟨rfl, rfl⟩
              go_wp2_with fail
              refine (key.awake_any _).mono ?_
              rintro e w2 ⟨rfl, hb1⟩
              have HB1 := Lib.hid (HB.out.trans (hb1.mono HB.out.size)); clear hb1
              go_wp2
              go_ret
              exact ⟨rfl, HB1.out⟩
    · have ht3 : 2000 < t := by omega
      clear HT
      by_cases hlt : k < n
      · have hlt' : (k : Int) < n := by omega
        go_wp2_with fail
        refine (key.awake_any wr).mono ?_
        rintro e w1 ⟨rfl, hb1⟩
        have HB1 := Lib.hid (HB.out.trans (hb1.mono HB.out.size)); clear hb1
        go_wp2
        go_ret
        exact ⟨rfl, HB1.out⟩
      · obtain rfl : k = n := by omega
        clear hlt
        go_wp2_with fail
        refine (key.awake_any wr).mono ?_
        rintro e w1 ⟨rfl, hb1⟩
        have HB1 := Lib.hid (HB.out.trans (hb1.mono HB.out.size)); clear hb1
        go_wp2
        go_ret
        exact ⟨rfl, HB1.out⟩
theorem law12.playsZ (most : Int) (A : Option Addr) (n c : Nat) (xs : List KStep) (B : Option Addr) (bn bc : Nat) (z : List Int) (q : Int) (w : World) (hl : xs.length = n ∧ n ≤ c ∧ c ≤ maxLen) (hit : KSteps w A xs) (hm : z.length = bn ∧ bn ≤ bc ∧ bc ≤ maxLen) (hat : At w B bn (fun j => .int .u8 (z.getD j 0))) (hz : ∀ x ∈ z, (Lit.int .u8 x).wf = true) :
    Calls Try.prog 3 #[.int .i64 most, .slice A n c, .slice B bn bc, .int .i64 q] w fun e w' => e = .returned (.bool true) ∧ Below w.heap.size w w' :=
  law12.plays most A n c xs B bn bc (z.map Int.toNat) q w hl hit (by rw [List.length_map]; exact hm.1) (Nat.le_trans hm.2.1 hm.2.2) (ints_bytes hat hm.1 hz).1
end Go.Proofs.Ytbbekgliaedigaa

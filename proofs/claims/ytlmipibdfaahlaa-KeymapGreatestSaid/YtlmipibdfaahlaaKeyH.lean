/- The walk of the law KeymapGreatest: it answers true, whatever the input. -/
import Derived.Test.YtlmipibdfaahlaaKeyG
namespace Go.Proofs.Ytlmipibdfaahlaa
open Go.RowKit Go.Maps

theorem text_ne {a b : ByteArray} (h : a ≠ b) : (a.toList == b.toList) = false := by
  rw [Bool.eq_false_iff]
  intro e
  rw [beq_iff_eq, ByteArray.toList_eq, ByteArray.toList_eq] at e
  exact h (ByteArray.ext (Array.ext' e))
def KHRel (w : World) (p b n : Nat) (xs : List KStep) (k : Nat) (wr : World) : Prop := ∃ N, N ≤ n - k ∧ KM wr p b 2000 N (gOf (xs.drop k)) ∧ Below w.heap.size w wr
theorem KHRel.next {w wr w2 : World} {p b n k N : Nat} {xs : List KStep} (hk : k + 1 ≤ n) (hl : xs.length = n) (hN : N ≤ n - (k + 1)) (hn : n ≤ 1000) (hb : Below w.heap.size w wr) (h : KM w2 p b 2000 (key.cnt N 2000 (gOf (xs.drop (k + 1))) (strOf (xs[k]'(by omega)).key)) (key.put N 2000 (gOf (xs.drop (k + 1))) (strOf (xs[k]'(by omega)).key) (xs[k]'(by omega)).off))
    (hc : Chg wr w2 (fun j => j = b)) (hwb : w.heap.size ≤ b) : KHRel w p b n xs k w2 := by
  have hle := key.cnt_le N 2000 (gOf (xs.drop (k + 1))) (strOf (xs[k]'(by omega)).key)
  rw [key.put_max _ _ _ _ _ (by omega), ← gOf_drop] at h
  exact ⟨_, by omega, h, hb.trans (hc.below hb.size fun j hj => by omega)⟩

set_option maxRecDepth 20000 in
set_option maxHeartbeats 2000000 in
theorem key.lawGreatest (A : Option Addr) (n c : Nat) (xs : List KStep) (w : World) (hl : xs.length = n ∧ n ≤ c ∧ c ≤ maxLen) (hit : KSteps w A xs) :
    Calls Try.prog 5 #[.slice A n c] w fun e w' => e = .returned (.bool true) ∧ Below w.heap.size w w' := by
  obtain ⟨hl, hnc, hcm⟩ := hl
  have HIT := Lib.hid hit; clear hit
  have HL := Lib.hid hl; clear hl
  unfold maxLen at hcm
  go_enter Try.func5, Try.ntmps5
  go_wp2
  go_loopw [3, 4] (fun x i wr => ∃ (k : Nat) (t : Int), k ≤ n ∧ i = .int .i64 (k : Int) ∧ x = .int .i64 t ∧ 0 ≤ t ∧ t ≤ 1099511627776 ∧ (t ≤ 1000 → t = (ktotal (xs.take k) : Nat)) ∧ Below w.heap.size w wr) (fun _ i _ => n - (intOf i).toNat)
  case atStart => exact ⟨0, 0, by omega, rfl, rfl, by omega, by omega, by simp [ktotal], Below.refl _ _⟩
  case round =>
    obtain ⟨k, t, hk, rfl, rfl, ht0, ht1, ht, hb⟩ := hrel
    have HT := Lib.hid ht; clear ht
    have HB := Lib.hid hb; clear hb
    by_cases ht2 : t ≤ 1000
    · by_cases hlt : k < n
      · have hlt' : (k : Int) < n := by omega
        have hkx : k < xs.length := by rw [HL.out]; exact hlt
        obtain ⟨b, off, rfl, hbb, X, cx, c0, c1, -, hlx, -⟩ := (HIT.out.below HB.out (Nat.le_refl _)).at' k hkx
        obtain ⟨m, hm⟩ : ∃ m, m = (xs[k]).key.length := ⟨_, rfl⟩
        have hsucc := ktotal_succ xs k hkx
        rw [← hm] at c0 hlx hsucc
        have HS := Lib.hid hsucc; clear hsucc hm c1
        unfold maxLen at hlx
        go_wp2_with fail
        refine (alike.sum_any t (some ⟨wr.heap.size, 0, none⟩) 2 2 [(m : Int), 1] _ ht0 ht1 (by omega) rfl ((At.new wr #[.int .i64 (m : Int), .int .i64 1] 3 (n := 2) rfl).congr fun j hj => by
          rcases j with _ | _ | j
          · rfl
          · rfl
          · omega) (by simp; omega)).mono ?_
        rintro e w1 ⟨rfl, rfl⟩
        have hsum : alike.sum t [(m : Int), 1] = min (t + ((m : Int) + 1)) 1099511627776 := by simp [alike.sum]
        rw [hsum]
        clear hsum
        obtain ⟨u, hu⟩ : ∃ u, u = min (t + ((m : Int) + 1)) 1099511627776 := ⟨_, rfl⟩
        rw [← hu]
        have hu0 : 0 ≤ u := by omega
        have hu1 : u ≤ 1099511627776 := by omega
        have hnext : u ≤ 1000 → u = (ktotal (xs.take (k + 1)) : Nat) := fun h => by
          have := HT.out ht2
          rw [HS.out]
          omega
        have HN := Lib.hid hnext; clear hnext
        clear hu
        go_wp2
        go_roundw
        case rel => exact ⟨k + 1, u, by omega, by go_num, rfl, hu0, hu1, HN.out, HB.out.alloc HB.out.size _⟩
        case measure => simp [intOf]; omega
      · obtain rfl : k = n := by omega
        have hn1000 : k ≤ 1000 := by
          have h1 := HT.out ht2
          rw [List.take_of_length_le (by rw [HL.out]; exact Nat.le_refl _)] at h1
          have h2 := ktotal_len xs
          rw [HL.out] at h2
          omega
        have ht3 : ¬ 1000 < t := by omega
        clear hlt HT
        go_wp2_with fail
        refine (key.new_any 2000 wr (by omega)).mono ?_
        rintro e w1 ⟨⟨p, b, rfl, hk1, hp1, hb1⟩, hbe1⟩
        have hHR : KHRel w p b k xs k w1 := ⟨0, by omega, by rw [List.drop_eq_nil_of_le (by rw [HL.out]; exact Nat.le_refl _)]; exact hk1, HB.out.trans (hbe1.mono HB.out.size)⟩
        have HHR := Lib.hid hHR; clear hHR hk1 hbe1
        have hwp : w.heap.size ≤ p := by have := HB.out.size; omega
        have hwb : w.heap.size ≤ b := by have := HB.out.size; omega
        clear HB
        go_wp2
        go_loopw [7] (fun i wr => ∃ d : Nat, d ≤ k ∧ i = .int .i64 ((d : Int) - 1) ∧ KHRel w p b k xs d wr) (fun i _ => (intOf i + 1).toNat)
        case atStart => exact ⟨k, by omega, by go_num, HHR.out⟩
        case round =>
          obtain ⟨d, hd, rfl, hrel⟩ := hrel
          clear HHR
          have HREL := Lib.hid hrel; clear hrel
          cases d with
          | succ d =>
            rw [show ((d + 1 : Nat) : Int) - 1 = (d : Int) by omega]
            obtain ⟨N, hN, hkm, hb⟩ := HREL.out
            have hdx : d < xs.length := by rw [HL.out]; omega
            have hdk : d < k := by omega
            obtain ⟨bs, off, rfl, hbb, X, cx, c0, c1, hat, hlx, -, ho1, ho2⟩ := (HIT.out.below hb (Nat.le_refl _)).at' d hdx
            have hcon := key.offer_any p b 2000 N (gOf (xs.drop (d + 1))) X cx (xs[d]).key (xs[d]).off wr.drew ⟨hkm.blk, hkm.map.of_block rfl⟩ hlx (hat.drew 1) ⟨ho1, ho2⟩ (by unfold maxLen; omega)
            have HC := Lib.hid hcon; clear hcon hkm hat
            have HB2 := Lib.hid hb; clear hb
            have hfin : ∀ w2, KM w2 p b 2000 (key.cnt N 2000 (gOf (xs.drop (d + 1))) (strOf (xs[d]).key)) (key.put N 2000 (gOf (xs.drop (d + 1))) (strOf (xs[d]).key) (xs[d]).off) → Chg wr.drew w2 (fun j => j = b) → KHRel w p b k xs d w2 := fun w2 h2 h3 =>
              KHRel.next (by omega) HL.out (by omega) hn1000 HB2.out h2 ⟨h3.os, h3.tape, h3.output, h3.size, h3.block⟩ hwb
            have HF := Lib.hid hfin; clear hfin
            have hcan := key.can_true N 2000 (gOf (xs.drop (d + 1))) (strOf (xs[d]).key) (by omega)
            have HCAN := Lib.hid hcan; clear hcan
            unfold maxLen at hlx
            generalize hlk : (xs[d]).key.length = m at *
            generalize hof : (xs[d]).off = o at *
            go_wp2_with fail
            go_region_law
              ((go_simp; go_at_call 19; refine HC.out.mono ?_; rintro e w2 ⟨rfl, h2, h3, -⟩; rw [HCAN.out]; have HP2 := Lib.hid (HF.out _ h2 h3); clear h2 h3))
            all_goals
              go_wp2
              go_roundw
              case rel => exact ⟨d, by omega, by go_num, HP2.out⟩
              case measure => simp [intOf]
          | zero =>
            rw [show ((0 : Nat) : Int) - 1 = -1 by omega]
            obtain ⟨N, hN, hkm, hb⟩ := HREL.out
            rw [List.drop_zero] at hkm
            have HK := Lib.hid hkm; clear hkm
            have HB2 := Lib.hid hb; clear hb HREL
            obtain ⟨w2, hw2⟩ : ∃ w2, w2 = wr := ⟨_, rfl⟩
            have HIT2 := Lib.hid (HIT.out.below HB2.out (Nat.le_refl _))
            rw [← hw2] at HK HB2 HIT2 ⊢
            clear hw2
            go_wp2
            go_loopw [8] (fun i wr => ∃ j q : Nat, j ≤ k ∧ i = .int .i64 (j : Int) ∧ wr = w2.drewN q) (fun i _ => k - (intOf i).toNat)
            case atStart => exact ⟨0, 0, by omega, rfl, rfl⟩
            case round =>
              obtain ⟨j, q, hj, rfl, rfl⟩ := hrel
              by_cases hjk : j < k
              · have hjx : j < xs.length := by rw [HL.out]; exact hjk
                obtain ⟨bs, off, rfl, hbb, X, cx, c0, c1, hat, hlx, -, ho1, ho2⟩ := HIT2.out.at' j hjx
                have hall := kwant_all xs j hjx
                have hbd : ∀ m, -9223372036854775808 ≤ kwant (xs.take m) (strOf (xs[j]).key) (xs[j]).off ∧ kwant (xs.take m) (strOf (xs[j]).key) (xs[j]).off ≤ 9223372036854775807 := fun m => kwant_bd _ _ _ (fun x hx => by
                  obtain ⟨i, hi, e⟩ := List.getElem_of_mem (List.mem_of_mem_take hx)
                  obtain ⟨_, _, _, _, _, _, _, _, _, _, _, h1, h2⟩ := HIT2.out.at' i hi
                  rw [← e]; exact ⟨h1, h2⟩) ⟨ho1, ho2⟩
                have hsj : (strOf (xs[j]).key).size ≤ maxLen := by rw [strOf_size]; exact hlx
                have HAT := Lib.hid hat; clear hat
                have hcj := fun q => conv_any (c := cx) Try.underlying24 Try.underlying5 Try.underlying9 (xs[j]).key rfl (HAT.out.drew q)
                have hlast := fun q => key.last_any p b 2000 N (gOf xs) X cx (xs[j]).key (w2.drewN q) (key.of_drew HK.out ⟨q, rfl⟩) hlx (HAT.out.drew q)
                rw [hall] at hlast
                have HLAST := Lib.hid hlast; clear hlast hall
                have HCJ := Lib.hid hcj; clear hcj
                have HBD := Lib.hid hbd; clear hbd
                clear HAT ho1 ho2
                unfold maxLen at hlx
                generalize hlk : (xs[j]).key.length = lj at *
                generalize hof : (xs[j]).off = oj at *
                generalize hsg : strOf (xs[j]).key = sj at *
                have d0 : (w2.drewN q).cell? ⟨bs, off + j * 2, none⟩ = some (.slice X lj cx) := c0
                have d1 : (w2.drewN q).cell? ⟨bs, off + j * 2 + 1, none⟩ = some (.int .i64 oj) := c1
                go_wp2
                go_loopw [9, 10] (fun v i wr => ∃ (m q : Nat) (wv : Int), m ≤ k ∧ i = .int .i64 (m : Int) ∧ v = .int .i64 wv ∧ wv = kwant (xs.take m) sj oj ∧ wr = w2.drewN q) (fun _ i _ => k - (intOf i).toNat)
                case atStart => exact ⟨0, q, oj, by omega, rfl, rfl, rfl, rfl⟩
                case round =>
                  obtain ⟨m, q2, wv, hm, rfl, rfl, hwv, rfl⟩ := hrel
                  have HWV := Lib.hid hwv; clear hwv
                  by_cases hmk : m < k
                  · have hmx : m < xs.length := by rw [HL.out]; exact hmk
                    obtain ⟨_, _, e, -, Y, cy, e0, e1, hat2, hly, -, hp1, hp2⟩ := HIT2.out.at' m hmx
                    cases e
                    have hcm := fun q => conv_any (c := cy) Try.underlying24 Try.underlying5 Try.underlying9 (xs[m]).key rfl (hat2.drew q)
                    have hcj := HCJ.out
                    have hsucc := kwant_succ xs sj oj m hmx
                    rw [← HWV.out] at hsucc
                    have HS := Lib.hid hsucc; clear hsucc hat2
                    unfold maxLen at hly
                    generalize hlk2 : (xs[m]).key.length = lm at *
                    generalize hof2 : (xs[m]).off = om at *
                    generalize hsg2 : strOf (xs[m]).key = sm at *
                    by_cases hs : sm = sj
                    · have HS2 := Lib.hid (HS.out.trans (if_pos hs)); clear HS
                      subst hs
                      go_wp2_with fail
                      go_quiet (fail)
                      go_wp2_with fail
                      go_roundw
                      case rel => exact ⟨m + 1, _, _, by omega, by go_num, rfl, by rw [HS2.out]; split <;> omega, rfl⟩
                      case measure => simp [intOf]; omega
                    · have HS2 := Lib.hid (HS.out.trans (if_neg hs)); clear HS
                      have hs1 : (sm.toList == sj.toList) = false := text_ne hs
                      clear hs
                      go_wp2_with fail
                      go_quiet (fail)
                      go_wp2_with fail
                      go_roundw
                      case rel => exact ⟨m + 1, _, _, by omega, by go_num, rfl, HS2.out.symm, rfl⟩
                      case measure => simp [intOf]; omega
                  · obtain rfl : m = k := by omega
                    rw [List.take_of_length_le (by rw [HL.out]; exact Nat.le_refl _)] at HWV
                    have hl2 := HLAST.out q2
                    rw [← HWV.out] at hl2
                    have HL2 := Lib.hid hl2; clear hl2
                    have hwb1 := HBD.out m
                    go_wp2_with fail
                    refine HL2.out.mono ?_
                    rintro e w3 ⟨rfl, q3, rfl⟩
                    go_wp2
                    go_roundw
                    case rel => exact ⟨j + 1, _, by omega, by go_num, rfl⟩
                    case measure => simp [intOf]; omega
              · obtain rfl : j = k := by omega
                have HB3 := Lib.hid (bdrew HB2.out q)
                generalize w2.drewN q = w3 at *
                go_wp2_with fail
                refine (key.awake_any w3).mono ?_
                rintro e w4 ⟨rfl, hb4⟩
                have HB4 := Lib.hid (HB3.out.trans (hb4.mono HB3.out.size)); clear hb4
                go_wp2
                go_ret
                exact ⟨rfl, HB4.out⟩
    · have ht3 : 1000 < t := by omega
      clear HT
      by_cases hlt : k < n
      · have hlt' : (k : Int) < n := by omega
        go_wp2_with fail
        refine (key.awake_any wr).mono ?_
        rintro e w1 ⟨rfl, hb1⟩
        have HB1 := Lib.hid (HB.out.trans (hb1.mono HB.out.size)); clear hb1
        go_wp2
        go_ret
        exact ⟨rfl, HB1.out⟩
      · obtain rfl : k = n := by omega
        clear hlt
        go_wp2_with fail
        refine (key.awake_any wr).mono ?_
        rintro e w1 ⟨rfl, hb1⟩
        have HB1 := Lib.hid (HB.out.trans (hb1.mono HB.out.size)); clear hb1
        go_wp2
        go_ret
        exact ⟨rfl, HB1.out⟩
end Go.Proofs.Ytlmipibdfaahlaa

/- The law package's may and all (cordwainlaw14). -/
import Derived.Test.YtnlfdhoabbbheaaClP
import Derived.Test.YtnlfdhoabbbheaaClF
namespace Go.Proofs.Ytnlfdhoabbbheaa
open Go.RowKit Go.Maps
set_option maxRecDepth 100000

set_option maxHeartbeats 2000000 in
theorem law14.all_any (A : Option Addr) (n c : Nat) (ss : List (List Bat)) (w : World) (hat : cl.SegsAt w A ss) (hn : ss.length = n) (hn1 : n ≤ 1000) (hall : ss.flatten.length ≤ 1000000) :
    Calls Try.prog 24 #[.slice A n c] w fun e w' => ∃ A2 c2, e = .returned (.slice A2 ss.flatten.length c2) ∧ ss.flatten.length ≤ c2 ∧ c2 ≤ maxLen ∧ BatsAt w' A2 ss.flatten ∧ Below w.heap.size w w' := by
  obtain ⟨i0, hi, hz0, hz1', hz2⟩ := info_parts fo.infoB
  have HI := Lib.hid (And.intro hi (And.intro hz0 (And.intro hz1' hz2))); clear hi hz0 hz1' hz2
  have HAT := Lib.hid hat; clear hat
  have HN := Lib.hid hn; clear hn
  have HS := Lib.hid hall; clear hall
  go_enter Try.func24, Try.ntmps24
  go_wp2_with fail
  go_loopw [3, 4] (fun s3 s4 wx => ∃ (k N : Nat) (v : Value) (xs : List Value), v = s3 ∧ s4 = .int .i64 (k : Int) ∧ k ≤ n ∧ N = (ss.take k).flatten.length ∧ wx.ownsRow w.heap.size 46 6 v N xs ∧ cl.BRow w xs (ss.take k).flatten ∧ Below w.heap.size w wx) (fun _ s4 _ => n - (intOf s4).toNat)
  case atStart => exact ⟨0, 0, _, [], rfl, rfl, by omega, rfl, World.ownsRow_nil _ _ _ _, cl.BRow.nil _, Below.refl _ _⟩
  case round =>
    obtain ⟨k, N, v, xs, rfl, rfl, hk, hN, hown, hrow, hbw⟩ := hrel
    have hN6 : N ≤ 1000000 := by have h1 := (cl.flat_le (ss := ss) k).2; have h2 := HS.out; omega
    have HBW := Lib.hid hbw; clear hbw
    have HOWN := Lib.hid hown; clear hown
    have HROW := Lib.hid hrow; clear hrow
    have HNL := Lib.hid hN; clear hN
    have hb0 : Below w.heap.size w wr := HBW.out
    by_cases hlt : k < n
    · have hlt' : (k : Int) < (n : Int) := by omega
      obtain ⟨x, hx⟩ : ∃ x, ss[k]? = some x := ⟨_, List.getElem?_eq_getElem (by rw [HN.out]; omega)⟩
      obtain ⟨p, po, D, cD, hA, hp, d0, hl1, hl2, ⟨V, hV, hel⟩⟩ := HAT.out.at' hx
      subst hA
      have hpw := Nat.lt_of_lt_of_le hp hb0.size
      have e0 := (hb0.cell (p := ⟨p, po + k, none⟩) hp).trans d0
      have hone := cl.ones hel
      have hVw := hV.below hb0 (Nat.le_refl _)
      have hrow2 := HROW.out.append (cl.BRow.of hel)
      rw [← cl.take_flat hx] at hrow2
      have hlen2 : N + x.length = (ss.take (k + 1)).flatten.length := by rw [cl.take_flat hx, List.length_append, HNL.out]
      have hN62 : N + x.length ≤ 1000000 := by have h1 := (cl.flat_le (ss := ss) (k + 1)).2; have h2 := HS.out; omega
      have HX := Lib.hid (And.intro hone (And.intro hVw (And.intro hrow2 hlen2))); clear hone hVw hrow2 hlen2 hx d0 hV hel
      generalize x.length = m at *
      go_wp2_with (at_builtin; go_loud (refine wpList_app2 _ rfl (.tmp 11) (.tmp 15) 31 rfl w.heap.size 46 i0 _ 6 64 Try.underlying31 HI.out.1 HI.out.2.1 HI.out.2.2.1 HI.out.2.2.2 rfl (by decide) v N xs rfl HOWN.out D m cD V rfl HX.out.2.1 HX.out.1 (by unfold maxLen; omega) (by omega) HBW.out.size ?_; intro v4 w4 h1 h2 _; have H4 := Lib.hid (And.intro h1 (HBW.out.grown h2 HBW.out.size fun j hj => (HOWN.out.lt j hj).1)); clear h1 h2))
      go_roundw
      case rel => exact ⟨k + 1, _, v4, _, rfl, by go_num, by omega, HX.out.2.2.2, H4.out.1, HX.out.2.2.1, H4.out.2⟩
      case measure => simp [intOf]; omega
    · obtain rfl : k = n := by omega
      have hfl : (ss.take k).flatten = ss.flatten := by rw [← HN.out, List.take_length]
      rw [hfl] at HNL HROW
      obtain ⟨A2, c2, rfl, hc2, hcm2, hat2⟩ := HROW.out.bats hb0 HNL.out.symm HOWN.out
      have H := Lib.hid (And.intro hc2 (And.intro hcm2 (And.intro hat2 hb0))); clear hc2 hcm2 hat2 hb0 hfl
      go_wp2_with fail
      go_ret
      rw [← HNL.out]
      exact ⟨A2, c2, rfl, H.out⟩

set_option maxHeartbeats 2000000 in
/-- All that batches weigh, one with the other; and it is a number that may be. -/
theorem cl.batches_sum (A : Option Addr) (bs : List Bat) (c : Nat) (limit : Int) (w : World) (hat : BatsAt w A bs) (hlen : bs.length ≤ maxLen) (hlim : 0 ≤ limit ∧ limit ≤ 1099511627775) :
    Calls Try.prog 28 #[.slice A bs.length c, .int .i64 limit] w fun e w' => (∃ n : Int, e = .returned (.int .i64 n) ∧ (0 ≤ n ∧ n ≤ 1099511627776) ∧ (n ≤ limit → (bs.map Bat.weight).sum ≤ n)) ∧ Below w.heap.size w w' := by
  have HAT := Lib.hid hat; clear hat
  unfold maxLen at hlen
  go_enter Try.func28, Try.ntmps28
  go_wp2_with fail
  go_loopw [5, 6] (fun n i wr => ∃ (j : Nat) (T : Int), j ≤ bs.length ∧ i = .int .i64 (j : Int) ∧ n = .int .i64 T ∧ 0 ≤ T ∧ T ≤ 1099511627776 ∧ (T ≤ 1099511627775 → ((bs.take j).map Bat.weight).sum ≤ T) ∧ Below w.heap.size w wr) (fun _ i _ => bs.length - (intOf i).toNat)
  case atStart => exact ⟨0, 0, by omega, rfl, rfl, by omega, by omega, fun _ => by simp, Below.refl _ _⟩
  case round =>
    obtain ⟨j, T, hj, rfl, rfl, hT0, hT1, hle, hbw⟩ := hrel
    have HBW := Lib.hid hbw; clear hbw
    have HLE := Lib.hid hle; clear hle
    by_cases hlt : j < bs.length
    · by_cases hTl : T ≤ limit
      · obtain ⟨x, hx⟩ : ∃ x, bs[j]? = some x := ⟨_, List.getElem?_eq_getElem hlt⟩
        obtain ⟨p, off, v, rfl, hp, d0, d1, d2, d3, d4, d5, hv, -⟩ := (HAT.out.below HBW.out (Nat.le_refl _)).at' hx
        have HV := Lib.hid hv; clear hv
        have HX := Lib.hid hx; clear hx
        go_wp2_with fail
        refine (alike.batch_any x v wr HV.out).mono ?_
        rintro e w2 ⟨rfl, hb2⟩
        have HB2 := Lib.hid (HBW.out.trans (hb2.mono HBW.out.size)); clear hb2
        have hw0 := x.weight_pos
        have hw1 := x.weight_le
        obtain ⟨W, hW⟩ : ∃ W : Int, W = x.weight := ⟨_, rfl⟩
        rw [← hW] at hw0 hw1 ⊢
        have HW := Lib.hid hW; clear hW
        go_wp2_with fail
        refine (alike.sum_any T (some ⟨w2.heap.size, 0, none⟩) 1 1 [W] _ hT0 hT1 (by omega) rfl ((At.one w2 (.int .i64 W) _).congr fun q hq => by
          obtain rfl : q = 0 := by omega
          rfl) (by intro q hq; simp only [List.mem_cons, List.not_mem_nil, or_false] at hq; omega)).mono ?_
        rintro e w' ⟨rfl, rfl⟩
        have hsum : alike.sum T [W] = min (T + W) 1099511627776 := by unfold alike.sum; simp
        rw [hsum]
        go_wp2
        go_roundw
        case rel =>
          refine ⟨j + 1, min (T + W) 1099511627776, by omega, by go_num, rfl, by omega, by omega, fun hb => ?_, HB2.out.alloc HB2.out.size _⟩
          obtain ⟨hjl, hjx⟩ := List.getElem?_eq_some_iff.1 HX.out
          have h0 := HLE.out (by omega)
          rw [List.take_succ_eq_append_getElem hjl, hjx, List.map_append, List.sum_append, List.map_cons, List.sum_cons, ← HW.out]
          simp only [List.map_nil, List.sum_nil]
          omega
        case measure => simp [intOf]; omega
      · go_wp2
        go_ret
        exact ⟨⟨T, rfl, ⟨hT0, hT1⟩, fun h => absurd h (by omega)⟩, HBW.out⟩
    · obtain rfl : j = bs.length := by omega
      go_wp2
      go_ret
      exact ⟨⟨T, rfl, ⟨hT0, hT1⟩, fun h => by have h1 := HLE.out (by omega); rw [List.take_length] at h1; exact h1⟩, HBW.out⟩

def law14.MayPost (ss : List (List Bat)) (w : World) (e : Ending) (w' : World) : Prop := (∃ b : Bool, e = .returned (.bool b) ∧ (b = true → cp.May ss)) ∧ Below w.heap.size w w'
set_option maxHeartbeats 4000000 in
theorem law14.may_any (A : Option Addr) (n c : Nat) (ss : List (List Bat)) (w : World) (hat : cl.SegsAt w A ss) (hn : ss.length = n) (hn1 : n ≤ maxLen) :
    Calls Try.prog 8 #[.slice A n c] w (law14.MayPost ss w) := by
  unfold maxLen at hn1
  have HAT := Lib.hid hat; clear hat
  have HN := Lib.hid hn; clear hn
  go_enter Try.func8, Try.ntmps8
  by_cases h20 : (20 : Int) < (n : Int)
  · go_wp2_with fail
    go_ret
    exact ⟨⟨false, rfl, fun h => by cases h⟩, Below.refl _ _⟩
  have hn20 : n ≤ 20 := by omega
  go_wp2_with fail
  go_loopw [3, 4, 5] (fun s3 s4 s5 wx => ∃ (k : Nat) (L T : Int), s3 = .int .i64 L ∧ s4 = .int .i64 T ∧ s5 = .int .i64 (k : Int) ∧ k ≤ n ∧ (0 ≤ T ∧ T ≤ 4000) ∧ (∀ bs ∈ ss.take k, bs.length ≤ 30) ∧ ((ss.take k).flatten.map Bat.weight).sum ≤ T ∧ cp.Good (-1) (ss.take k).flatten ∧ L = cp.end (-1) (ss.take k).flatten ∧ Below w.heap.size w wx) (fun _ _ s5 _ => n - (intOf s5).toNat)
  case atStart => exact ⟨0, -1, 0, rfl, rfl, rfl, by omega, by omega, fun b h => (by simp at h), by simp, trivial, rfl, Below.refl _ _⟩
  case round =>
    obtain ⟨k, L, T, rfl, rfl, rfl, hk, ⟨hT0, hT4⟩, heach, hsum, hgood, hend, hbw⟩ := hrel
    have HBW := Lib.hid hbw; clear hbw
    have H := Lib.hid (And.intro heach (And.intro hsum (And.intro hgood hend))); clear heach hsum hgood hend
    by_cases hlt : k < n
    · have hlt' : (k : Int) < (n : Int) := by omega
      obtain ⟨x, hx⟩ : ∃ x, ss[k]? = some x := ⟨_, List.getElem?_eq_getElem (by rw [HN.out]; omega)⟩
      obtain ⟨p, po, D, cD, hA, hp, d0, hl1, hl2, hatx⟩ := HAT.out.at' hx
      subst hA
      have hlx : x.length ≤ maxLen := Nat.le_trans hl1 hl2
      have hpw := Nat.lt_of_lt_of_le hp HBW.out.size
      have e0 := (HBW.out.cell (p := ⟨p, po + k, none⟩) hp).trans d0
      have hbs := cl.batches_sum D x cD 4000 wr (hatx.below HBW.out (Nat.le_refl _)) hlx (by omega)
      have HBS := Lib.hid hbs; clear hbs
      have HX := Lib.hid (And.intro hx hatx); clear hx hatx
      obtain ⟨m, hm⟩ : ∃ m, m = x.length := ⟨_, rfl⟩
      rw [← hm] at e0 HBS hl1 hlx
      have HM := Lib.hid hm; clear hm
      unfold maxLen at hlx
      go_wp2_with fail
      refine HBS.out.mono ?_
      rintro e w2 ⟨⟨T1, rfl, ⟨hT1, hT2⟩, hwt⟩, hb2⟩
      have HB2 := Lib.hid (HBW.out.trans (hb2.mono HBW.out.size)); clear hb2 HBS
      have HWT := Lib.hid hwt; clear hwt
      go_wp2_with fail
      refine (alike.sum_any T (some ⟨w2.heap.size, 0, none⟩) 1 1 [T1] _ hT0 (by omega) (by omega) rfl ((At.one w2 (.int .i64 T1) _).congr fun q hq => by
        obtain rfl : q = 0 := by omega
        rfl) (by intro q hq; simp only [List.mem_cons, List.not_mem_nil, or_false] at hq; omega)).mono ?_
      rintro e w' ⟨rfl, rfl⟩
      have hsum : alike.sum T [T1] = min (T + T1) 1099511627776 := by unfold alike.sum; simp
      rw [hsum]
      obtain ⟨w3, hw3⟩ : ∃ w3, w3 = w2.alloc (.cells #[.int .i64 T1] 3) := ⟨_, rfl⟩
      rw [← hw3]
      have hb3 : Below w.heap.size w w3 := by rw [hw3]; exact HB2.out.alloc HB2.out.size _
      have HB3 := Lib.hid hb3; clear hb3 hw3 hsum HB2 e0
      have e0 := (HB3.out.cell (p := ⟨p, po + k, none⟩) hp).trans d0
      rw [← HM.out] at e0
      have hpw3 := Nat.lt_of_lt_of_le hp HB3.out.size
      obtain ⟨T2, hT2'⟩ : ∃ T2, T2 = min (T + T1) 1099511627776 := ⟨_, rfl⟩
      rw [← hT2']
      have hT2a : 0 ≤ T2 := by omega
      have HT2 := Lib.hid hT2'; clear hT2'
      by_cases h4 : 4000 < T2
      · go_wp2_with fail
        (try rw [Exit.noGoto_ret])
        go_ret
        exact ⟨⟨false, rfl, fun h => by cases h⟩, HB3.out⟩
      by_cases h30 : (30 : Int) < (m : Int)
      · go_wp2_with fail
        (try rw [Exit.noGoto_ret])
        go_ret
        exact ⟨⟨false, rfl, fun h => by cases h⟩, HB3.out⟩
      have hT2s : T2 = T + T1 := by have := HT2.out; omega
      have hT2b : T2 ≤ 4000 := by omega
      have hm30 : m ≤ 30 := by omega
      have HTS := Lib.hid (And.intro hT2s (HWT.out (by omega))); clear hT2s HT2 HWT
      go_wp2_with fail
      go_loopw [3, 6] (fun s3 s6 wx => ∃ (j : Nat) (L : Int), s3 = .int .i64 L ∧ s6 = .int .i64 (j : Int) ∧ j ≤ m ∧ cp.Good (-1) ((ss.take k).flatten ++ x.take j) ∧ L = cp.end (-1) ((ss.take k).flatten ++ x.take j) ∧ Below w.heap.size w wx) (fun _ s6 _ => m - (intOf s6).toNat)
      case atStart => exact ⟨0, L, rfl, rfl, by omega, by simpa using H.out.2.2.1, by simpa using H.out.2.2.2, HB3.out⟩
      case round =>
        obtain ⟨j, L2, rfl, rfl, hj, hgood, hend, hbw⟩ := hrel
        have HBR := Lib.hid hbw; clear hbw
        have HG := Lib.hid (And.intro hgood hend); clear hgood hend
        have e1 := (HBR.out.cell (p := ⟨p, po + k, none⟩) hp).trans d0
        have hpw4 := Nat.lt_of_lt_of_le hp HBR.out.size
        rw [← HM.out] at e1
        by_cases hjm : j < m
        · have hjm' : (j : Int) < (m : Int) := by omega
          obtain ⟨y, hy⟩ : ∃ y, x[j]? = some y := ⟨_, List.getElem?_eq_getElem (by rw [← HM.out]; exact hjm)⟩
          obtain ⟨q, qo, v5, hA, hq, g0, g1, g2, g3, g4, g5, hrv, -⟩ := (HX.out.2.below HBR.out (Nat.le_refl _)).at' hy
          subst hA
          obtain ⟨A4, c4, V4, rfl, hrl, hrm, -⟩ := id hrv
          have hsnoc : cp.Good (-1) ((ss.take k).flatten ++ x.take j) → cp.end (-1) ((ss.take k).flatten ++ x.take j) < y.base → y.check = 0 → 0 < y.recs.length → y.recs.length ≤ 100 →
              cp.Good (-1) ((ss.take k).flatten ++ x.take (j + 1)) ∧ y.last = cp.end (-1) ((ss.take k).flatten ++ x.take (j + 1)) := fun h1 h2 h3 h4 h5 => by
            obtain ⟨hjl, hjx⟩ := List.getElem?_eq_some_iff.1 hy
            rw [List.take_succ_eq_append_getElem hjl, hjx, ← List.append_assoc]
            exact ⟨h1.snoc h2 h3 h4 h5, (cp.end_snoc _ _ _).symm⟩
          have hck := fun (wx : World) (h : Below wr.heap.size wr wx) => ref.check_any y A4 c4 wx (hrv.below h (Nat.le_refl _))
          unfold Bat.hval at hck
          have hrl0 : (y.recs.length : Int) ≤ 9223372036854775807 := by unfold maxLen at hrm; omega
          have HS := Lib.hid hsnoc; clear hsnoc hy hrv hrm hrl
          have HCK := Lib.hid hck; clear hck
          generalize y.recs.length = m0 at *
          generalize y.check = E at *
          go_upto_region 14 with fail
          obtain ⟨w5, hw5⟩ : ∃ w5, w5 = wr.alloc (.cells #[.int .i64 y.base, .int .i64 y.last, .int .i64 y.prod, .int .i64 y.epoch, .int .i64 y.seq, .slice A4 m0 c4] 46) := ⟨_, rfl⟩
          rw [← hw5]
          obtain ⟨z, hz⟩ : ∃ z, z = wr.heap.size := ⟨_, rfl⟩
          rw [← hz]
          have hblk : Blk w5 z 46 #[.int .i64 y.base, .int .i64 y.last, .int .i64 y.prod, .int .i64 y.epoch, .int .i64 y.seq, .slice A4 m0 c4] := by rw [hw5, hz]; exact Blk.new _ _ _
          have hb5 : Below wr.heap.size wr w5 := by rw [hw5]; exact (Below.refl _ _).alloc (Nat.le_refl _) _
          have hb05 := HBR.out.trans (hb5.mono HBR.out.size)
          have HB5 := Lib.hid (And.intro hb5 (And.intro hb05 hblk)); clear hb5 hb05 hblk hw5 hz g0 g1 g2 g3 g4 g5 e1
          have f0 := HB5.out.2.2.cell 0 (v := .int .i64 y.base) rfl
          have f1 := HB5.out.2.2.cell 1 (v := .int .i64 y.last) rfl
          have f2 := HB5.out.2.2.cell 2 (v := .int .i64 y.prod) rfl
          have f3 := HB5.out.2.2.cell 3 (v := .int .i64 y.epoch) rfl
          have f4 := HB5.out.2.2.cell 4 (v := .int .i64 y.seq) rfl
          have f5 := HB5.out.2.2.cell 5 (v := .slice A4 m0 c4) rfl
          have hzw := HB5.out.2.2.lt
          by_cases hm0 : m0 = 0
          · have hd1 : ((m0 : Int) == 0) = true := beq_iff_eq.2 (by omega)
            have hd2 : decide ((m0 : Int) = 0) = true := decide_eq_true (by omega)
            have hd3 : decide (m0 = 0) = true := decide_eq_true hm0
            clear hm0
            go_wp2_with fail
            (try rw [Exit.noGoto_ret])
            go_ret
            exact ⟨⟨false, rfl, fun h => by cases h⟩, HB5.out.2.1⟩
          have hd1 : ((m0 : Int) == 0) = false := beq_eq_false_iff_ne.2 (by omega)
          have hd2 : decide ((m0 : Int) = 0) = false := decide_eq_false (by omega)
          have hd3 : decide (m0 = 0) = false := decide_eq_false hm0
          have hm1 : 0 < m0 := by omega
          clear hm0
          by_cases h100 : (100 : Int) < (m0 : Int)
          · go_wp2_with fail
            (try rw [Exit.noGoto_ret])
            go_ret
            exact ⟨⟨false, rfl, fun h => by cases h⟩, HB5.out.2.1⟩
          go_wp2_with fail
          refine (HCK.out w5 HB5.out.1).mono ?_
          rintro e w6 ⟨rfl, hb6⟩
          have HB6 := Lib.hid (And.intro (HB5.out.2.1.trans (hb6.mono HB5.out.2.1.size)) ((chg_of (P := fun _ => False) hb6).blk HB5.out.2.2 id)); clear hb6 f0 f1 f2 f3 f4 f5
          have f0 := HB6.out.2.cell 0 (v := .int .i64 y.base) rfl
          have f1 := HB6.out.2.cell 1 (v := .int .i64 y.last) rfl
          have hzw6 := HB6.out.2.lt
          by_cases hE : E = 0
          · subst hE
            by_cases hbl : y.base ≤ L2
            · go_wp2_with fail
              (try rw [Exit.noGoto_ret])
              go_ret
              exact ⟨⟨false, rfl, fun h => by cases h⟩, HB6.out.1⟩
            have hnx := HS.out HG.out.1 (by rw [← HG.out.2]; omega) rfl hm1 (by omega)
            have HNX := Lib.hid hnx; clear hnx HS HCK
            go_wp2_with fail
            go_roundw
            case rel => exact ⟨j + 1, y.last, rfl, by go_num, by omega, HNX.out.1, HNX.out.2, HB6.out.1⟩
            case measure => simp [intOf]; omega
          · have hd4 : (E != 0) = true := by simpa using hE
            have hd5 : decide (E = 0) = false := decide_eq_false hE
            go_wp2_with fail
            (try rw [Exit.noGoto_ret])
            go_ret
            exact ⟨⟨false, rfl, fun h => by cases h⟩, HB6.out.1⟩
        · obtain rfl : j = m := by omega
          have hx2 : (ss.take k).flatten ++ x.take j = (ss.take (k + 1)).flatten := by rw [cl.take_flat HX.out.1, HM.out, List.take_length]
          have hgd := HG.out
          rw [hx2] at hgd
          have HGD := Lib.hid hgd; clear hgd HG hx2
          go_wp2_with fail
          go_roundw
          case rel =>
            refine ⟨k + 1, L2, T2, rfl, rfl, by go_num, by omega, ⟨hT2a, hT2b⟩, fun bs hb => ?_, ?_, HGD.out.1, HGD.out.2, HBR.out⟩
            · obtain ⟨h1, h2⟩ := List.getElem?_eq_some_iff.1 HX.out.1
              rw [List.take_succ_eq_append_getElem h1, h2] at hb
              rcases List.mem_append.1 hb with hb | hb
              · exact H.out.1 bs hb
              · rw [List.mem_singleton.1 hb, ← HM.out]
                exact hm30
            · rw [cl.take_flat HX.out.1, List.map_append, List.sum_append]
              have h1 := H.out.2.1
              have h2 := HTS.out
              omega
          case measure => simp [intOf]; omega
    · obtain rfl : k = n := by omega
      have hfl : ss.take k = ss := by rw [← HN.out, List.take_length]
      have h := H.out
      rw [hfl] at h
      have HF := Lib.hid h; clear h H hfl
      go_wp2_with fail
      go_ret
      exact ⟨⟨true, rfl, fun _ => ⟨by rw [HN.out]; exact hn20, HF.out.1, by have := HF.out.2.1; omega, HF.out.2.2.1⟩⟩, HBW.out⟩
end Go.Proofs.Ytnlfdhoabbbheaa

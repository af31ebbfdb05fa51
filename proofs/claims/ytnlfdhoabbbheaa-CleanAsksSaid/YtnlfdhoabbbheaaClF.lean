/- clean.All. -/
import Derived.Test.YtnlfdhoabbbheaaClE
namespace Go.Proofs.Ytnlfdhoabbbheaa
open Go.RowKit Go.Maps
set_option maxRecDepth 100000

theorem cl.infoS : (Try.prog.info? 31).map (fun i => (i.zero, i.size, i.bytes)) = some (some (.slice none 0 0), 1, 24) := by kernel_rfl
theorem cl.left_le (F : Rec → Bool) (bs : List Bat) : (rc.flat (ps.all F bs)).length ≤ (rc.flat bs).length := by
  have h : ∀ bs : List Bat, rc.flat (ps.all F bs) = (rc.flat bs).filter F := fun bs => by
    induction bs with
    | nil => rfl
    | cons b bs ih =>
      have h1 : rc.flat (b :: bs) = b.recs ++ rc.flat bs := by unfold rc.flat; rw [List.map_cons, List.flatten_cons]
      rw [h1, List.filter_append, ← ih]
      unfold ps.all
      rw [List.map_cons]
      by_cases h : 0 < (ps.cut F b).recs.length
      · rw [List.filter_cons_of_pos (by simpa using h)]
        unfold rc.flat
        rw [List.map_cons, List.flatten_cons]
        rfl
      · rw [List.filter_cons_of_neg (by simpa using h)]
        have e : b.recs.filter F = [] := List.length_eq_zero_iff.1 (by have : (ps.cut F b).recs = b.recs.filter F := rfl; rw [← this]; omega)
        rw [e, List.nil_append]
  rw [h]
  exact List.length_filter_le _ _
theorem cl.seg_le (F : Rec → Bool) (ss : List (List Bat)) (k : Nat) : (rc.flat (cl.seg F ss k)).length ≤ (rc.flat (ss.getD k [])).length := by
  unfold cl.seg
  split
  · exact Nat.le_refl _
  · exact cl.left_le F _
theorem cl.take_flat {ss : List (List Bat)} {k : Nat} {x : List Bat} (h : ss[k]? = some x) : (ss.take (k + 1)).flatten = (ss.take k).flatten ++ x := by
  obtain ⟨h1, h2⟩ := List.getElem?_eq_some_iff.1 h
  rw [List.take_succ_eq_append_getElem h1, h2, List.flatten_append]
  simp
theorem cl.flat_le {ss : List (List Bat)} (k : Nat) : (rc.flat (ss.take k).flatten).length ≤ (rc.flat ss.flatten).length ∧ (ss.take k).flatten.length ≤ ss.flatten.length := by
  have h : ss.flatten = (ss.take k).flatten ++ (ss.drop k).flatten := by rw [← List.flatten_append, List.take_append_drop]
  rw [h, cl.flat_app]
  simp
theorem cl.gone_bd (F : Rec → Bool) (ss : List (List Bat)) : ∀ k, k ≤ ss.length → 0 ≤ cl.gone F ss k ∧ cl.gone F ss k ≤ ((rc.flat (ss.take k).flatten).length : Int)
  | 0, _ => by simp [cl.gone]
  | k + 1, h => by
    obtain ⟨h1, h2⟩ := cl.gone_bd F ss k (by omega)
    obtain ⟨x, hx⟩ : ∃ x, ss[k]? = some x := ⟨_, List.getElem?_eq_getElem (by omega)⟩
    have h3 := cl.seg_le F ss k
    have e : ss.getD k [] = x := by rw [List.getD_eq_getElem?_getD, hx]; rfl
    rw [cl.gone_succ, cl.take_flat hx, cl.flat_app, List.length_append]
    rw [e] at h3 ⊢
    omega
/-- What All answers: up to where it is clean, what is left. -/
def cl.AllPost (ss : List (List Bat)) (N : Nat) (G : Nat × (ByteArray → Option Int) × Int) (now grace : Int) (w : World) (e : Ending) (w' : World) : Prop :=
  ∃ A c, e = .returned (.tuple #[.slice A N c, .int .i64 G.2.2, .int .i64 (cl.gone (cl.stays G.2.1 G.2.2 now grace) ss N)]) ∧
    N ≤ c ∧ c ≤ maxLen ∧ cl.SegsAt w' A (cl.outs (cl.stays G.2.1 G.2.2 now grace) ss N) ∧ Below w.heap.size w w'

set_option maxHeartbeats 8000000 in
theorem cl.all_any (A : Option Addr) (n c : Nat) (ss : List (List Bat)) (dirty now most M grace : Int) (x0 x1 x2 x3 x4 : Int) (x5 x9 : Bool) (w : World) (hat : cl.SegsAt w A ss) (hn : ss.length = n) (hn1 : n ≤ 1000) (hall : fo.Small ss.flatten) (hfl : (rc.flat ss.flatten).length ≤ 1000000) (htm : ∀ x ∈ ss.flatten, x.last ≤ 4611686018427387904 ∧ ∀ r ∈ x.recs, 0 ≤ r.time) (hM : kb.Most most M)
    (hnow : 0 ≤ now ∧ now ≤ 9223372036854775807) (hgr : 0 ≤ grace ∧ grace ≤ 9223372036854775807) :
    Calls Try.prog 10 #[.slice A n c, .int .i64 dirty, .agg #[.int .i64 x0, .int .i64 x1, .int .i64 x2, .int .i64 x3, .int .i64 x4, .bool x5, .int .i64 grace, .int .i64 most, .bool x9], .int .i64 now] w (cl.AllPost ss n (kb.go dirty M 0 (fun _ => none) dirty (ss.take (n - 1)).flatten) now grace w) := by
  obtain ⟨i0, hi, hz0, hz1', hz2⟩ := info_parts fo.infoB
  have HI := Lib.hid (And.intro hi (And.intro hz0 (And.intro hz1' hz2))); clear hi hz0 hz1' hz2
  obtain ⟨j0, hi, hz0, hz1', hz2⟩ := info_parts cl.infoS
  have HJ := Lib.hid (And.intro hi (And.intro hz0 (And.intro hz1' hz2))); clear hi hz0 hz1' hz2
  obtain ⟨GO, hGO⟩ : ∃ GO, GO = kb.go dirty M 0 (fun _ => none) dirty (ss.take (n - 1)).flatten := ⟨_, rfl⟩
  rw [← hGO]
  have HGO := Lib.hid hGO; clear hGO
  unfold cl.AllPost
  obtain ⟨F, hF⟩ : ∃ F, F = cl.stays GO.2.1 GO.2.2 now grace := ⟨_, rfl⟩
  rw [← hF]
  have HF := Lib.hid hF; clear hF
  obtain ⟨g, hg⟩ : ∃ g, g = w.heap.size := ⟨_, rfl⟩
  obtain ⟨w1, hw1⟩ : ∃ w1, w1 = w.alloc (.cells #[.int .i64 x0, .int .i64 x1, .int .i64 x2, .int .i64 x3, .int .i64 x4, .bool x5, .int .i64 grace, .int .i64 most, .bool x9] 24) := ⟨_, rfl⟩
  have hk1 : Blk w1 g 24 #[.int .i64 x0, .int .i64 x1, .int .i64 x2, .int .i64 x3, .int .i64 x4, .bool x5, .int .i64 grace, .int .i64 most, .bool x9] := by rw [hw1, hg]; exact Blk.new _ _ _
  have hb1 : Below w.heap.size w w1 := by rw [hw1]; exact (Below.refl _ _).alloc (Nat.le_refl _) _
  have H1 := Lib.hid (And.intro hk1 hb1); clear hk1 hb1
  have HW1 := Lib.hid (And.intro hg hw1); clear hg hw1
  have HAT := Lib.hid hat; clear hat
  have HN := Lib.hid hn; clear hn
  have HS := Lib.hid (And.intro hall (And.intro hfl htm)); clear hall hfl htm
  have HM := Lib.hid hM; clear hM
  have hone : ∀ k x, ss[k]? = some x → fo.Small x ∧ (rc.flat x).length ≤ 1000000 ∧ ∀ b ∈ x, b.last ≤ 4611686018427387904 ∧ ∀ r ∈ b.recs, 0 ≤ r.time := fun k x hx => by
    have h1 := cl.take_flat hx
    have h2 := cl.flat_le (ss := ss) (k + 1)
    rw [h1, cl.flat_app, List.length_append, List.length_append] at h2
    have h3 := HS.out.1.1
    have h4 := HS.out.2.1
    have hm : ∀ b ∈ x, b ∈ ss.flatten := fun b hb => List.mem_flatten.2 ⟨x, List.mem_of_getElem? hx, hb⟩
    exact ⟨⟨by omega, fun b hb => HS.out.1.2 b (hm b hb)⟩, by omega, fun b hb => HS.out.2.2 b (hm b hb)⟩
  have HONE := Lib.hid hone; clear hone
  go_enter Try.func10, Try.ntmps10
  go_upto_region 1 with fail
  rw [← HW1.out.2, ← HW1.out.1]
  go_wp2_with fail
  go_loopw [12, 22] (fun s12 s22 wx => ∃ (k N : Nat) (v : Value) (xs : List Value), v = s12 ∧ s22 = .int .i64 (k : Int) ∧ (k = 0 ∨ k + 1 ≤ n) ∧ N = (ss.take k).flatten.length ∧ wx.ownsRow w1.heap.size 46 6 v N xs ∧ cl.BRow w xs (ss.take k).flatten ∧ Below w1.heap.size w1 wx) (fun _ s22 _ => n - (intOf s22).toNat)
  case atStart => exact ⟨0, 0, _, [], rfl, rfl, .inl rfl, rfl, World.ownsRow_nil _ _ _ _, cl.BRow.nil _, Below.refl _ _⟩
  case round =>
    obtain ⟨k, N, v, xs, rfl, rfl, hk, hN, hown, hrow, hbw⟩ := hrel
    have hN6 : N ≤ 1000000 := by have h1 := (cl.flat_le (ss := ss) k).2; have h2 := HS.out.1.1; omega
    have HBW := Lib.hid hbw; clear hbw
    have HOWN := Lib.hid hown; clear hown
    have HROW := Lib.hid hrow; clear hrow
    have HNL := Lib.hid hN; clear hN
    have hb0 : Below w.heap.size w wr := H1.out.2.trans (HBW.out.mono H1.out.2.size)
    by_cases hlt : k + 1 < n
    · have hlt' : (k : Int) < (n : Int) - 1 := by omega
      obtain ⟨x, hx⟩ : ∃ x, ss[k]? = some x := ⟨_, List.getElem?_eq_getElem (by rw [HN.out]; omega)⟩
      obtain ⟨p, po, D, cD, hA, hp, d0, hl1, hl2, ⟨V, hV, hel⟩⟩ := HAT.out.at' hx
      subst hA
      have hpw := Nat.lt_of_lt_of_le hp hb0.size
      have e0 := (hb0.cell (p := ⟨p, po + k, none⟩) hp).trans d0
      have hone := cl.ones hel
      have hVw := hV.below hb0 (Nat.le_refl _)
      have hrow2 := HROW.out.append (cl.BRow.of hel)
      rw [← cl.take_flat hx] at hrow2
      have hlen2 : N + x.length = (ss.take (k + 1)).flatten.length := by rw [cl.take_flat hx, List.length_append, HNL.out]
      have hN62 : N + x.length ≤ 1000000 := by have h1 := (cl.flat_le (ss := ss) (k + 1)).2; have h2 := HS.out.1.1; omega
      have HX := Lib.hid (And.intro hone (And.intro hVw (And.intro hrow2 hlen2))); clear hone hVw hrow2 hlen2 hx d0 hV hel
      generalize x.length = m at *
      go_wp2_with (at_builtin; go_loud (refine wpList_app2 _ rfl (.tmp 25) (.tmp 29) 31 rfl w1.heap.size 46 i0 _ 6 64 Try.underlying31 HI.out.1 HI.out.2.1 HI.out.2.2.1 HI.out.2.2.2 rfl (by decide) v N xs rfl HOWN.out D m cD V rfl HX.out.2.1 HX.out.1 (by unfold maxLen; omega) (by omega) HBW.out.size ?_; intro v4 w4 h1 h2 _; have H4 := Lib.hid (And.intro h1 (HBW.out.grown h2 HBW.out.size fun j hj => (HOWN.out.lt j hj).1)); clear h1 h2))
      go_roundw
      case rel => exact ⟨k + 1, _, v4, _, rfl, by go_num, .inr (by omega), HX.out.2.2.2, H4.out.1, HX.out.2.2.1, H4.out.2⟩
      case measure => simp [intOf]; omega
    · have hkn : k = n - 1 := by omega
      have hge : ¬ (k : Int) < (n : Int) - 1 := by omega
      rw [hkn] at HNL HROW
      obtain ⟨A2, c2, rfl, hc2, hcm2, hat2⟩ := HROW.out.bats hb0 HNL.out.symm HOWN.out
      have hbld := kb.build_any A2 (ss.take (n - 1)).flatten N c2 dirty most M wr hat2 HNL.out.symm hN6 (fun b hb => by
        have hm : b ∈ ss.flatten := by
          have h : ss.flatten = (ss.take (n - 1)).flatten ++ (ss.drop (n - 1)).flatten := by rw [← List.flatten_append, List.take_append_drop]
          rw [h]
          exact List.mem_append_left _ hb
        exact ⟨(HS.out.1.2 b hm).1, (HS.out.2.2 b hm).1⟩) HM.out
      unfold kb.Post at hbld
      rw [← HGO.out] at hbld
      have HBLD := Lib.hid hbld; clear hbld hat2
      have b7 : wr.cell? ⟨g, 7, none⟩ = some (.int .i64 most) := ((chg_of (P := fun _ => False) HBW.out).blk H1.out.1 id).cell 7 rfl
      have hgw : g < wr.heap.size := Nat.lt_of_lt_of_le H1.out.1.lt HBW.out.size
      go_wp2_with fail
      clear b7
      refine HBLD.out.mono ?_
      rintro e w3 ⟨⟨p3, b3, rfl, hkm, hp3, hb3⟩, hbe3⟩
      have HB3 := Lib.hid (HBW.out.trans (hbe3.mono HBW.out.size)); clear hbe3 HBLD HBW HOWN HROW HNL hk hlt hge
      have HKM := Lib.hid hkm; clear hkm
      have hb03 : Below w.heap.size w w3 := H1.out.2.trans (HB3.out.mono H1.out.2.size)
      have HB03 := Lib.hid hb03; clear hb03 hb0 hgw
      go_wp2_with fail
      go_loopw [8, 10, 42] (fun s8 s10 s42 wx => ∃ (k : Nat) (v : Value) (xs : List Value) (G : Int), v = s8 ∧ s10 = .int .i64 G ∧ s42 = .int .i64 (k : Int) ∧ k ≤ n ∧ wx.ownsRow w3.heap.size 31 1 v k xs ∧ cl.Outs w3.heap.size wx v xs (cl.outs F ss k) ∧ G = cl.gone F ss k ∧ Below w3.heap.size w3 wx) (fun _ _ s42 _ => n - (intOf s42).toNat)
      case atStart => exact ⟨0, _, [], 0, rfl, rfl, rfl, by omega, World.ownsRow_nil _ _ _ _, fun i bs h => (by simp [cl.outs] at h), rfl, Below.refl _ _⟩
      case round =>
        obtain ⟨k, v, xs, G, rfl, rfl, rfl, hk, hown, houts, hG, hbw⟩ := hrel
        have HBW := Lib.hid hbw; clear hbw
        have HOWN := Lib.hid hown; clear hown
        have HOUTS := Lib.hid houts; clear houts
        have hgb := cl.gone_bd F ss k (by rw [HN.out]; exact hk)
        have hfk := (cl.flat_le (ss := ss) k).1
        have hfa := HS.out.2.1
        rw [← hG] at hgb
        have hG0 : 0 ≤ G := hgb.1
        have hG1 : G ≤ 1000000 := by omega
        have HG := Lib.hid hG; clear hG hgb hfk hfa
        by_cases hlt : k < n
        · have hlt' : (k : Int) < (n : Int) := by omega
          obtain ⟨x, hx⟩ : ∃ x, ss[k]? = some x := ⟨_, List.getElem?_eq_getElem (by rw [HN.out]; omega)⟩
          obtain ⟨q, qo, D, cD, hA, hq, d0, hl1, hl2, hatx⟩ := HAT.out.at' hx
          subst hA
          obtain ⟨hsx, hfx, htx⟩ := HONE.out k x hx
          have hb0 : Below w.heap.size w wr := HB03.out.trans (HBW.out.mono HB03.out.size)
          have hqw := Nat.lt_of_lt_of_le hq hb0.size
          have e0 := (hb0.cell (p := ⟨q, qo + k, none⟩) hq).trans d0
          have hrlt := HOWN.out.lt
          have hget : ss.getD k [] = x := by rw [List.getD_eq_getElem?_getD, hx]; rfl
          by_cases hact : k + 1 = n
          · have hd1 : ((k : Int) == (n : Int) - 1) = true := beq_iff_eq.2 (by omega)
            have hd2 : decide ((k : Int) = (n : Int) - 1) = true := decide_eq_true (by omega)
            have hseg : cl.seg F ss k = x := by unfold cl.seg; rw [if_pos (by rw [HN.out]; exact hact), hget]
            have hgn : cl.gone F ss (k + 1) = G := by rw [cl.gone_succ, hseg, hget, HG.out]; omega
            have hcp := cl.copyall_any D x.length cD x wr (hatx.below hb0 (Nat.le_refl _)) rfl hsx
            have HCP := Lib.hid hcp; clear hcp
            have HGN := Lib.hid hgn; clear hgn hget hatx hsx hfx htx d0
            obtain ⟨m, hm⟩ : ∃ m, m = x.length := ⟨_, rfl⟩
            rw [← hm] at e0 HCP hl1
            have HMX := Lib.hid hm; clear hm
            have HSEG := Lib.hid hseg; clear hseg
            have HACT := Lib.hid hact; clear hact
            go_wp2_with fail
            refine HCP.out.mono ?_
            rintro e w5 ⟨A5, c5, rfl, hl5, hm5, hdep, -, hb5⟩
            rw [← HMX.out] at hl5 ⊢
            obtain ⟨w6, hw6⟩ : ∃ w6, w6 = w5.alloc (.cells #[.slice A5 m c5] 31) := ⟨_, rfl⟩
            have hb56 : Below w5.heap.size w5 w6 := by rw [hw6]; exact (Below.refl _ _).alloc (Nat.le_refl _) _
            have hb06 : Below wr.heap.size wr w6 := hb5.trans (hb56.mono hb5.size)
            have hdep6 := hdep.below hb56
            have hs56 : w6.heap.size = w5.heap.size + 1 := by rw [hw6]; simp
            have hs5 := hb5.size
            have hb16 : Below w3.heap.size w3 w6 := HBW.out.trans (hb06.mono HBW.out.size)
            have hown6 := (chg_of (P := fun _ => False) hb06).own HOWN.out fun _ _ h => h.elim
            have houts6 := HOUTS.out.below hb06
            have hxl := hown6.1
            have hws := HBW.out.size
            have hs06 := hb06.size
            have happ : ∀ v2 w9, w9.ownsRow w3.heap.size 31 1 v2 (k + 1) (xs ++ [.slice A5 m c5]) → w6.grownBy w9 v.ownBlock → (v2.ownBlock = v.ownBlock ∨ v2.ownBlock = some w6.heap.size) →
                cl.Outs w3.heap.size w9 v2 (xs ++ [.slice A5 m c5]) (cl.outs F ss (k + 1)) ∧ Below w3.heap.size w3 w9 := fun v2 w9 h1 h2 h3 => by
              refine ⟨?_, hb16.grown h2 (by omega) fun q hq => (hrlt q hq).1⟩
              rw [cl.outs_succ, HSEG.out, HMX.out]
              exact houts6.snoc (by rw [cl.outs_len]; omega) (by rw [← HMX.out]; exact hl5) hm5 (hdep6.weak fun q hq _ => ⟨by omega, fun e => by have := (hrlt q e).2; omega⟩) h2 h3
            have HAPP := Lib.hid (And.intro hown6 happ); clear happ houts6 hxl hown6 hb16 hdep6
            rw [hw6] at HAPP
            clear hw6 hb56 hb06 hdep
            go_wp2_with (at_builtin; go_loud (refine wpList_append_own_at _ rfl (.tmp 50) (.tmp 53) 22 rfl w3.heap.size 31 j0 _ 1 24 Try.underlying22 HJ.out.1 HJ.out.2.1 HJ.out.2.2.1 HJ.out.2.2.2 rfl (by decide) v k xs rfl HAPP.out.1 ⟨w5.heap.size, 0, none⟩ 1 1 [.slice A5 m c5] rfl rfl (cells_new _ [.slice A5 m c5] _ _ rfl) (by simp [Value.oneCell']) (by unfold maxLen; omega) (by omega) (by simp; omega) ?_; intro v2 w9 h1 h2 _ h3; have HN2 := Lib.hid (And.intro h1 (HAPP.out.2 v2 w9 h1 h2 h3)); clear h1 h2 h3))
            go_wp2_with fail
            go_roundw
            case rel => exact ⟨k + 1, v2, _, G, rfl, rfl, by go_num, by omega, HN2.out.1, HN2.out.2.1, HGN.out.symm, HN2.out.2.2⟩
            case measure => simp [intOf]; omega
          · have hd1 : ((k : Int) == (n : Int) - 1) = false := beq_eq_false_iff_ne.2 (by omega)
            have hd2 : decide ((k : Int) = (n : Int) - 1) = false := decide_eq_false (by omega)
            have hseg : cl.seg F ss k = ps.all F x := by unfold cl.seg; rw [if_neg (by rw [HN.out]; exact hact), hget]
            have hgn := cl.gone_succ F ss k
            rw [hseg, hget, ← HG.out] at hgn
            have hle := cl.left_le F x
            have hsg := cl.segment_any D x.length cD x p3 b3 M GO.1 GO.2.1 GO.2.2 now grace wr (hatx.below hb0 (Nat.le_refl _)) rfl hsx (fun y hy => (htx y hy).2) (HKM.out.keep HBW.out) hnow hgr
            rw [← HF.out] at hsg
            have hcx := fun (wx : World) (hb : Below wr.heap.size wr wx) => cl.count_any D x.length cD x wx ((hatx.below hb0 (Nat.le_refl _)).below hb (Nat.le_refl _)) rfl hsx.1 hfx
            have hcl := fun (A5 : Option Addr) (c5 : Nat) (wx : World) (h : BatsAt wx A5 (ps.all F x)) => cl.count_any A5 (ps.all F x).length c5 (ps.all F x) wx h rfl (Nat.le_trans (ps.all_len F x) hsx.1) (Nat.le_trans hle hfx)
            unfold cl.SegPost at hsg
            obtain ⟨L, hL⟩ : ∃ L, L = ps.all F x := ⟨_, rfl⟩
            rw [← hL] at hsg hcl hseg hgn hle
            clear hL
            obtain ⟨m, hm⟩ : ∃ m, m = x.length := ⟨_, rfl⟩
            rw [← hm] at e0 hsg hl1 hcx
            clear hm
            obtain ⟨cx, hcx1⟩ : ∃ cx, cx = (rc.flat x).length := ⟨_, rfl⟩
            obtain ⟨cy, hcy1⟩ : ∃ cy, cy = (rc.flat L).length := ⟨_, rfl⟩
            rw [← hcx1] at hcx hgn hfx hle
            rw [← hcy1] at hcl hgn hle
            obtain ⟨mL, hmL⟩ : ∃ mL, mL = L.length := ⟨_, rfl⟩
            rw [← hmL] at hsg hcl
            have HMX := Lib.hid hmL; clear hmL
            have HSEG := Lib.hid hseg; clear hseg
            have HSG := Lib.hid hsg; clear hsg
            have HCX := Lib.hid hcx; clear hcx hcx1
            have HCL := Lib.hid hcl; clear hcl hcy1
            have HGN := Lib.hid hgn; clear hgn hget hatx hsx htx d0
            have HACT := Lib.hid hact; clear hact
            have b6 : wr.cell? ⟨g, 6, none⟩ = some (.int .i64 grace) := ((chg_of (P := fun _ => False) (HB3.out.trans (HBW.out.mono HB3.out.size))).blk H1.out.1 id).cell 6 rfl
            have hgw : g < wr.heap.size := Nat.lt_of_lt_of_le H1.out.1.lt (HB3.out.trans (HBW.out.mono HB3.out.size)).size
            go_wp2_with fail
            clear b6
            refine HSG.out.mono ?_
            rintro e w4 ⟨A5, c5, rfl, hl5, hm5, hdep, -, hb4⟩
            go_wp2_with fail
            refine (HCX.out w4 hb4).mono ?_
            rintro e w4b ⟨rfl, hb4b⟩
            have hdepb := hdep.below hb4b
            go_wp2_with fail
            refine (HCL.out A5 c5 w4b hdepb.now).mono ?_
            rintro e w5 ⟨rfl, hb5b⟩
            have hb5 : Below wr.heap.size wr w5 := (hb4.trans (hb4b.mono hb4.size)).trans (hb5b.mono (hb4.trans (hb4b.mono hb4.size)).size)
            have hdep5 := hdepb.below hb5b
            obtain ⟨w6, hw6⟩ : ∃ w6, w6 = w5.alloc (.cells #[.slice A5 mL c5] 31) := ⟨_, rfl⟩
            have hb56 : Below w5.heap.size w5 w6 := by rw [hw6]; exact (Below.refl _ _).alloc (Nat.le_refl _) _
            have hb06 : Below wr.heap.size wr w6 := hb5.trans (hb56.mono hb5.size)
            have hdep6 := hdep5.below hb56
            have hs56 : w6.heap.size = w5.heap.size + 1 := by rw [hw6]; simp
            have hs5 := hb5.size
            have hb16 : Below w3.heap.size w3 w6 := HBW.out.trans (hb06.mono HBW.out.size)
            have hown6 := (chg_of (P := fun _ => False) hb06).own HOWN.out fun _ _ h => h.elim
            have houts6 := HOUTS.out.below hb06
            have hxl := hown6.1
            have hws := HBW.out.size
            have hs06 := hb06.size
            have happ : ∀ v2 w9, w9.ownsRow w3.heap.size 31 1 v2 (k + 1) (xs ++ [.slice A5 mL c5]) → w6.grownBy w9 v.ownBlock → (v2.ownBlock = v.ownBlock ∨ v2.ownBlock = some w6.heap.size) →
                cl.Outs w3.heap.size w9 v2 (xs ++ [.slice A5 mL c5]) (cl.outs F ss (k + 1)) ∧ Below w3.heap.size w3 w9 := fun v2 w9 h1 h2 h3 => by
              refine ⟨?_, hb16.grown h2 (by omega) fun q hq => (hrlt q hq).1⟩
              rw [cl.outs_succ, HSEG.out, HMX.out]
              exact houts6.snoc (by rw [cl.outs_len]; omega) (by rw [← HMX.out]; exact hl5) hm5 (hdep6.weak fun q hq _ => ⟨by omega, fun e => by have := (hrlt q e).2; omega⟩) h2 h3
            have HAPP := Lib.hid (And.intro hown6 happ); clear happ houts6 hxl hown6 hb16 hdep6
            rw [hw6] at HAPP
            clear hw6 hb56 hb06 hdep hdepb hdep5 hb4 hb4b hb5b
            go_wp2_with (at_builtin; go_loud (refine wpList_append_own_at _ rfl (.tmp 69) (.tmp 71) 22 rfl w3.heap.size 31 j0 _ 1 24 Try.underlying22 HJ.out.1 HJ.out.2.1 HJ.out.2.2.1 HJ.out.2.2.2 rfl (by decide) v k xs rfl HAPP.out.1 ⟨w5.heap.size, 0, none⟩ 1 1 [.slice A5 mL c5] rfl rfl (cells_new _ [.slice A5 mL c5] _ _ rfl) (by simp [Value.oneCell']) (by unfold maxLen; omega) (by omega) (by simp; omega) ?_; intro v2 w9 h1 h2 _ h3; have HN2 := Lib.hid (And.intro h1 (HAPP.out.2 v2 w9 h1 h2 h3)); clear h1 h2 h3))
            go_wp2_with fail
            go_roundw
            case rel => exact ⟨k + 1, v2, _, _, rfl, rfl, by go_num, by omega, HN2.out.1, HN2.out.2.1, by rw [HGN.out], HN2.out.2.2⟩
            case measure => simp [intOf]; omega
        · obtain rfl : k = n := by omega
          obtain ⟨A9, c9, rfl, h1, h2, h3⟩ := HOUTS.out.segs (cl.outs_len F ss k) HOWN.out
          have HB9 := Lib.hid (HB03.out.trans (HBW.out.mono HB03.out.size))
          have H9 := Lib.hid (And.intro h1 (And.intro h2 h3)); clear h1 h2 h3
          go_wp2_with fail
          go_ret3
          exact ⟨A9, c9, by rw [← HG.out]; rfl, H9.out.1, H9.out.2.1, H9.out.2.2, HB9.out⟩
end Go.Proofs.Ytnlfdhoabbbheaa

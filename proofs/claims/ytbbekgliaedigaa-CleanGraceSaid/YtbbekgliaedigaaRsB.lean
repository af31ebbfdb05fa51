/- The reference's Restrict (cordwainref10), and SameBatches of the same. -/
import Derived.Test.YtbbekgliaedigaaRsA
import Derived.Test.YtbbekgliaedigaaSmR
namespace Go.Proofs.Ytbbekgliaedigaa
open Go.RowKit
set_option maxRecDepth 100000

/-- A row of records whose bytes lie where they lay. -/
theorem rs.dep {w wx : World} {xs : List Value} {l : List Rec} {B n : Nat} {u : Value} (hrow : rc.Row w xs l) (hb : Below w.heap.size w wx) (hn : l.length = n) (ho : wx.ownsRow B 54 6 u n xs) :
    Dep (fun q => q < w.heap.size ∨ u.ownBlock = some q) wx (fun U => RecsV U u l) := by
  have hcm : ∃ A c, u = .slice A n c ∧ n ≤ c ∧ c ≤ maxLen ∧ At wx A (n * 6) (fun j => xs.getD j undef) := by
    have h := own_at ho
    obtain ⟨A, c, rfl, h1, h2⟩ := h
    exact ⟨A, c, rfl, h1, own_cap ho, h2⟩
  obtain ⟨A, c, rfl, hc1, hc2, hat⟩ := hcm
  refine ⟨fun k => (k < w.heap.size ∨ (Value.slice A n c).ownBlock = some k) ∧ CellsB wx k, fun k hk => hk, fun W' hv hs => ?_⟩
  have hrw : At W' A (n * 6) (fun j => xs.getD j undef) := fun h0 => by
    obtain ⟨b, off, hA, hlt, hc⟩ := hat h0
    refine ⟨b, off, hA, Nat.lt_of_lt_of_le hlt hs, fun j hj => (World.cell?_of_block (hv b ⟨.inr (by rw [hA]; rfl), .of_cell (hc 0 h0)⟩)).trans (hc j hj)⟩
  have hby : ∀ {v : Value} {L : List Nat}, BytesV w v L → BytesV W' v L := fun {v L} ⟨A, c, e, h1, h2⟩ => ⟨A, c, e, fun h0 => by
    obtain ⟨b, off, hA, hlt, hc⟩ := h1 h0
    have hbk := hb.block b hlt
    refine ⟨b, off, hA, Nat.lt_of_lt_of_le hlt (Nat.le_trans hb.size hs), fun j hj => ?_⟩
    have h3 : wx.cell? ⟨b, off + 0, none⟩ = _ := (World.cell?_of_block hbk).trans (hc 0 h0)
    exact ((World.cell?_of_block (hv b ⟨.inl hlt, .of_cell h3⟩)).trans (World.cell?_of_block hbk)).trans (hc j hj), h2⟩
  subst hn
  refine ⟨A, c, _, rfl, hc1, hc2, hrw, fun i r hi => ?_⟩
  obtain ⟨k, v, e, m1, m2, m3⟩ := hrow.2 i r hi
  exact ⟨k, v, e, hby m1, hby m2, m3⟩
theorem rc.Row.one {w : World} {cs : List Value} {r : Rec} (h : RecR w cs r) (hl : cs.length = 6) : rc.Row w cs [r] := by
  refine ⟨by rw [hl]; rfl, fun i x hi => ?_⟩
  match i, hi with
  | 0, hi =>
    obtain rfl : r = x := by simpa using hi
    have e : cellsAt (fun j => cs.getD j undef) 0 6 = cs := by
      match cs, hl with
      | [c0, c1, c2, c3, c4, c5], _ => rfl
    rw [e]
    exact h
  | i + 1, hi => simp at hi

set_option maxHeartbeats 4000000 in
theorem fr.ref_any (A : Option Addr) (n c : Nat) (bs : List Bat) (f t : Int) (w : World) (hat : BatsAt w A bs) (hn : bs.length = n) (hsm : fo.Small bs) :
    Calls Try.prog 40 #[.slice A n c, .int .i64 f, .int .i64 t] w (fr.Post (rs.all f t bs) w) := by
  have hn1 : n ≤ 1000000 := by rw [← hn]; exact hsm.1
  have HAT := Lib.hid hat; clear hat
  have HN := Lib.hid hn; clear hn
  have HSM := Lib.hid hsm; clear hsm
  obtain ⟨i0, hi, hz0, hz1', hz2⟩ := info_parts fo.infoB
  have HI := Lib.hid (And.intro hi (And.intro hz0 (And.intro hz1' hz2))); clear hi hz0 hz1' hz2
  obtain ⟨j0, hi, hz0, hz1', hz2⟩ := info_parts rc.info
  have HJ := Lib.hid (And.intro hi (And.intro hz0 (And.intro hz1' hz2))); clear hi hz0 hz1' hz2
  go_enter Try.func40, Try.ntmps40
  go_wp2_with fail
  go_loopw [7, 8] (fun s7 s8 wx => ∃ (k N : Nat) (v : Value) (xs : List Value), v = s7 ∧ s8 = .int .i64 (k : Int) ∧ k ≤ n ∧ N = (rs.all f t (bs.take k)).length ∧ wx.ownsRow w.heap.size 47 6 v N xs ∧ fo.Cps wx v xs (rs.all f t (bs.take k)) ∧ Below w.heap.size w wx) (fun _ s8 _ => n - (intOf s8).toNat)
  case atStart => exact ⟨0, 0, _, [], rfl, rfl, by omega, rfl, World.ownsRow_nil _ _ _ _, fun i b h => (by simp [rs.all] at h), Below.refl _ _⟩
  case round =>
    obtain ⟨k, N, v, xs, rfl, rfl, hk, hN, hown, hcps, hbw⟩ := hrel
    have HBW := Lib.hid hbw; clear hbw
    have HOWN := Lib.hid hown; clear hown
    have HCPS := Lib.hid hcps; clear hcps
    have hNn : N ≤ n := by
      have h := rs.all_len f t (bs.take k)
      rw [List.length_take] at h
      omega
    have HNL := Lib.hid hN; clear hN
    by_cases hlt : k < n
    · have hlt' : (k : Int) < n := by omega
      obtain ⟨x, hx⟩ : ∃ x, bs[k]? = some x := ⟨_, List.getElem?_eq_getElem (by rw [HN.out]; exact hlt)⟩
      obtain ⟨b2, off2, v2, hA2, hb2, d0, d1, d2, d3, d4, d5, hrecs, i0', i1', i2', i3', i4'⟩ := HAT.out.at' hx
      subst hA2
      obtain ⟨A4, c4, V4, rfl, hmc, hc4, -⟩ := id hrecs
      obtain ⟨m, hm⟩ : ∃ m, m = x.recs.length := ⟨_, rfl⟩
      obtain ⟨hm1, -⟩ := HSM.out.2 x (List.mem_of_getElem? hx)
      rw [← hm] at d5 hmc hrecs hm1
      have hbw0 := HBW.out
      have e0 := (hbw0.cell (p := ⟨b2, off2 + k * 6, none⟩) hb2).trans d0
      have e1 := (hbw0.cell (p := ⟨b2, off2 + k * 6 + 1, none⟩) hb2).trans d1
      have e2 := (hbw0.cell (p := ⟨b2, off2 + k * 6 + 2, none⟩) hb2).trans d2
      have e3 := (hbw0.cell (p := ⟨b2, off2 + k * 6 + 3, none⟩) hb2).trans d3
      have e4 := (hbw0.cell (p := ⟨b2, off2 + k * 6 + 4, none⟩) hb2).trans d4
      have e5 := (hbw0.cell (p := ⟨b2, off2 + k * 6 + 5, none⟩) hb2).trans d5
      have HRECS := Lib.hid hrecs
      have HX := Lib.hid (And.intro hx (And.intro hm (And.intro i0' (And.intro i1' (And.intro i2' (And.intro i3' i4')))))); clear hx hm i0' i1' i2' i3' i4' d0 d1 d2 d3 d4 d5 hrecs hbw0
      obtain ⟨Ar, cr, rfl, -, -⟩ := own_at HOWN.out
      have hrlt := HOWN.out.lt
      have hws := HBW.out.size
      obtain ⟨g, hg⟩ : ∃ g, g = wr.heap.size := ⟨_, rfl⟩
      obtain ⟨w3, hw3⟩ : ∃ w3, w3 = wr.alloc (.cells #[.int .i64 x.base, .int .i64 x.last, .int .i64 x.prod, .int .i64 x.epoch, .int .i64 x.seq, .slice A4 m c4] 47) := ⟨_, rfl⟩
      have hk3 : Blk w3 g 47 #[.int .i64 x.base, .int .i64 x.last, .int .i64 x.prod, .int .i64 x.epoch, .int .i64 x.seq, .slice A4 m c4] := by rw [hw3, hg]; exact Blk.new _ _ _
      have hb3 : Below wr.heap.size wr w3 := by rw [hw3]; exact (Below.refl _ _).alloc (Nat.le_refl _) _
      have hgw : w.heap.size ≤ g := by omega
      have hs3 : w3.heap.size = g + 1 := by rw [hw3, hg]; simp
      have H3 := Lib.hid (And.intro hk3 hb3)
      have HG := Lib.hid (And.intro hg hw3); clear hk3 hb3 hg hw3
      go_upto_region 7 with fail
      rw [← HG.out.2, ← HG.out.1]
      clear e0 e1 e2 e3 e4 e5
      go_wp2_with fail
      obtain ⟨wo, rfl⟩ : ∃ wo : World, wo = wr := ⟨_, rfl⟩
      go_loopw [10, 11] (fun s10 s11 wy => ∃ (j M : Nat) (u : Value) (ys : List Value), u = s10 ∧ s11 = .int .i64 (j : Int) ∧ j ≤ m ∧ M = ((x.recs.take j).filter (rs.in f t)).length ∧ wy.ownsRow (g + 1) 54 6 u M ys ∧ rc.Row w ys ((x.recs.take j).filter (rs.in f t)) ∧ Blk wy g 47 #[.int .i64 x.base, .int .i64 x.last, .int .i64 x.prod, .int .i64 x.epoch, .int .i64 x.seq, .slice A4 m c4] ∧ Below wo.heap.size wo wy) (fun _ s11 _ => m - (intOf s11).toNat)
      case atStart => exact ⟨0, 0, _, [], rfl, rfl, by omega, rfl, World.ownsRow_nil _ _ _ _, rc.Row.nil _, H3.out.1, H3.out.2⟩
      case round =>
        obtain ⟨j, M, u, ys, rfl, rfl, hj, hM, hrown, hrow, hblk, hby⟩ := hrel
        clear H3
        have HBLK := Lib.hid hblk; clear hblk
        have HROWN := Lib.hid hrown; clear hrown
        have HROW := Lib.hid hrow; clear hrow
        have HBY := Lib.hid hby; clear hby
        have HML := Lib.hid hM; clear hM
        have hMj : M ≤ j := by
          rw [HML.out]
          refine Nat.le_trans (List.length_filter_le _ _) ?_
          rw [List.length_take]
          omega
        have hgs : g + 1 ≤ wr.heap.size := HBLK.out.lt
        have c5 : wr.cell? ⟨g, 5, none⟩ = some (.slice A4 m c4) := HBLK.out.cell 5 rfl
        obtain ⟨Au, cu, rfl, -, -⟩ := own_at HROWN.out
        have hult := HROWN.out.lt
        have hug : (Value.slice Au M cu).ownBlock ≠ some g := HBLK.out.not_row (by decide) HROWN.out
        by_cases hjm : j < m
        · have hjm' : (j : Int) < m := by omega
          obtain ⟨y, hy⟩ : ∃ y, x.recs[j]? = some y := ⟨_, List.getElem?_eq_getElem (by rw [← HX.out.2.1]; exact hjm)⟩
          obtain ⟨pr, off, c', kv, vv, hA, -, -, hpr, d0, d1, d2, d3, d4, d5, hkv0, hvv0, hio, hti⟩ := HRECS.out.at' hy
          obtain ⟨rfl, rfl⟩ : A4 = some ⟨pr, off, none⟩ ∧ c4 = c' := by simp at hA; exact ⟨hA.1, hA.2.2⟩
          have hrec1 : RecR w [.int .i64 y.off, .int .i64 y.time, .bool y.hasKey, kv, .bool y.hasVal, vv] y := ⟨kv, vv, rfl, hkv0, hvv0, hio, hti⟩
          obtain ⟨Ak, ck, rfl, -⟩ := hkv0
          obtain ⟨Av, cv, rfl, -⟩ := hvv0
          obtain ⟨nk, hnk⟩ : ∃ nk, nk = y.key.length := ⟨_, rfl⟩
          obtain ⟨nv, hnv⟩ : ∃ nv, nv = y.val.length := ⟨_, rfl⟩
          rw [← hnk] at d3 hrec1
          rw [← hnv] at d5 hrec1
          clear hnk hnv
          have hb0 : Below w.heap.size w wr := HBW.out.trans (HBY.out.mono hws)
          have e0 := (hb0.cell (p := ⟨pr, off + j * 6, none⟩) hpr).trans d0
          have e1 := (hb0.cell (p := ⟨pr, off + j * 6 + 1, none⟩) hpr).trans d1
          have e2 := (hb0.cell (p := ⟨pr, off + j * 6 + 2, none⟩) hpr).trans d2
          have e3 := (hb0.cell (p := ⟨pr, off + j * 6 + 3, none⟩) hpr).trans d3
          have e4 := (hb0.cell (p := ⟨pr, off + j * 6 + 4, none⟩) hpr).trans d4
          have e5 := (hb0.cell (p := ⟨pr, off + j * 6 + 5, none⟩) hpr).trans d5
          have HY := Lib.hid (And.intro hy hrec1); clear hy hrec1 d0 d1 d2 d3 d4 d5 hA hb0 hio hti
          by_cases hin : f ≤ y.off ∧ y.off < t
          · obtain ⟨hf1, hf2⟩ := hin
            have hsucc : (x.recs.take (j + 1)).filter (rs.in f t) = (x.recs.take j).filter (rs.in f t) ++ [y] := by
              rw [rs.recs_succ HY.out.1, if_pos (by unfold rs.in; rw [decide_eq_true hf1, decide_eq_true hf2]; rfl)]
            have hrow2 : rc.Row w (ys ++ [.int .i64 y.off, .int .i64 y.time, .bool y.hasKey, .slice Ak nk ck, .bool y.hasVal, .slice Av nv cv]) ((x.recs.take (j + 1)).filter (rs.in f t)) := by
              rw [hsucc]
              exact HROW.out.append (rc.Row.one HY.out.2 rfl)
            have hM2 : M + 1 = ((x.recs.take (j + 1)).filter (rs.in f t)).length := by rw [hsucc, List.length_append, ← HML.out]; rfl
            have HSU := Lib.hid (And.intro hrow2 hM2); clear hsucc hrow2 hM2
            have hb4 : Below wr.heap.size wr (wr.alloc (.cells #[.int .i64 y.off, .int .i64 y.time, .bool y.hasKey, .slice Ak nk ck, .bool y.hasVal, .slice Av nv cv] 54)) := (Below.refl _ _).alloc (Nat.le_refl _) _
            have hg4 : Blk (wr.alloc (.cells #[.int .i64 y.off, .int .i64 y.time, .bool y.hasKey, .slice Ak nk ck, .bool y.hasVal, .slice Av nv cv] 54)) g 47 #[.int .i64 x.base, .int .i64 x.last, .int .i64 x.prod, .int .i64 x.epoch, .int .i64 x.seq, .slice (some ⟨pr, off, none⟩) m c4] := (hb4.block g hgs).trans HBLK.out
            have H4 := Lib.hid (And.intro hg4 (And.intro (HROWN.out.alloc (.cells #[.int .i64 y.off, .int .i64 y.time, .bool y.hasKey, .slice Ak nk ck, .bool y.hasVal, .slice Av nv cv] 54)) (HBY.out.trans (hb4.mono HBY.out.size)))); clear hg4 hb4
            go_wp2_with (at_builtin; go_loud (refine wpList_append_own_at _ rfl (.tmp 47) (.tmp 53) 45 rfl (g + 1) 54 j0 _ 6 80 Try.underlying45 HJ.out.1 HJ.out.2.1 HJ.out.2.2.1 HJ.out.2.2.2 rfl (by decide) (.slice Au M cu) M ys rfl H4.out.2.1 ⟨wr.heap.size, 0, none⟩ 1 1 [.int .i64 y.off, .int .i64 y.time, .bool y.hasKey, .slice Ak nk ck, .bool y.hasVal, .slice Av nv cv] rfl rfl (cells_new _ [.int .i64 y.off, .int .i64 y.time, .bool y.hasKey, .slice Ak nk ck, .bool y.hasVal, .slice Av nv cv] _ _ rfl) (by simp [Value.oneCell']) (by unfold maxLen; omega) (by omega) (by simp; omega) ?_; intro v2 w9 h1 h2 _ h3; have H9 := Lib.hid (And.intro h1 (And.intro ((Chg.grown h2).blk H4.out.1 hug) (H4.out.2.2.grown h2 (by simp; have := HBY.out.size; omega) (fun q' hq' => by have := (hult q' hq').1; have := HG.out.1; omega)))); clear h1 h2 h3))
            go_wp2_with fail
            go_roundw
            case rel => exact ⟨j + 1, M + 1, v2, _, rfl, by go_num, by omega, HSU.out.2, H9.out.1, HSU.out.1, H9.out.2.1, H9.out.2.2⟩
            case measure => simp [intOf]; omega
          · have hsucc : (x.recs.take (j + 1)).filter (rs.in f t) = (x.recs.take j).filter (rs.in f t) := by
              rw [rs.recs_succ HY.out.1, if_neg, List.append_nil]
              unfold rs.in
              rw [Bool.and_eq_true, decide_eq_true_eq, decide_eq_true_eq]
              exact hin
            have HSU := Lib.hid hsucc; clear hsucc
            have hcase : ¬ f ≤ y.off ∨ (f ≤ y.off ∧ ¬ y.off < t) := by
              by_cases h : f ≤ y.off
              · exact .inr ⟨h, fun h2 => hin ⟨h, h2⟩⟩
              · exact .inl h
            clear hin
            rcases hcase with h1 | ⟨h1, h2⟩
            · have hd : decide (f ≤ y.off) = false := decide_eq_false h1
              go_wp2_with fail
              go_roundw
              case rel => exact ⟨j + 1, M, _, ys, rfl, by go_num, by omega, by rw [HSU.out]; exact HML.out, HROWN.out, by rw [HSU.out]; exact HROW.out, HBLK.out, HBY.out⟩
              case measure => simp [intOf]; omega
            · have hd : decide (y.off < t) = false := decide_eq_false h2
              go_wp2_with fail
              go_roundw
              case rel => exact ⟨j + 1, M, _, ys, rfl, by go_num, by omega, by rw [HSU.out]; exact HML.out, HROWN.out, by rw [HSU.out]; exact HROW.out, HBLK.out, HBY.out⟩
              case measure => simp [intOf]; omega
        · obtain rfl : j = m := by omega
          have hfull : (rs.cut f t x).recs = (x.recs.take j).filter (rs.in f t) := by
            rw [List.take_of_length_le (by rw [← HX.out.2.1]; exact Nat.le_refl _)]
            rfl
          have hts := rs.take_succ (f := f) (t := t) HX.out.1
          rw [hfull, ← HML.out] at hts
          have HTS := Lib.hid (And.intro hts hfull); clear hts hfull
          have f5 := HBLK.out.frozen 5
          obtain ⟨w4, hw4⟩ : ∃ w4, w4 = wr.setCell ⟨g, 5, none⟩ (.slice Au M cu) := ⟨_, rfl⟩
          have hc4 : Chg wr w4 (fun k => k = g) := by rw [hw4]; exact Chg.setCell _ _ _ _
          have hk4 : Blk w4 g 47 #[.int .i64 x.base, .int .i64 x.last, .int .i64 x.prod, .int .i64 x.epoch, .int .i64 x.seq, .slice Au M cu] := by rw [hw4]; exact HBLK.out.set 5 _
          have hb4 : Below wo.heap.size wo w4 := HBY.out.trans (hc4.below HBY.out.size fun k hk => by have hk : k = g := hk; have := HG.out.1; omega)
          have hr4 : w4.ownsRow (g + 1) 54 6 (.slice Au M cu) M ys := hc4.own HROWN.out fun q' hq' hh => by have hh : q' = g := hh; rw [hh] at hq'; exact hug hq'
          have H4 := Lib.hid (And.intro hk4 (And.intro hb4 hr4)); clear hc4 hk4 hb4 hr4
          have HW4 := Lib.hid hw4; clear hw4
          go_upto_region 13 with fail
          rw [← HW4.out]
          clear c5 f5 HBLK HBY HROWN HW4
          by_cases hM0 : 0 < M
          · have hM0' : (0 : Int) < (M : Int) := by omega
            have hb1 : Below wo.heap.size wo w4 := H4.out.2.1
            obtain ⟨w5, hw5⟩ : ∃ w5, w5 = w4.alloc (.cells #[.int .i64 x.base, .int .i64 x.last, .int .i64 x.prod, .int .i64 x.epoch, .int .i64 x.seq, .slice Au M cu] 47) := ⟨_, rfl⟩
            have hb45 : Below w4.heap.size w4 w5 := by rw [hw5]; exact (Below.refl _ _).alloc (Nat.le_refl _) _
            have hb15 : Below wo.heap.size wo w5 := hb1.trans (hb45.mono hb1.size)
            have hs5 : w5.heap.size = w4.heap.size + 1 := by rw [hw5]; simp
            have hs1 := hb1.size
            have hown5 := (chg_of (P := fun _ => False) hb15).own HOWN.out fun _ _ h => h.elim
            have hcps5 : fo.Cps w5 (.slice Ar N cr) xs (rs.all f t (bs.take k)) := fun i b hi => (HCPS.out i b hi).below hb15
            have hrow := HROW.out
            rw [← HTS.out.2] at hrow
            have hdep := rs.dep hrow (HBW.out.trans (hb1.mono hws)) (by rw [HTS.out.2]; exact HML.out.symm) H4.out.2.2
            have hcp5 : fo.Cp w5 (.slice Ar N cr) [.int .i64 x.base, .int .i64 x.last, .int .i64 x.prod, .int .i64 x.epoch, .int .i64 x.seq, .slice Au M cu] (rs.cut f t x) := by
              refine ⟨_, rfl, (hdep.below hb45).weak fun q' hq' _ e => ?_, HX.out.2.2⟩
              have h1 := hrlt q' e
              rcases hq' with h2 | h2
              · omega
              · have := (hult q' h2).1
                have := HG.out.1
                omega
            have hxl := hown5.1
            have happ : ∀ v2 w9, w9.ownsRow w.heap.size 47 6 v2 (N + 1) (xs ++ [.int .i64 x.base, .int .i64 x.last, .int .i64 x.prod, .int .i64 x.epoch, .int .i64 x.seq, .slice Au M cu]) → w5.grownBy w9 (Value.slice Ar N cr).ownBlock → (v2.ownBlock = (Value.slice Ar N cr).ownBlock ∨ v2.ownBlock = some w5.heap.size) →
                N + 1 = (rs.all f t (bs.take (k + 1))).length ∧ fo.Cps w9 v2 (xs ++ [.int .i64 x.base, .int .i64 x.last, .int .i64 x.prod, .int .i64 x.epoch, .int .i64 x.seq, .slice Au M cu]) (rs.all f t (bs.take (k + 1))) ∧ Below w.heap.size w w9 := fun v2 w9 h1 h2 h3 => by
              rw [HTS.out.1, if_pos hM0]
              refine ⟨by rw [List.length_append, ← HNL.out]; rfl, hcps5.snoc (by rw [← HNL.out]; exact hxl) hcp5 rfl h2 h3, (HBW.out.trans (hb15.mono hws)).grown h2 (by omega) (fun q' hq' => (hrlt q' hq').1)⟩
            have HAPP := Lib.hid happ; clear happ hcps5 hcp5 hxl hrow hdep
            have HOWN5 := Lib.hid hown5; clear hown5 hb45 hb15 hb1
            have l0 := H4.out.1.cell 0 rfl
            have l1 := H4.out.1.cell 1 rfl
            have l2 := H4.out.1.cell 2 rfl
            have l3 := H4.out.1.cell 3 rfl
            have l4 := H4.out.1.cell 4 rfl
            have l5 := H4.out.1.cell 5 rfl
            rw [hw5] at HAPP HOWN5 hs5
            clear hw5
            go_wp2_with (at_builtin; go_loud (refine wpList_append_own_at _ rfl (.tmp 60) (.tmp 62) 43 rfl w.heap.size 47 i0 _ 6 64 Try.underlying43 HI.out.1 HI.out.2.1 HI.out.2.2.1 HI.out.2.2.2 rfl (by decide) (.slice Ar N cr) N xs rfl HOWN5.out ⟨w4.heap.size, 0, none⟩ 1 1 [.int .i64 x.base, .int .i64 x.last, .int .i64 x.prod, .int .i64 x.epoch, .int .i64 x.seq, .slice Au M cu] rfl rfl (cells_new _ [.int .i64 x.base, .int .i64 x.last, .int .i64 x.prod, .int .i64 x.epoch, .int .i64 x.seq, .slice Au M cu] _ _ rfl) (by simp [Value.oneCell']) (by unfold maxLen; omega) (by omega) (by rw [hs5]; omega) ?_; intro v2 w9 h1 h2 _ h3; have HN2 := Lib.hid (And.intro h1 (HAPP.out v2 w9 h1 h2 h3)); clear h1 h2 h3))
            go_wp2_with fail
            go_roundw
            case rel => exact ⟨k + 1, N + 1, v2, _, rfl, by go_num, by omega, HN2.out.2.1, HN2.out.1, HN2.out.2.2.1, HN2.out.2.2.2⟩
            case measure => simp [intOf]; omega
          · obtain rfl : M = 0 := by omega
            have hall : rs.all f t (bs.take (k + 1)) = rs.all f t (bs.take k) := by rw [HTS.out.1, if_neg (by omega), List.append_nil]
            have HALL := Lib.hid hall; clear hall hM0
            go_wp2_with fail
            go_roundw
            case rel => exact ⟨k + 1, N, .slice Ar N cr, xs, rfl, by go_num, by omega, by rw [HALL.out]; exact HNL.out, (chg_of (P := fun _ => False) H4.out.2.1).own HOWN.out fun _ _ h => h.elim, by rw [HALL.out]; exact fun i b hi => (HCPS.out i b hi).below H4.out.2.1, HBW.out.trans (H4.out.2.1.mono hws)⟩
            case measure => simp [intOf]; omega
    · obtain rfl : k = n := by omega
      have hcps := HCPS.out
      have hN := HNL.out
      rw [List.take_of_length_le (by rw [HN.out]; exact Nat.le_refl _)] at hcps hN
      obtain ⟨A9, c9, rfl, h1, h2, h3⟩ := hcps.bats hN.symm HOWN.out
      have H9 := Lib.hid (And.intro hN (And.intro h1 (And.intro h2 h3))); clear h1 h2 h3 hcps hN
      go_wp2_with fail
      go_ret
      exact ⟨A9, c9, by rw [← H9.out.1]; rfl, by rw [← H9.out.1]; exact H9.out.2.1, H9.out.2.2.1, H9.out.2.2.2, HBW.out⟩
end Go.Proofs.Ytbbekgliaedigaa

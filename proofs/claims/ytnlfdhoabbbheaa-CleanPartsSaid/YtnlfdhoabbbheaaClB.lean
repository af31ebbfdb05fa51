/- clean.Segment: of batches those records alone that stay. -/
import Derived.Test.YtnlfdhoabbbheaaClA
import Derived.Test.YtnlfdhoabbbheaaClO
import Derived.Test.YtnlfdhoabbbheaaRsB
namespace Go.Proofs.Ytnlfdhoabbbheaa
open Go.RowKit Go.Maps
set_option maxRecDepth 100000

def ps.cut (F : Rec → Bool) (b : Bat) : Bat := { b with recs := b.recs.filter F }
/-- What is left of batches. -/
def ps.all (F : Rec → Bool) (bs : List Bat) : List Bat := (bs.map (ps.cut F)).filter fun b => decide (0 < b.recs.length)
theorem ps.take_succ {F : Rec → Bool} {bs : List Bat} {k : Nat} {x : Bat} (h : bs[k]? = some x) : ps.all F (bs.take (k + 1)) = ps.all F (bs.take k) ++ if 0 < (ps.cut F x).recs.length then [ps.cut F x] else [] := by
  obtain ⟨h1, h2⟩ := List.getElem?_eq_some_iff.1 h
  unfold ps.all
  rw [List.take_succ_eq_append_getElem h1, h2, List.map_append, List.filter_append]
  congr 1
  simp only [List.map_cons, List.map_nil]
  by_cases h : 0 < (ps.cut F x).recs.length
  · rw [if_pos h, List.filter_cons_of_pos (by simpa using h)]
    rfl
  · rw [if_neg h, List.filter_cons_of_neg (by simpa using h)]
    rfl
theorem ps.all_len (F : Rec → Bool) (bs : List Bat) : (ps.all F bs).length ≤ bs.length := by
  unfold ps.all
  refine Nat.le_trans (List.length_filter_le _ _) ?_
  rw [List.length_map]
  exact Nat.le_refl _
theorem ps.recs_succ {F : Rec → Bool} {l : List Rec} {j : Nat} {y : Rec} (h : l[j]? = some y) : (l.take (j + 1)).filter F = (l.take j).filter F ++ if F y = true then [y] else [] := by
  obtain ⟨h1, h2⟩ := List.getElem?_eq_some_iff.1 h
  rw [List.take_succ_eq_append_getElem h1, h2, List.filter_append]
  congr 1
  by_cases h : F y = true
  · rw [if_pos h, List.filter_cons_of_pos h]
    rfl
  · rw [if_neg h, List.filter_cons_of_neg h]
    rfl

set_option maxHeartbeats 4000000 in
theorem cl.segment_any (A : Option Addr) (n c : Nat) (bs : List Bat) (p b : Nat) (most : Int) (N0 : Nat) (g0 : ByteArray → Option Int) (upto now grace : Int) (w : World) (hat : BatsAt w A bs) (hn : bs.length = n) (hsm : fo.Small bs) (htm : ∀ x ∈ bs, ∀ r ∈ x.recs, 0 ≤ r.time) (hkm : KM w p b most N0 g0)
    (hnow : 0 ≤ now ∧ now ≤ 9223372036854775807) (hgr : 0 ≤ grace ∧ grace ≤ 9223372036854775807) :
    Calls Try.prog 22 #[.slice A n c, .pointer (some ⟨p, 0, none⟩), .int .i64 upto, .int .i64 now, .int .i64 grace] w (cl.SegPost (ps.all (cl.stays g0 upto now grace) bs) w) := by
  have hn1 : n ≤ 1000000 := by rw [← hn]; exact hsm.1
  have hrec := fun (r : Rec) (Ak : Option Addr) (nk ck : Nat) (Av : Option Addr) (nv cv : Nat) (wx : World) (hb : Below w.heap.size w wx) (hl : r.key.length = nk) (hm : nk ≤ maxLen) (ha : At wx Ak nk (byteAt r.key)) (ht : 0 ≤ r.time ∧ r.time ≤ 9223372036854775807) =>
    show Calls Try.prog 16 #[.agg #[.int .i64 r.off, .int .i64 r.time, .bool r.hasKey, .slice Ak nk ck, .bool r.hasVal, .slice Av nv cv], .pointer (some ⟨p, 0, none⟩), .int .i64 upto, .int .i64 now, .int .i64 grace] wx (fun e w' => e = .returned (.bool (cl.stays g0 upto now grace r)) ∧ Below wx.heap.size wx w') from by
      subst hl
      exact cl.record_any r Ak ck Av nv cv p b most N0 g0 upto now grace wx (hkm.keep hb) hm ha ht hnow hgr
  generalize cl.stays g0 upto now grace = F at *
  have HREC := Lib.hid hrec; clear hrec hkm hnow hgr
  have HAT := Lib.hid hat; clear hat
  have HN := Lib.hid hn; clear hn
  have HSM := Lib.hid (And.intro hsm htm); clear hsm htm
  obtain ⟨i0, hi, hz0, hz1', hz2⟩ := info_parts fo.infoB
  have HI := Lib.hid (And.intro hi (And.intro hz0 (And.intro hz1' hz2))); clear hi hz0 hz1' hz2
  obtain ⟨j0, hi, hz0, hz1', hz2⟩ := info_parts rc.info
  have HJ := Lib.hid (And.intro hi (And.intro hz0 (And.intro hz1' hz2))); clear hi hz0 hz1' hz2
  go_enter Try.func22, Try.ntmps22
  go_wp2_with fail
  go_step3
  go_wp2_with fail
  go_step3
  go_wp2_with fail
  go_loopw [11, 19] (fun s7 s8 wx => ∃ (k N : Nat) (v : Value) (xs : List Value), v = s7 ∧ s8 = .int .i64 (k : Int) ∧ k ≤ n ∧ N = (ps.all F (bs.take k)).length ∧ wx.ownsRow w.heap.size 46 6 v N xs ∧ cl.Cps w.heap.size wx v xs (ps.all F (bs.take k)) ∧ Below w.heap.size w wx) (fun _ s8 _ => n - (intOf s8).toNat)
  case atStart => exact ⟨0, 0, _, [], rfl, rfl, by omega, rfl, World.ownsRow_nil _ _ _ _, fun i b h => (by simp [ps.all] at h), Below.refl _ _⟩
  case round =>
    obtain ⟨k, N, v, xs, rfl, rfl, hk, hN, hown, hcps, hbw⟩ := hrel
    have HBW := Lib.hid hbw; clear hbw
    have HOWN := Lib.hid hown; clear hown
    have HCPS := Lib.hid hcps; clear hcps
    have hNn : N ≤ n := by
      have h := ps.all_len F (bs.take k)
      rw [List.length_take] at h
      omega
    have HNL := Lib.hid hN; clear hN
    by_cases hlt : k < n
    · have hlt' : (k : Int) < n := by omega
      obtain ⟨x, hx⟩ : ∃ x, bs[k]? = some x := ⟨_, List.getElem?_eq_getElem (by rw [HN.out]; exact hlt)⟩
      obtain ⟨b2, off2, v2, hA2, hb2, d0, d1, d2, d3, d4, d5, hrecs, i0', i1', i2', i3', i4'⟩ := HAT.out.at' hx
      subst hA2
      obtain ⟨A4, c4, V4, rfl, hmc, hc4, -⟩ := id hrecs
      obtain ⟨m, hm⟩ : ∃ m, m = x.recs.length := ⟨_, rfl⟩
      obtain ⟨hm1, hrs⟩ := HSM.out.1.2 x (List.mem_of_getElem? hx)
      have htx := HSM.out.2 x (List.mem_of_getElem? hx)
      rw [← hm] at d5 hmc hrecs hm1
      have hbw0 := HBW.out
      have e0 := (hbw0.cell (p := ⟨b2, off2 + k * 6, none⟩) hb2).trans d0
      have e1 := (hbw0.cell (p := ⟨b2, off2 + k * 6 + 1, none⟩) hb2).trans d1
      have e2 := (hbw0.cell (p := ⟨b2, off2 + k * 6 + 2, none⟩) hb2).trans d2
      have e3 := (hbw0.cell (p := ⟨b2, off2 + k * 6 + 3, none⟩) hb2).trans d3
      have e4 := (hbw0.cell (p := ⟨b2, off2 + k * 6 + 4, none⟩) hb2).trans d4
      have e5 := (hbw0.cell (p := ⟨b2, off2 + k * 6 + 5, none⟩) hb2).trans d5
      have HRECS := Lib.hid hrecs
      have HTX := Lib.hid (And.intro hrs htx); clear hrs htx
      have HX := Lib.hid (And.intro hx (And.intro hm (And.intro i0' (And.intro i1' (And.intro i2' (And.intro i3' i4')))))); clear hx hm i0' i1' i2' i3' i4' d0 d1 d2 d3 d4 d5 hrecs hbw0
      obtain ⟨Ar, cr, rfl, -, -⟩ := own_at HOWN.out
      have hrlt := HOWN.out.lt
      have hws := HBW.out.size
      obtain ⟨g, hg⟩ : ∃ g, g = wr.heap.size := ⟨_, rfl⟩
      obtain ⟨w3, hw3⟩ : ∃ w3, w3 = wr.alloc (.cells #[.int .i64 x.base, .int .i64 x.last, .int .i64 x.prod, .int .i64 x.epoch, .int .i64 x.seq, .slice A4 m c4] 46) := ⟨_, rfl⟩
      have hk3 : Blk w3 g 46 #[.int .i64 x.base, .int .i64 x.last, .int .i64 x.prod, .int .i64 x.epoch, .int .i64 x.seq, .slice A4 m c4] := by rw [hw3, hg]; exact Blk.new _ _ _
      have hb3 : Below wr.heap.size wr w3 := by rw [hw3]; exact (Below.refl _ _).alloc (Nat.le_refl _) _
      have hgw : w.heap.size ≤ g := by omega
      have hs3 : w3.heap.size = g + 1 := by rw [hw3, hg]; simp
      have c5' : w3.cell? ⟨g, 5, none⟩ = some (.slice A4 m c4) := hk3.cell 5 rfl
      have H3 := Lib.hid (And.intro hk3 hb3)
      have HG := Lib.hid (And.intro hg hw3); clear hk3 hb3 hg hw3
      go_upto_region 5 with fail
      rw [← HG.out.2, ← HG.out.1]
      clear e0 e1 e2 e3 e4 e5
      go_wp2_with fail
      rename_i KO hKO
      go_step3
      go_wp2_with fail
      go_step3
      go_wp2_with fail
      clear c5'
      obtain ⟨wo, rfl⟩ : ∃ wo : World, wo = wr := ⟨_, rfl⟩
      go_loopw [14, 26] (fun s10 s11 wy => ∃ (j M : Nat) (u : Value) (ys : List Value), u = s10 ∧ s11 = .int .i64 (j : Int) ∧ j ≤ m ∧ M = ((x.recs.take j).filter F).length ∧ wy.ownsRow (g + 1) 34 6 u M ys ∧ rc.Row w ys ((x.recs.take j).filter F) ∧ Blk wy g 46 #[.int .i64 x.base, .int .i64 x.last, .int .i64 x.prod, .int .i64 x.epoch, .int .i64 x.seq, .slice A4 m c4] ∧ Below wo.heap.size wo wy) (fun _ s11 _ => m - (intOf s11).toNat)
      case atStart => exact ⟨0, 0, _, [], rfl, rfl, by omega, rfl, World.ownsRow_nil _ _ _ _, rc.Row.nil _, H3.out.1, H3.out.2⟩
      case round =>
        obtain ⟨j, M, u, ys, rfl, rfl, hj, hM, hrown, hrow, hblk, hby⟩ := hrel
        clear H3
        have HBLK := Lib.hid hblk; clear hblk
        have HROWN := Lib.hid hrown; clear hrown
        have HROW := Lib.hid hrow; clear hrow
        have HBY := Lib.hid hby; clear hby
        have HML := Lib.hid hM; clear hM
        have hMj : M ≤ j := by
          rw [HML.out]
          refine Nat.le_trans (List.length_filter_le _ _) ?_
          rw [List.length_take]
          omega
        have hgs : g + 1 ≤ wr.heap.size := HBLK.out.lt
        obtain ⟨Au, cu, rfl, -, -⟩ := own_at HROWN.out
        have hult := HROWN.out.lt
        have hug : (Value.slice Au M cu).ownBlock ≠ some g := HBLK.out.not_row (by decide) HROWN.out
        by_cases hjm : j < m
        · have hjm' : (j : Int) < m := by omega
          obtain ⟨y, hy⟩ : ∃ y, x.recs[j]? = some y := ⟨_, List.getElem?_eq_getElem (by rw [← HX.out.2.1]; exact hjm)⟩
          obtain ⟨pr, off, c', kv, vv, hA, -, -, hpr, d0, d1, d2, d3, d4, d5, hkv0, hvv0, hio, hti⟩ := HRECS.out.at' hy
          obtain ⟨rfl, rfl⟩ : A4 = some ⟨pr, off, none⟩ ∧ c4 = c' := by simp at hA; exact ⟨hA.1, hA.2.2⟩
          have hrec1 : RecR w [.int .i64 y.off, .int .i64 y.time, .bool y.hasKey, kv, .bool y.hasVal, vv] y := ⟨kv, vv, rfl, hkv0, hvv0, hio, hti⟩
          obtain ⟨Ak, ck, rfl, hka, hk1, hk2, -⟩ := hkv0
          obtain ⟨Av, cv, rfl, -⟩ := hvv0
          obtain ⟨nk, hnk⟩ : ∃ nk, nk = y.key.length := ⟨_, rfl⟩
          obtain ⟨nv, hnv⟩ : ∃ nv, nv = y.val.length := ⟨_, rfl⟩
          rw [← hnk] at d3 hrec1 hka hk1
          rw [← hnv] at d5 hrec1
          have hb0 : Below w.heap.size w wr := HBW.out.trans (HBY.out.mono hws)
          have hty := HTX.out.2 y (List.mem_of_getElem? hy)
          have hcall := fun (wx : World) (hb : Below w.heap.size w wx) => HREC.out y Ak nk ck Av nv cv wx hb hnk.symm (Nat.le_trans hk1 hk2) (hka.below hb (Nat.le_refl _)) ⟨hty, hti.2⟩
          have HCALL := Lib.hid hcall; clear hcall hnk hnv hty hka hk1 hk2
          have e0 := (hb0.cell (p := ⟨pr, off + j * 6, none⟩) hpr).trans d0
          have e1 := (hb0.cell (p := ⟨pr, off + j * 6 + 1, none⟩) hpr).trans d1
          have e2 := (hb0.cell (p := ⟨pr, off + j * 6 + 2, none⟩) hpr).trans d2
          have e3 := (hb0.cell (p := ⟨pr, off + j * 6 + 3, none⟩) hpr).trans d3
          have e4 := (hb0.cell (p := ⟨pr, off + j * 6 + 4, none⟩) hpr).trans d4
          have e5 := (hb0.cell (p := ⟨pr, off + j * 6 + 5, none⟩) hpr).trans d5
          have HY := Lib.hid (And.intro hy hrec1); clear hy hrec1 d0 d1 d2 d3 d4 d5 hA hio hti
          obtain ⟨q, hq⟩ : ∃ q, q = wr.heap.size := ⟨_, rfl⟩
          obtain ⟨w4, hw4⟩ : ∃ w4, w4 = wr.alloc (.cells #[.int .i64 y.off, .int .i64 y.time, .bool y.hasKey, .slice Ak nk ck, .bool y.hasVal, .slice Av nv cv] 34) := ⟨_, rfl⟩
          have hb4 : Below wr.heap.size wr w4 := by rw [hw4]; exact (Below.refl _ _).alloc (Nat.le_refl _) _
          have hk4 : Blk w4 q 34 #[.int .i64 y.off, .int .i64 y.time, .bool y.hasKey, .slice Ak nk ck, .bool y.hasVal, .slice Av nv cv] := by rw [hw4, hq]; exact Blk.new _ _ _
          have s0 : w4.cell? ⟨q, 0, none⟩ = some (.int .i64 y.off) := hk4.cell 0 rfl
          have s1 : w4.cell? ⟨q, 1, none⟩ = some (.int .i64 y.time) := hk4.cell 1 rfl
          have s2 : w4.cell? ⟨q, 2, none⟩ = some (.bool y.hasKey) := hk4.cell 2 rfl
          have s3 : w4.cell? ⟨q, 3, none⟩ = some (.slice Ak nk ck) := hk4.cell 3 rfl
          have s4 : w4.cell? ⟨q, 4, none⟩ = some (.bool y.hasVal) := hk4.cell 4 rfl
          have s5 : w4.cell? ⟨q, 5, none⟩ = some (.slice Av nv cv) := hk4.cell 5 rfl
          have H4 := Lib.hid (And.intro hb4 (And.intro hk4 (hb0.trans (hb4.mono hb0.size)))); clear hb4 hk4 hb0
          have HW4 := Lib.hid (And.intro hq hw4); clear hq hw4
          go_upto_region 9 with fail
          rw [← HW4.out.2, ← HW4.out.1]
          clear e0 e1 e2 e3 e4 e5
          go_wp2_with fail
          refine (HCALL.out w4 H4.out.2.2).mono ?_
          rintro e w5 ⟨rfl, hb45⟩
          clear s0 s1 s2 s3 s4 s5
          have hb5 : Below wr.heap.size wr w5 := H4.out.1.trans (hb45.mono H4.out.1.size)
          have hk5 : Blk w5 q 34 #[.int .i64 y.off, .int .i64 y.time, .bool y.hasKey, .slice Ak nk ck, .bool y.hasVal, .slice Av nv cv] := (hb45.block q H4.out.2.1.lt).trans H4.out.2.1
          have hg5 : Blk w5 g 46 #[.int .i64 x.base, .int .i64 x.last, .int .i64 x.prod, .int .i64 x.epoch, .int .i64 x.seq, .slice (some ⟨pr, off, none⟩) m c4] := (hb5.block g hgs).trans HBLK.out
          have hr5 := (chg_of (P := fun _ => False) hb5).own HROWN.out fun _ _ h => h.elim
          have H5 := Lib.hid (And.intro hk5 (And.intro hg5 (And.intro hr5 (HBY.out.trans (hb5.mono HBY.out.size))))); clear hk5 hg5 hr5 hb5 hb45 HCALL
          have hstay : ∀ t : Bool, F y = t → (x.recs.take (j + 1)).filter F = (x.recs.take j).filter F ++ if t = true then [y] else [] := fun t h => by rw [ps.recs_succ HY.out.1, h]
          have HST := Lib.hid hstay; clear hstay
          obtain ⟨t, ht⟩ : ∃ t, F y = t := ⟨_, rfl⟩
          rw [ht]
          have hsucc := HST.out t ht
          clear HST
          have HT := Lib.hid ht; clear ht
          cases t with
          | true =>
            rw [if_pos rfl] at hsucc
            have hrow2 : rc.Row w (ys ++ [.int .i64 y.off, .int .i64 y.time, .bool y.hasKey, .slice Ak nk ck, .bool y.hasVal, .slice Av nv cv]) ((x.recs.take (j + 1)).filter F) := by
              rw [hsucc]
              exact HROW.out.append (rc.Row.one HY.out.2 rfl)
            have hM2 : M + 1 = ((x.recs.take (j + 1)).filter F).length := by rw [hsucc, List.length_append, ← HML.out]; rfl
            have HSU := Lib.hid (And.intro hrow2 hM2); clear hsucc hrow2 hM2
            have s0 : w5.cell? ⟨q, 0, none⟩ = some (.int .i64 y.off) := H5.out.1.cell 0 rfl
            have s1 : w5.cell? ⟨q, 1, none⟩ = some (.int .i64 y.time) := H5.out.1.cell 1 rfl
            have s2 : w5.cell? ⟨q, 2, none⟩ = some (.bool y.hasKey) := H5.out.1.cell 2 rfl
            have s3 : w5.cell? ⟨q, 3, none⟩ = some (.slice Ak nk ck) := H5.out.1.cell 3 rfl
            have s4 : w5.cell? ⟨q, 4, none⟩ = some (.bool y.hasVal) := H5.out.1.cell 4 rfl
            have s5 : w5.cell? ⟨q, 5, none⟩ = some (.slice Av nv cv) := H5.out.1.cell 5 rfl
            have hb6 : Below w5.heap.size w5 (w5.alloc (.cells #[.int .i64 y.off, .int .i64 y.time, .bool y.hasKey, .slice Ak nk ck, .bool y.hasVal, .slice Av nv cv] 34)) := (Below.refl _ _).alloc (Nat.le_refl _) _
            have hg6 : Blk (w5.alloc (.cells #[.int .i64 y.off, .int .i64 y.time, .bool y.hasKey, .slice Ak nk ck, .bool y.hasVal, .slice Av nv cv] 34)) g 46 #[.int .i64 x.base, .int .i64 x.last, .int .i64 x.prod, .int .i64 x.epoch, .int .i64 x.seq, .slice (some ⟨pr, off, none⟩) m c4] := (hb6.block g H5.out.2.1.lt).trans H5.out.2.1
            have hs5 : g + 1 ≤ w5.heap.size := H5.out.2.1.lt
            have H6 := Lib.hid (And.intro hg6 (And.intro (H5.out.2.2.1.alloc (.cells #[.int .i64 y.off, .int .i64 y.time, .bool y.hasKey, .slice Ak nk ck, .bool y.hasVal, .slice Av nv cv] 34)) (H5.out.2.2.2.trans (hb6.mono H5.out.2.2.2.size)))); clear hg6 hb6
            go_wp2_with (at_builtin; go_loud (refine wpList_append_own_at _ rfl (.tmp 37) (.tmp 39) 44 rfl (g + 1) 34 j0 _ 6 80 Try.underlying44 HJ.out.1 HJ.out.2.1 HJ.out.2.2.1 HJ.out.2.2.2 rfl (by decide) (.slice Au M cu) M ys rfl H6.out.2.1 ⟨w5.heap.size, 0, none⟩ 1 1 [.int .i64 y.off, .int .i64 y.time, .bool y.hasKey, .slice Ak nk ck, .bool y.hasVal, .slice Av nv cv] rfl rfl (cells_new _ [.int .i64 y.off, .int .i64 y.time, .bool y.hasKey, .slice Ak nk ck, .bool y.hasVal, .slice Av nv cv] _ _ rfl) (by simp [Value.oneCell']) (by unfold maxLen; omega) (by omega) (by simp; omega) ?_; intro v2 w9 h1 h2 _ h3; have H9 := Lib.hid (And.intro h1 (And.intro ((Chg.grown h2).blk H6.out.1 hug) (H6.out.2.2.grown h2 (by simp; have := H5.out.2.2.2.size; omega) (fun q' hq' => by have := (hult q' hq').1; have := HG.out.1; omega)))); clear h1 h2 h3))
            go_wp2_with fail
            go_roundw
            case rel => exact ⟨j + 1, M + 1, v2, _, rfl, by go_num, by omega, HSU.out.2, H9.out.1, HSU.out.1, H9.out.2.1, H9.out.2.2⟩
            case measure => simp [intOf]; omega
          | false =>
            rw [if_neg (by decide), List.append_nil] at hsucc
            have HSU := Lib.hid hsucc; clear hsucc
            go_wp2_with fail
            go_roundw
            case rel => exact ⟨j + 1, M, _, ys, rfl, by go_num, by omega, by rw [HSU.out]; exact HML.out, H5.out.2.2.1, by rw [HSU.out]; exact HROW.out, H5.out.2.1, H5.out.2.2.2⟩
            case measure => simp [intOf]; omega
        · obtain rfl : j = m := by omega
          have hfull : (ps.cut F x).recs = (x.recs.take j).filter F := by
            rw [List.take_of_length_le (by rw [← HX.out.2.1]; exact Nat.le_refl _)]
            rfl
          have hts := ps.take_succ (F := F) HX.out.1
          rw [hfull, ← HML.out] at hts
          have HTS := Lib.hid (And.intro hts hfull); clear hts hfull
          by_cases hM0 : 0 < M
          · have hM0' : ¬ (M : Int) = 0 := by omega
            have f5 := HBLK.out.frozen 5
            obtain ⟨w4, hw4⟩ : ∃ w4, w4 = wr.setCell ⟨g, 5, none⟩ (.slice Au M cu) := ⟨_, rfl⟩
            have hc4 : Chg wr w4 (fun k => k = g) := by rw [hw4]; exact Chg.setCell _ _ _ _
            have hk4 : Blk w4 g 46 #[.int .i64 x.base, .int .i64 x.last, .int .i64 x.prod, .int .i64 x.epoch, .int .i64 x.seq, .slice Au M cu] := by rw [hw4]; exact HBLK.out.set 5 _
            have hb4 : Below wo.heap.size wo w4 := HBY.out.trans (hc4.below HBY.out.size fun k hk => by have hk : k = g := hk; have := HG.out.1; omega)
            have hr4 : w4.ownsRow (g + 1) 34 6 (.slice Au M cu) M ys := hc4.own HROWN.out fun q' hq' hh => by have hh : q' = g := hh; rw [hh] at hq'; exact hug hq'
            have H4 := Lib.hid (And.intro hk4 (And.intro hb4 hr4)); clear hc4 hk4 hb4 hr4
            have HW4 := Lib.hid hw4; clear hw4
            have c5 : wr.cell? ⟨g, 5, none⟩ = some (.slice A4 j c4) := HBLK.out.cell 5 rfl
            go_upto_region 14 with fail
            rw [← HW4.out]
            clear c5 f5 HBLK HBY HROWN HW4
            have hb1 : Below wo.heap.size wo w4 := H4.out.2.1
            have hrow := HROW.out
            rw [← HTS.out.2] at hrow
            have hMl : (ps.cut F x).recs.length = M := by rw [HTS.out.2]; exact HML.out.symm
            have hdep := rs.dep hrow (HBW.out.trans (hb1.mono hws)) hMl H4.out.2.2
            have hsz : ∀ r ∈ (ps.cut F x).recs, r.key.length ≤ 1000000 ∧ r.val.length ≤ 1000000 := fun r hr => HTX.out.1 r (List.mem_filter.1 hr).1
            have hcp := fo.copyb_any (ps.cut F x) Au M cu w4 hdep.now hMl (by omega) hsz
            unfold fo.CopyBPost fo.bcells ps.cut at hcp
            dsimp only at hcp
            have HCP := Lib.hid hcp; clear hcp hdep hrow hsz
            have l0 : w4.cell? ⟨g, 0, none⟩ = some (.int .i64 x.base) := H4.out.1.cell 0 rfl
            have l1 : w4.cell? ⟨g, 1, none⟩ = some (.int .i64 x.last) := H4.out.1.cell 1 rfl
            have l2 : w4.cell? ⟨g, 2, none⟩ = some (.int .i64 x.prod) := H4.out.1.cell 2 rfl
            have l3 : w4.cell? ⟨g, 3, none⟩ = some (.int .i64 x.epoch) := H4.out.1.cell 3 rfl
            have l4 : w4.cell? ⟨g, 4, none⟩ = some (.int .i64 x.seq) := H4.out.1.cell 4 rfl
            have l5 : w4.cell? ⟨g, 5, none⟩ = some (.slice Au M cu) := H4.out.1.cell 5 rfl
            go_wp2_with fail
            clear l0 l1 l2 l3 l4 l5
            refine HCP.out.mono ?_
            rintro e w5 ⟨A2, c2, rfl, hcrow, hb45⟩
            obtain ⟨w6, hw6⟩ : ∃ w6, w6 = w5.alloc (.cells #[.int .i64 x.base, .int .i64 x.last, .int .i64 x.prod, .int .i64 x.epoch, .int .i64 x.seq, .slice A2 M c2] 46) := ⟨_, rfl⟩
            have hb56 : Below w5.heap.size w5 w6 := by rw [hw6]; exact (Below.refl _ _).alloc (Nat.le_refl _) _
            have hb15 : Below wo.heap.size wo w5 := hb1.trans (hb45.mono hb1.size)
            have hb16 : Below wo.heap.size wo w6 := hb15.trans (hb56.mono hb15.size)
            have hs6 : w6.heap.size = w5.heap.size + 1 := by rw [hw6]; simp
            have hs1 := hb1.size
            have hs15 := hb15.size
            have hown6 := (chg_of (P := fun _ => False) hb16).own HOWN.out fun _ _ h => h.elim
            have hcps6 : cl.Cps w.heap.size w6 (.slice Ar N cr) xs (ps.all F (bs.take k)) := fun i b hi => (HCPS.out i b hi).below hb16
            have hcp6 : cl.Cp w.heap.size w6 (.slice Ar N cr) [.int .i64 x.base, .int .i64 x.last, .int .i64 x.prod, .int .i64 x.epoch, .int .i64 x.seq, .slice A2 M c2] (ps.cut F x) := by
              refine ⟨_, rfl, (hcrow.dep.below hb56).weak fun q' hq' _ => ?_, HX.out.2.2⟩
              have h2 := hq'.1
              refine ⟨by omega, fun e => ?_⟩
              have h1 := (hrlt q' e).2
              omega
            have hxl := hown6.1
            have happ : ∀ v2 w9, w9.ownsRow w.heap.size 46 6 v2 (N + 1) (xs ++ [.int .i64 x.base, .int .i64 x.last, .int .i64 x.prod, .int .i64 x.epoch, .int .i64 x.seq, .slice A2 M c2]) → w6.grownBy w9 (Value.slice Ar N cr).ownBlock → (v2.ownBlock = (Value.slice Ar N cr).ownBlock ∨ v2.ownBlock = some w6.heap.size) →
                N + 1 = (ps.all F (bs.take (k + 1))).length ∧ cl.Cps w.heap.size w9 v2 (xs ++ [.int .i64 x.base, .int .i64 x.last, .int .i64 x.prod, .int .i64 x.epoch, .int .i64 x.seq, .slice A2 M c2]) (ps.all F (bs.take (k + 1))) ∧ Below w.heap.size w w9 := fun v2 w9 h1 h2 h3 => by
              rw [HTS.out.1, if_pos hM0]
              refine ⟨by rw [List.length_append, ← HNL.out]; rfl, hcps6.snoc (by rw [← HNL.out]; exact hxl) hcp6 rfl h2 h3, (HBW.out.trans (hb16.mono hws)).grown h2 (by omega) (fun q' hq' => (hrlt q' hq').1)⟩
            have HAPP := Lib.hid happ; clear happ hcps6 hcp6 hxl hcrow
            have HOWN6 := Lib.hid hown6; clear hown6 hb45 hb15 hb1 hb56 hb16
            rw [hw6] at HAPP HOWN6 hs6
            clear hw6
            go_wp2_with (at_builtin; go_loud (refine wpList_append_own_at _ rfl (.tmp 47) (.tmp 50) 31 rfl w.heap.size 46 i0 _ 6 64 Try.underlying31 HI.out.1 HI.out.2.1 HI.out.2.2.1 HI.out.2.2.2 rfl (by decide) (.slice Ar N cr) N xs rfl HOWN6.out ⟨w5.heap.size, 0, none⟩ 1 1 [.int .i64 x.base, .int .i64 x.last, .int .i64 x.prod, .int .i64 x.epoch, .int .i64 x.seq, .slice A2 M c2] rfl rfl (cells_new _ [.int .i64 x.base, .int .i64 x.last, .int .i64 x.prod, .int .i64 x.epoch, .int .i64 x.seq, .slice A2 M c2] _ _ rfl) (by simp [Value.oneCell']) (by unfold maxLen; omega) (by omega) (by rw [hs6]; omega) ?_; intro v2 w9 h1 h2 _ h3; have HN2 := Lib.hid (And.intro h1 (HAPP.out v2 w9 h1 h2 h3)); clear h1 h2 h3))
            go_wp2_with fail
            refine hKO _ _ ?_
            go_wp2_with fail
            go_roundw
            case rel => exact ⟨k + 1, N + 1, v2, _, rfl, by go_num, by omega, HN2.out.2.1, HN2.out.1, HN2.out.2.2.1, HN2.out.2.2.2⟩
            case measure => simp [intOf]; omega
          · obtain rfl : M = 0 := by omega
            have hall : ps.all F (bs.take (k + 1)) = ps.all F (bs.take k) := by rw [HTS.out.1, if_neg (by omega), List.append_nil]
            have HALL := Lib.hid hall; clear hall hM0
            go_wp2_with fail
            refine hKO _ _ ?_
            go_wp2_with fail
            go_roundw
            case rel => exact ⟨k + 1, N, .slice Ar N cr, xs, rfl, by go_num, by omega, by rw [HALL.out]; exact HNL.out, (chg_of (P := fun _ => False) HBY.out).own HOWN.out fun _ _ h => h.elim, by rw [HALL.out]; exact fun i b hi => (HCPS.out i b hi).below HBY.out, HBW.out.trans (HBY.out.mono hws)⟩
            case measure => simp [intOf]; omega
    · obtain rfl : k = n := by omega
      have hcps := HCPS.out
      have hN := HNL.out
      rw [List.take_of_length_le (by rw [HN.out]; exact Nat.le_refl _)] at hcps hN
      obtain ⟨A9, c9, rfl, h1, h2, h3⟩ := hcps.dep hN.symm HOWN.out
      have H9 := Lib.hid (And.intro hN (And.intro h1 (And.intro h2 h3))); clear h1 h2 h3 hcps hN
      go_wp2_with fail
      go_ret
      exact ⟨A9, c9, by rw [← H9.out.1]; rfl, by rw [← H9.out.1]; exact H9.out.2.1, H9.out.2.2.1, H9.out.2.2.2.1, by rw [← H9.out.1]; exact H9.out.2.2.2.2, HBW.out⟩
end Go.Proofs.Ytnlfdhoabbbheaa

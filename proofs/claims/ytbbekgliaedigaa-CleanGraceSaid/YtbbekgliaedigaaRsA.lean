/- fold.Restrict: of batches those records alone whose offsets stand within two. -/
import Derived.Deep.Cut
import Derived.BigQuiet
import Derived.Deep.QuietTactic
import Derived.Test.YtbbekgliaedigaaPlanZ
import Derived.Test.YtbbekgliaedigaaFoI
namespace Go.Proofs.Ytbbekgliaedigaa
open Go.RowKit
set_option maxRecDepth 100000

def rs.in (f t : Int) (r : Rec) : Bool := decide (f ≤ r.off) && decide (r.off < t)
def rs.cut (f t : Int) (b : Bat) : Bat := { b with recs := b.recs.filter (rs.in f t) }
/-- What is left of batches. -/
def rs.all (f t : Int) (bs : List Bat) : List Bat := (bs.map (rs.cut f t)).filter fun b => decide (0 < b.recs.length)
theorem rs.take_succ {f t : Int} {bs : List Bat} {k : Nat} {x : Bat} (h : bs[k]? = some x) : rs.all f t (bs.take (k + 1)) = rs.all f t (bs.take k) ++ if 0 < (rs.cut f t x).recs.length then [rs.cut f t x] else [] := by
  obtain ⟨h1, h2⟩ := List.getElem?_eq_some_iff.1 h
  unfold rs.all
  rw [List.take_succ_eq_append_getElem h1, h2, List.map_append, List.filter_append]
  congr 1
  simp only [List.map_cons, List.map_nil]
  by_cases h : 0 < (rs.cut f t x).recs.length
  · rw [if_pos h, List.filter_cons_of_pos (by simpa using h)]
    rfl
  · rw [if_neg h, List.filter_cons_of_neg (by simpa using h)]
    rfl
theorem rs.all_len (f t : Int) (bs : List Bat) : (rs.all f t bs).length ≤ bs.length := by
  unfold rs.all
  refine Nat.le_trans (List.length_filter_le _ _) ?_
  rw [List.length_map]
  exact Nat.le_refl _
theorem rs.recs_succ {f t : Int} {l : List Rec} {j : Nat} {y : Rec} (h : l[j]? = some y) : (l.take (j + 1)).filter (rs.in f t) = (l.take j).filter (rs.in f t) ++ if rs.in f t y = true then [y] else [] := by
  obtain ⟨h1, h2⟩ := List.getElem?_eq_some_iff.1 h
  rw [List.take_succ_eq_append_getElem h1, h2, List.filter_append]
  congr 1
  by_cases h : rs.in f t y = true
  · rw [if_pos h, List.filter_cons_of_pos h]
    rfl
  · rw [if_neg h, List.filter_cons_of_neg h]
    rfl

/-- What Restrict answers. -/
def fr.Post (l : List Bat) (w : World) (e : Ending) (w' : World) : Prop :=
  ∃ A c, e = .returned (.slice A l.length c) ∧ l.length ≤ c ∧ c ≤ maxLen ∧ BatsAt w' A l ∧ Below w.heap.size w w'
set_option maxHeartbeats 4000000 in
theorem fr.restrict_any (A : Option Addr) (n c : Nat) (bs : List Bat) (f t : Int) (w : World) (hat : BatsAt w A bs) (hn : bs.length = n) (hsm : fo.Small bs) :
    Calls Try.prog 39 #[.slice A n c, .int .i64 f, .int .i64 t] w (fr.Post (rs.all f t bs) w) := by
  have hn1 : n ≤ 1000000 := by rw [← hn]; exact hsm.1
  have HAT := Lib.hid hat; clear hat
  have HN := Lib.hid hn; clear hn
  have HSM := Lib.hid hsm; clear hsm
  obtain ⟨i0, hi, hz0, hz1', hz2⟩ := info_parts fo.infoB
  have HI := Lib.hid (And.intro hi (And.intro hz0 (And.intro hz1' hz2))); clear hi hz0 hz1' hz2
  obtain ⟨j0, hi, hz0, hz1', hz2⟩ := info_parts rc.info
  have HJ := Lib.hid (And.intro hi (And.intro hz0 (And.intro hz1' hz2))); clear hi hz0 hz1' hz2
  go_enter Try.func39, Try.ntmps39
  go_wp2_with fail
  go_loopw [7, 15] (fun s7 s15 wx => ∃ (k N : Nat) (v : Value) (xs : List Value), v = s7 ∧ s15 = .int .i64 (k : Int) ∧ k ≤ n ∧ N = (rs.all f t (bs.take k)).length ∧ wx.ownsRow w.heap.size 47 6 v N xs ∧ fo.Cps wx v xs (rs.all f t (bs.take k)) ∧ Below w.heap.size w wx) (fun _ s15 _ => n - (intOf s15).toNat)
  case atStart => exact ⟨0, 0, _, [], rfl, rfl, by omega, rfl, World.ownsRow_nil _ _ _ _, fun i b h => (by simp [rs.all] at h), Below.refl _ _⟩
  case round =>
    obtain ⟨k, N, v, xs, rfl, rfl, hk, hN, hown, hcps, hbw⟩ := hrel
    have HBW := Lib.hid hbw; clear hbw
    have HOWN := Lib.hid hown; clear hown
    have HCPS := Lib.hid hcps; clear hcps
    have hNn : N ≤ n := by
      have h := rs.all_len f t (bs.take k)
      rw [List.length_take] at h
      omega
    have HNL := Lib.hid hN; clear hN
    by_cases hlt : k < n
    · have hlt' : (k : Int) < n := by omega
      obtain ⟨x, hx⟩ : ∃ x, bs[k]? = some x := ⟨_, List.getElem?_eq_getElem (by rw [HN.out]; exact hlt)⟩
      obtain ⟨b2, off2, v2, hA2, hb2, d0, d1, d2, d3, d4, d5, hrecs, i0', i1', i2', i3', i4'⟩ := HAT.out.at' hx
      subst hA2
      obtain ⟨A4, c4, V4, rfl, hmc, hc4, -⟩ := id hrecs
      obtain ⟨m, hm⟩ : ∃ m, m = x.recs.length := ⟨_, rfl⟩
      obtain ⟨hm1, hrs⟩ := HSM.out.2 x (List.mem_of_getElem? hx)
      rw [← hm] at d5 hmc hrecs hm1
      have hbw0 := HBW.out
      have e0 := (hbw0.cell (p := ⟨b2, off2 + k * 6, none⟩) hb2).trans d0
      have e1 := (hbw0.cell (p := ⟨b2, off2 + k * 6 + 1, none⟩) hb2).trans d1
      have e2 := (hbw0.cell (p := ⟨b2, off2 + k * 6 + 2, none⟩) hb2).trans d2
      have e3 := (hbw0.cell (p := ⟨b2, off2 + k * 6 + 3, none⟩) hb2).trans d3
      have e4 := (hbw0.cell (p := ⟨b2, off2 + k * 6 + 4, none⟩) hb2).trans d4
      have e5 := (hbw0.cell (p := ⟨b2, off2 + k * 6 + 5, none⟩) hb2).trans d5
      have HRECS := Lib.hid hrecs
      have HRS := Lib.hid hrs
      have HX := Lib.hid (And.intro hx (And.intro hm (And.intro i0' (And.intro i1' (And.intro i2' (And.intro i3' i4')))))); clear hx hm i0' i1' i2' i3' i4' d0 d1 d2 d3 d4 d5 hrecs hrs hbw0
      obtain ⟨Ar, cr, rfl, -, -⟩ := own_at HOWN.out
      have hrlt := HOWN.out.lt
      have hws := HBW.out.size
      obtain ⟨g, hg⟩ : ∃ g, g = wr.heap.size := ⟨_, rfl⟩
      obtain ⟨w3, hw3⟩ : ∃ w3, w3 = wr.alloc (.cells #[.int .i64 x.base, .int .i64 x.last, .int .i64 x.prod, .int .i64 x.epoch, .int .i64 x.seq, .slice none 0 0] 47) := ⟨_, rfl⟩
      have hk3 : Blk w3 g 47 #[.int .i64 x.base, .int .i64 x.last, .int .i64 x.prod, .int .i64 x.epoch, .int .i64 x.seq, .slice none 0 0] := by rw [hw3, hg]; exact Blk.new _ _ _
      have hb3 : Below wr.heap.size wr w3 := by rw [hw3]; exact (Below.refl _ _).alloc (Nat.le_refl _) _
      have hgw : w.heap.size ≤ g := by omega
      have hs3 : w3.heap.size = g + 1 := by rw [hw3, hg]; simp
      have H3 := Lib.hid (And.intro hk3 hb3)
      have HG := Lib.hid (And.intro hg hw3); clear hk3 hb3 hg hw3
      go_upto_region 7 with fail
      rw [← HG.out.2, ← HG.out.1]
      clear e0 e1 e2 e3 e4 e5
      go_wp2_with fail
      obtain ⟨wo, rfl⟩ : ∃ wo : World, wo = wr := ⟨_, rfl⟩
      go_loopw [24] (fun s24 wy => ∃ (j M : Nat) (u : Value), s24 = .int .i64 (j : Int) ∧ j ≤ m ∧ M = ((x.recs.take j).filter (rs.in f t)).length ∧ Blk wy g 47 #[.int .i64 x.base, .int .i64 x.last, .int .i64 x.prod, .int .i64 x.epoch, .int .i64 x.seq, u] ∧ RowR wy (g + 1) u ((x.recs.take j).filter (rs.in f t)) ∧ Below wo.heap.size wo wy) (fun s24 _ => m - (intOf s24).toNat)
      case atStart => exact ⟨0, 0, .slice none 0 0, rfl, by omega, rfl, H3.out.1, RowR.nil _ _, H3.out.2⟩
      case round =>
        obtain ⟨j, M, u, rfl, hj, hM, hblk, hrow, hby⟩ := hrel
        clear H3
        have HBLK := Lib.hid hblk; clear hblk
        have HROW := Lib.hid hrow; clear hrow
        have HBY := Lib.hid hby; clear hby
        have HML := Lib.hid hM; clear hM
        have hMj : M ≤ j := by
          rw [HML.out]
          refine Nat.le_trans (List.length_filter_le _ _) ?_
          rw [List.length_take]
          omega
        have hgs : g + 1 ≤ wr.heap.size := HBLK.out.lt
        have c5 : wr.cell? ⟨g, 5, none⟩ = some u := HBLK.out.cell 5 rfl
        obtain ⟨xr0, hrown0, -⟩ := HROW.out
        rw [← HML.out] at hrown0
        obtain ⟨Au, cu, rfl, -, -⟩ := own_at hrown0
        have hult := hrown0.lt
        have hug : (Value.slice Au M cu).ownBlock ≠ some g := HBLK.out.not_row (by decide) hrown0
        clear hrown0
        by_cases hjm : j < m
        · have hjm' : (j : Int) < m := by omega
          obtain ⟨y, hy⟩ : ∃ y, x.recs[j]? = some y := ⟨_, List.getElem?_eq_getElem (by rw [← HX.out.2.1]; exact hjm)⟩
          obtain ⟨hyk, hyv⟩ := HRS.out y (List.mem_of_getElem? hy)
          obtain ⟨pr, off, c', kv, vv, hA, -, -, hpr, d0, d1, d2, d3, d4, d5, ⟨Ak, ck, rfl, hka, -, -, hkb⟩, ⟨Av, cv, rfl, hva, -, -, hvb⟩, hio, hti⟩ := HRECS.out.at' hy
          obtain ⟨rfl, rfl⟩ : A4 = some ⟨pr, off, none⟩ ∧ c4 = c' := by simp at hA; exact ⟨hA.1, hA.2.2⟩
          obtain ⟨nk, hnk⟩ : ∃ nk, nk = y.key.length := ⟨_, rfl⟩
          obtain ⟨nv, hnv⟩ : ∃ nv, nv = y.val.length := ⟨_, rfl⟩
          rw [← hnk] at d3 hka hyk
          rw [← hnv] at d5 hva hyv
          have hb0 : Below w.heap.size w wr := HBW.out.trans (HBY.out.mono hws)
          have e0 := (hb0.cell (p := ⟨pr, off + j * 6, none⟩) hpr).trans d0
          have e1 := (hb0.cell (p := ⟨pr, off + j * 6 + 1, none⟩) hpr).trans d1
          have e2 := (hb0.cell (p := ⟨pr, off + j * 6 + 2, none⟩) hpr).trans d2
          have e3 := (hb0.cell (p := ⟨pr, off + j * 6 + 3, none⟩) hpr).trans d3
          have e4 := (hb0.cell (p := ⟨pr, off + j * 6 + 4, none⟩) hpr).trans d4
          have e5 := (hb0.cell (p := ⟨pr, off + j * 6 + 5, none⟩) hpr).trans d5
          obtain ⟨q, hq⟩ : ∃ q, q = wr.heap.size := ⟨_, rfl⟩
          obtain ⟨w4, hw4⟩ : ∃ w4, w4 = wr.alloc (.cells #[.int .i64 y.off, .int .i64 y.time, .bool y.hasKey, .slice Ak nk ck, .bool y.hasVal, .slice Av nv cv] 54) := ⟨_, rfl⟩
          have hb4 : Below wr.heap.size wr w4 := by rw [hw4]; exact (Below.refl _ _).alloc (Nat.le_refl _) _
          have hk4 : Blk w4 q 54 #[.int .i64 y.off, .int .i64 y.time, .bool y.hasKey, .slice Ak nk ck, .bool y.hasVal, .slice Av nv cv] := by rw [hw4, hq]; exact Blk.new _ _ _
          have hg4 : Blk w4 g 47 #[.int .i64 x.base, .int .i64 x.last, .int .i64 x.prod, .int .i64 x.epoch, .int .i64 x.seq, .slice Au M cu] := (hb4.block g hgs).trans HBLK.out
          have hr4 := HROW.out.below hb4
          have H4 := Lib.hid (And.intro hb4 (And.intro hk4 (And.intro hg4 (And.intro hr4 (hb0.trans (hb4.mono hb0.size)))))); clear hb4 hk4 hg4 hr4
          have HW4 := Lib.hid (And.intro hq hw4); clear hq hw4
          have HY := Lib.hid (And.intro hkb (And.intro hvb (And.intro hio (And.intro hti (And.intro hy (And.intro hnk (And.intro hnv (And.intro hka hva)))))))); clear hkb hvb hio hti hy hnk hnv hb0 d0 d1 d2 d3 d4 d5 hka hva hA
          by_cases hin : f ≤ y.off ∧ y.off < t
          · obtain ⟨hf1, hf2⟩ := hin
            have hsucc : (x.recs.take (j + 1)).filter (rs.in f t) = (x.recs.take j).filter (rs.in f t) ++ [y] := by
              rw [rs.recs_succ HY.out.2.2.2.2.1, if_pos (by unfold rs.in; rw [decide_eq_true hf1, decide_eq_true hf2]; rfl)]
            have HSU := Lib.hid hsucc; clear hsucc
            go_upto_region 11 with fail
            rw [← HW4.out.2, ← HW4.out.1]
            clear e0 e1 e2 e3 e4 e5 c5
            have hqr : (Value.slice Au M cu).ownBlock ≠ some q := fun e => by have := (hult q e).2; have := HW4.out.1; omega
            have qb : ∀ z : Later w4 (fun k => (Value.slice Au M cu).ownBlock = some k), Blk z.1 q 54 #[.int .i64 y.off, .int .i64 y.time, .bool y.hasKey, .slice Ak nk ck, .bool y.hasVal, .slice Av nv cv] := fun z => z.2.blk H4.out.2.1 hqr
            have q5 : ∀ z : Later w4 (fun k => (Value.slice Au M cu).ownBlock = some k), z.1.cell? ⟨g, 5, none⟩ = some (.slice Au M cu) := fun z => (z.2.blk H4.out.2.2.1 hug).cell 5 rfl
            have r0 : ∀ i', (w4.drewN i').cell? ⟨q, 0, none⟩ = some (.int .i64 y.off) := fun _ => H4.out.2.1.cell 0 rfl
            have r1 : ∀ i', (w4.drewN i').cell? ⟨q, 1, none⟩ = some (.int .i64 y.time) := fun _ => H4.out.2.1.cell 1 rfl
            have r2 : ∀ i', (w4.drewN i').cell? ⟨q, 2, none⟩ = some (.bool y.hasKey) := fun _ => H4.out.2.1.cell 2 rfl
            have r3 : ∀ i', (w4.drewN i').cell? ⟨q, 3, none⟩ = some (.slice Ak nk ck) := fun _ => H4.out.2.1.cell 3 rfl
            have r4 : ∀ i', (w4.drewN i').cell? ⟨q, 4, none⟩ = some (.bool y.hasVal) := fun _ => H4.out.2.1.cell 4 rfl
            have r5 : ∀ i', (w4.drewN i').cell? ⟨q, 5, none⟩ = some (.slice Av nv cv) := fun _ => H4.out.2.1.cell 5 rfl
            have s0 : w4.cell? ⟨q, 0, none⟩ = some (.int .i64 y.off) := H4.out.2.1.cell 0 rfl
            have s1 : w4.cell? ⟨q, 1, none⟩ = some (.int .i64 y.time) := H4.out.2.1.cell 1 rfl
            have s2 : w4.cell? ⟨q, 2, none⟩ = some (.bool y.hasKey) := H4.out.2.1.cell 2 rfl
            have s3 : w4.cell? ⟨q, 3, none⟩ = some (.slice Ak nk ck) := H4.out.2.1.cell 3 rfl
            have s4 : w4.cell? ⟨q, 4, none⟩ = some (.bool y.hasVal) := H4.out.2.1.cell 4 rfl
            have s5 : w4.cell? ⟨q, 5, none⟩ = some (.slice Av nv cv) := H4.out.2.1.cell 5 rfl
            clear qb
            have hS0 : ∃ z : Later w4 (fun k => (Value.slice Au M cu).ownBlock = some k), w4.drew = z.1 := later_of (chg_of (bdrew (Below.refl _ _) 1))
            refine wp_planz (S := fun w0 => ∃ z : Later w4 (fun k => (Value.slice Au M cu).ownBlock = some k), w0 = z.1) 7 (by kernel_rfl) hS0 ?_
            intro hS K5 hK5
            have HS := Lib.hid hS; clear hS hS0
            refine planz_group [true, true] [0, 1] 6 (by dsimp only [sel]) (by rfl) rfl (by kernel_rfl) (by kernel_rfl) (by kernel_rfl) HS.out ?_
            (repeat go_big_quiet_step (fail)); refine wpQuiet_nil ?_
            clear q5
            refine planz_one [false, false, true] 2 5 (by dsimp only [sel]) (by rfl) rfl (by kernel_rfl) ?_; intro K1 hK1; go_wp2_with fail
            refine ⟨fun _ => HS.out, ?_⟩
            clear r0 r1 r2 r3 r4 r5 s0 s1 s2 s3 s4 s5
            refine planz_one [false, false, false, true] 3 4 (by dsimp only [sel]) (by rfl) rfl (by kernel_rfl) ?_; intro K1 hK1; go_wp2_with fail
            have hcp := fo.copy_any y Ak nk ck Av nv cv w4.drew (HY.out.2.2.2.2.2.2.2.1.below (bdrew H4.out.2.2.2.2 1) (Nat.le_refl _)) HY.out.2.2.2.2.2.1.symm hyk (HY.out.2.2.2.2.2.2.2.2.below (bdrew H4.out.2.2.2.2 1) (Nat.le_refl _)) HY.out.2.2.2.2.2.2.1.symm hyv
            unfold fo.CopyPost fo.cells at hcp
            refine hcp.mono ?_
            clear hcp
            rintro e w5 ⟨Ak2, ck2, Av2, cv2, rfl, hOk, hOv, hb45⟩
            have hb5 : Below w4.heap.size w4 w5 := (bdrew (Below.refl _ w4) 1).trans hb45
            have H5 := Lib.hid (And.intro hb5 (And.intro hOk hOv)); clear hb45 hb5 hOk hOv
            go_wp2_with fail
            refine ⟨fun _ => later_of (chg_of H5.out.1), ?_⟩
            refine planz_one [false, false, false, false, true] 4 3 (by dsimp only [sel]) (by rfl) rfl (by kernel_rfl) ?_; intro K1 hK1; go_wp2_with fail
            obtain ⟨w6, hw6⟩ : ∃ w6, w6 = w5.alloc (.cells #[.int .i64 y.off, .int .i64 y.time, .bool y.hasKey, .slice Ak2 nk ck2, .bool y.hasVal, .slice Av2 nv cv2] 54) := ⟨_, rfl⟩
            rw [← hw6]
            have hb56 : Below w5.heap.size w5 w6 := by rw [hw6]; exact (Below.refl _ _).alloc (Nat.le_refl _) _
            have hb46 : Below w4.heap.size w4 w6 := H5.out.1.trans (hb56.mono H5.out.1.size)
            have hs56 : w6.heap.size = w5.heap.size + 1 := by rw [hw6]; simp
            have hs45 := H5.out.1.size
            have hq4 := H4.out.2.1.lt
            have hqe := HW4.out.1
            obtain ⟨xr, hrown, hcells⟩ := H4.out.2.2.2.1.below hb46
            have hxl := hrown.1
            rw [← HML.out] at hrown hxl
            have hkey : ∀ {A : Option Addr} {n c : Nat} {L : List Nat}, L.length = n → (∀ x ∈ L, x < 256) → fo.Own w4.drew.heap.size w5 A n c L → KeyR w6 (g + 1) (.slice Au M cu) (.slice A n c) L := fun {A n c L} hl h256 h => by
              subst hl
              have h' := h.below hb56
              refine ⟨⟨A, c, rfl, h'.1, h.2.1, h.2.2.1, h256⟩, fun q' hq' => ?_⟩
              have h5 := h'.2.2.2.2 q' hq'
              have h6 : w4.heap.size ≤ q' := h5.1
              refine ⟨by omega, h5.2, fun hh => ?_⟩
              have := (hult q' hh).2
              omega
            have hkk := hkey HY.out.2.2.2.2.2.1.symm HY.out.1 H5.out.2.1
            have hvv := hkey HY.out.2.2.2.2.2.2.1.symm HY.out.2.1 H5.out.2.2
            have hg6 : Blk w6 g 47 #[.int .i64 x.base, .int .i64 x.last, .int .i64 x.prod, .int .i64 x.epoch, .int .i64 x.seq, .slice Au M cu] := (hb46.block g H4.out.2.2.1.lt).trans H4.out.2.2.1
            have hcn : ∀ (j : Nat) (u : Value), ([.int .i64 y.off, .int .i64 y.time, .bool y.hasKey, .slice Ak2 nk ck2, .bool y.hasVal, .slice Av2 nv cv2] : List Value)[j]? = some u → w6.cell? ((⟨w5.heap.size, 0, none⟩ : Addr).add j) = some u := fun j u h => by rw [hw6]; exact cells_new w5 [.int .i64 y.off, .int .i64 y.time, .bool y.hasKey, .slice Ak2 nk ck2, .bool y.hasVal, .slice Av2 nv cv2] 54 _ rfl j u h
            have happ : ∀ v2 w9, w9.ownsRow (g + 1) 54 6 v2 (M + 1) (xr ++ [.int .i64 y.off, .int .i64 y.time, .bool y.hasKey, .slice Ak2 nk ck2, .bool y.hasVal, .slice Av2 nv cv2]) → w6.grownBy w9 (Value.slice Au M cu).ownBlock → (v2.ownBlock = (Value.slice Au M cu).ownBlock ∨ v2.ownBlock = some w6.heap.size) →
                RowR w9 (g + 1) v2 ((x.recs.take (j + 1)).filter (rs.in f t)) ∧ Chg w4 w9 (fun k => (Value.slice Au M cu).ownBlock = some k) ∧ Blk w9 g 47 #[.int .i64 x.base, .int .i64 x.last, .int .i64 x.prod, .int .i64 x.epoch, .int .i64 x.seq, .slice Au M cu] ∧ Below wo.heap.size wo w9 := fun v2 w9 h1 h2 h3 => by
              refine ⟨?_, (chg_of hb46).trans (Chg.grown h2) fun _ _ h => h, (Chg.grown h2).blk hg6 hug, ((HBY.out.trans (H4.out.1.mono HBY.out.size)).trans (hb46.mono (HBY.out.trans (H4.out.1.mono HBY.out.size)).size)).grown h2 (by have := HBY.out.size; omega) (fun q' hq' => by have := (hult q' hq').1; have := HG.out.1; omega)⟩
              rw [HSU.out]
              exact RowR.append (r := y) hcells (by rw [← HML.out]; exact hxl) hkk hvv HY.out.2.2.1 HY.out.2.2.2.1 (by rw [← HML.out]; exact h1) h2 h3
            have HAPP := Lib.hid happ; clear happ hcells hxl hkk hvv hkey hg6
            have H6 := Lib.hid (And.intro hb46 (And.intro hrown hcn)); clear hb46 hrown hcn hb56 hw6
            refine ⟨fun _ => later_of (chg_of H6.out.1), ?_⟩
            refine planz_one [false, false, false, false, false, true] 5 2 (by dsimp only [sel]) (by rfl) rfl (by kernel_rfl) ?_; intro K2 hK2
            go_wp2_with (at_builtin; go_loud (refine wpList_append_own_at _ rfl (.tmp 39) (.tmp 42) 45 rfl (g + 1) 54 j0 _ 6 80 Try.underlying45 HJ.out.1 HJ.out.2.1 HJ.out.2.2.1 HJ.out.2.2.2 rfl (by decide) (.slice Au M cu) M xr rfl H6.out.2.1 ⟨w5.heap.size, 0, none⟩ 1 1 [.int .i64 y.off, .int .i64 y.time, .bool y.hasKey, .slice Ak2 nk ck2, .bool y.hasVal, .slice Av2 nv cv2] rfl rfl H6.out.2.2 (by simp [Value.oneCell']) (by unfold maxLen; omega) (by omega) (by omega) ?_; intro v2 w9 h1 h2 _ h3; obtain ⟨gv, cv9, rfl⟩ := ownsRow_succ h1; have H9 := Lib.hid (HAPP.out _ w9 h1 h2 h3); clear h1 h2 h3))
            refine ⟨fun _ => later_of H9.out.2.1, ?_⟩
            go_simp
            refine planz_group [false, false, false, false, false, false, true] [6] 1 (by dsimp only [sel]) (by rfl) rfl (by kernel_rfl) (by kernel_rfl) (by kernel_rfl) (later_of H9.out.2.1) ?_
            (repeat go_big_quiet_step (fail)); refine wpQuiet_nil ?_
            have k5 := H9.out.2.2.1.cell 5 rfl
            have f5 := H9.out.2.2.1.frozen 5
            refine planz_one [false, false, false, false, false, false, false, true] 7 0 (by dsimp only [sel]) (by rfl) rfl (by kernel_rfl) ?_; intro K1 hK1; go_wp2_with fail
            obtain ⟨w10, hw10⟩ : ∃ w10, w10 = w9.setCell ⟨g, 5, none⟩ (.slice (some ⟨gv, 0, none⟩) (M + 1) cv9) := ⟨_, rfl⟩
            rw [← hw10]
            have hc10 : Chg w9 w10 (fun k => k = g) := by rw [hw10]; exact Chg.setCell _ _ _ _
            have hk10 : Blk w10 g 47 #[.int .i64 x.base, .int .i64 x.last, .int .i64 x.prod, .int .i64 x.epoch, .int .i64 x.seq, .slice (some ⟨gv, 0, none⟩) (M + 1) cv9] := by rw [hw10]; exact H9.out.2.2.1.set 5 _
            have H10 := Lib.hid (And.intro hk10 (And.intro (H9.out.1.chg hc10 fun q' h1 _ h2 => by have h2 : q' = g := h2; omega) (H9.out.2.2.2.trans (hc10.below H9.out.2.2.2.size fun k hk => by have hk : k = g := hk; have := HG.out.1; omega)))); clear hc10 hk10 hw10 k5 f5
            refine ⟨fun h => absurd rfl h, ?_⟩
            refine wp_planz_end (by kernel_rfl) ?_
            go_wp2_with fail
            go_roundw
            case rel => exact ⟨j + 1, M + 1, _, by go_num, by omega, by rw [HSU.out, List.length_append, ← HML.out]; rfl, H10.out.1, H10.out.2.1, H10.out.2.2⟩
            case measure => simp [intOf]; omega
          · have hsucc : (x.recs.take (j + 1)).filter (rs.in f t) = (x.recs.take j).filter (rs.in f t) := by
              rw [rs.recs_succ HY.out.2.2.2.2.1, if_neg, List.append_nil]
              unfold rs.in
              rw [Bool.and_eq_true, decide_eq_true_eq, decide_eq_true_eq]
              exact hin
            have HSU := Lib.hid hsucc; clear hsucc
            have hcase : ¬ f ≤ y.off ∨ (f ≤ y.off ∧ ¬ y.off < t) := by
              by_cases h : f ≤ y.off
              · exact .inr ⟨h, fun h2 => hin ⟨h, h2⟩⟩
              · exact .inl h
            clear hin
            rcases hcase with h1 | ⟨h1, h2⟩
            · have hd : decide (f ≤ y.off) = false := decide_eq_false h1
              go_wp2_with fail
              go_roundw
              case rel => exact ⟨j + 1, M, _, by go_num, by omega, by rw [HSU.out]; exact HML.out, by rw [← HW4.out.2]; exact H4.out.2.2.1, by rw [HSU.out, ← HW4.out.2]; exact H4.out.2.2.2.1, by rw [← HW4.out.2]; exact HBY.out.trans (H4.out.1.mono HBY.out.size)⟩
              case measure => simp [intOf]; omega
            · have hd : decide (y.off < t) = false := decide_eq_false h2
              go_wp2_with fail
              go_roundw
              case rel => exact ⟨j + 1, M, _, by go_num, by omega, by rw [HSU.out]; exact HML.out, by rw [← HW4.out.2]; exact H4.out.2.2.1, by rw [HSU.out, ← HW4.out.2]; exact H4.out.2.2.2.1, by rw [← HW4.out.2]; exact HBY.out.trans (H4.out.1.mono HBY.out.size)⟩
              case measure => simp [intOf]; omega
        · obtain rfl : j = m := by omega
          have hfull : (rs.cut f t x).recs = (x.recs.take j).filter (rs.in f t) := by
            rw [List.take_of_length_le (by rw [← HX.out.2.1]; exact Nat.le_refl _)]
            rfl
          have hts := rs.take_succ (f := f) (t := t) HX.out.1
          rw [hfull, ← HML.out] at hts
          have HTS := Lib.hid (And.intro hts hfull); clear hts hfull
          by_cases hM0 : 0 < M
          · have hM0' : (0 : Int) < (M : Int) := by omega
            have hb1 : Below wo.heap.size wo wr := HBY.out
            obtain ⟨w5, hw5⟩ : ∃ w5, w5 = wr.alloc (.cells #[.int .i64 x.base, .int .i64 x.last, .int .i64 x.prod, .int .i64 x.epoch, .int .i64 x.seq, .slice Au M cu] 47) := ⟨_, rfl⟩
            have hb45 : Below wr.heap.size wr w5 := by rw [hw5]; exact (Below.refl _ _).alloc (Nat.le_refl _) _
            have hb15 : Below wo.heap.size wo w5 := hb1.trans (hb45.mono hb1.size)
            have hs5 : w5.heap.size = wr.heap.size + 1 := by rw [hw5]; simp
            have hs1 := hb1.size
            have hown5 := (chg_of (P := fun _ => False) hb15).own HOWN.out fun _ _ h => h.elim
            have hcps5 : fo.Cps w5 (.slice Ar N cr) xs (rs.all f t (bs.take k)) := fun i b hi => (HCPS.out i b hi).below hb15
            have hrow := HROW.out
            rw [← HTS.out.2] at hrow
            have hcp5 : fo.Cp w5 (.slice Ar N cr) [.int .i64 x.base, .int .i64 x.last, .int .i64 x.prod, .int .i64 x.epoch, .int .i64 x.seq, .slice Au M cu] (rs.cut f t x) := by
              refine ⟨_, rfl, (hrow.dep.below hb45).weak fun q' hq' _ e => ?_, HX.out.2.2⟩
              have h1 := (hrlt q' e).2
              have h2 := hq'.1
              have := HG.out.1
              omega
            have hxl := hown5.1
            have happ : ∀ v2 w9, w9.ownsRow w.heap.size 47 6 v2 (N + 1) (xs ++ [.int .i64 x.base, .int .i64 x.last, .int .i64 x.prod, .int .i64 x.epoch, .int .i64 x.seq, .slice Au M cu]) → w5.grownBy w9 (Value.slice Ar N cr).ownBlock → (v2.ownBlock = (Value.slice Ar N cr).ownBlock ∨ v2.ownBlock = some w5.heap.size) →
                N + 1 = (rs.all f t (bs.take (k + 1))).length ∧ fo.Cps w9 v2 (xs ++ [.int .i64 x.base, .int .i64 x.last, .int .i64 x.prod, .int .i64 x.epoch, .int .i64 x.seq, .slice Au M cu]) (rs.all f t (bs.take (k + 1))) ∧ Below w.heap.size w w9 := fun v2 w9 h1 h2 h3 => by
              rw [HTS.out.1, if_pos hM0]
              refine ⟨by rw [List.length_append, ← HNL.out]; rfl, hcps5.snoc (by rw [← HNL.out]; exact hxl) hcp5 rfl h2 h3, (HBW.out.trans (hb15.mono hws)).grown h2 (by omega) (fun q' hq' => (hrlt q' hq').1)⟩
            have HAPP := Lib.hid happ; clear happ hcps5 hcp5 hxl hrow
            have HOWN5 := Lib.hid hown5; clear hown5 hb45 hb15 hb1
            have l0 := HBLK.out.cell 0 rfl
            have l1 := HBLK.out.cell 1 rfl
            have l2 := HBLK.out.cell 2 rfl
            have l3 := HBLK.out.cell 3 rfl
            have l4 := HBLK.out.cell 4 rfl
            rw [hw5] at HAPP HOWN5 hs5
            clear hw5
            go_wp2_with (at_builtin; go_loud (refine wpList_append_own_at _ rfl (.tmp 50) (.tmp 52) 43 rfl w.heap.size 47 i0 _ 6 64 Try.underlying43 HI.out.1 HI.out.2.1 HI.out.2.2.1 HI.out.2.2.2 rfl (by decide) (.slice Ar N cr) N xs rfl HOWN5.out ⟨wr.heap.size, 0, none⟩ 1 1 [.int .i64 x.base, .int .i64 x.last, .int .i64 x.prod, .int .i64 x.epoch, .int .i64 x.seq, .slice Au M cu] rfl rfl (cells_new _ [.int .i64 x.base, .int .i64 x.last, .int .i64 x.prod, .int .i64 x.epoch, .int .i64 x.seq, .slice Au M cu] _ _ rfl) (by simp [Value.oneCell']) (by unfold maxLen; omega) (by omega) (by rw [hs5]; omega) ?_; intro v2 w9 h1 h2 _ h3; have HN2 := Lib.hid (And.intro h1 (HAPP.out v2 w9 h1 h2 h3)); clear h1 h2 h3))
            go_wp2_with fail
            go_roundw
            case rel => exact ⟨k + 1, N + 1, v2, _, rfl, by go_num, by omega, HN2.out.2.1, HN2.out.1, HN2.out.2.2.1, HN2.out.2.2.2⟩
            case measure => simp [intOf]; omega
          · obtain rfl : M = 0 := by omega
            have hall : rs.all f t (bs.take (k + 1)) = rs.all f t (bs.take k) := by rw [HTS.out.1, if_neg (by omega), List.append_nil]
            have HALL := Lib.hid hall; clear hall hM0
            go_wp2_with fail
            go_roundw
            case rel => exact ⟨k + 1, N, .slice Ar N cr, xs, rfl, by go_num, by omega, by rw [HALL.out]; exact HNL.out, (chg_of (P := fun _ => False) HBY.out).own HOWN.out fun _ _ h => h.elim, by rw [HALL.out]; exact fun i b hi => (HCPS.out i b hi).below HBY.out, HBW.out.trans (HBY.out.mono hws)⟩
            case measure => simp [intOf]; omega
    · obtain rfl : k = n := by omega
      have hcps := HCPS.out
      have hN := HNL.out
      rw [List.take_of_length_le (by rw [HN.out]; exact Nat.le_refl _)] at hcps hN
      obtain ⟨A9, c9, rfl, h1, h2, h3⟩ := hcps.bats hN.symm HOWN.out
      have H9 := Lib.hid (And.intro hN (And.intro h1 (And.intro h2 h3))); clear h1 h2 h3 hcps hN
      go_wp2_with fail
      go_ret
      exact ⟨A9, c9, by rw [← H9.out.1]; rfl, by rw [← H9.out.1]; exact H9.out.2.1, H9.out.2.2.1, H9.out.2.2.2, HBW.out⟩
end Go.Proofs.Ytbbekgliaedigaa

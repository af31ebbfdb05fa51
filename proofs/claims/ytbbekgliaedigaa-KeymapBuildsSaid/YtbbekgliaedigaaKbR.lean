/- The reference's Build (cordwainref10): of any batches it leaves the document's map, and tells up to where, that the search over them says. -/
import Derived.Test.YtbbekgliaedigaaKbB
import Derived.Test.YtbbekgliaedigaaKbW
import Derived.Test.YtbbekgliaedigaaKyU
import Derived.Deep.LoopGhost
import Derived.BigQuiet
import Derived.Deep.QuietTactic
namespace Go.Proofs.Ytbbekgliaedigaa
open Go.RowKit Go.Maps

theorem RMapAt.keepRef {w0 w w' : World} {r r2 : Nat} {most m2 : Int} {l l2 : List PItm} (h : RMapAt w0 w r most l) (hc : Chg w w' (fun k => k = r2)) (hr : RMapAt w0 w r2 m2 l2) (hne : r ≠ r2) : RMapAt w0 w' r most l := by
  obtain ⟨v, h1, h2, h3⟩ := h
  obtain ⟨v2, g1, -⟩ := hr
  refine ⟨v, hc.blk h1 hne, hc.own h2 fun k hk e => ?_, h3⟩
  rcases h2.2 with ⟨rfl, _⟩ | ⟨gg, cap, cur, rfl, _, hg, _⟩
  · cases hk
  · obtain rfl : gg = k := by simpa [Value.ownBlock] using hk
    have he : gg = r2 := e
    subst he
    have := g1.symm.trans (show Blk w gg 122 cur from hg)
    simp at this
theorem RMapAt.open {w0 w : World} {r : Nat} {most : Int} {l : List PItm} (h : RMapAt w0 w r most l) :
    ∃ A c, Blk w r 35 #[.int .i64 most, .slice A l.length c] ∧ w.ownsRow 0 122 3 (.slice A l.length c) l.length (pf.row l) ∧ ∀ x ∈ l, PBytes w0 x := by
  obtain ⟨v, h1, h2, h3⟩ := h
  have hv := own_at h2
  obtain ⟨A, c, rfl, -, -⟩ := hv
  exact ⟨A, c, h1, h2, h3⟩

/-- What the reference's Build answers. -/
def rb.Post (f M : Int) (bs : List Bat) (w : World) (e : Ending) (w' : World) : Prop :=
  (∃ r l, e = .returned (.tuple #[.pointer (some ⟨r, 0, none⟩), .int .i64 (kb.go f M 0 (fun _ => none) f bs).2.2]) ∧ RMapAt w w' r M l ∧ MapIs (kb.go f M 0 (fun _ => none) f bs).1 (kb.go f M 0 (fun _ => none) f bs).2.1 l ∧ (∀ x ∈ l, x.vs = [] ∧ x.bs.length ≤ 10000) ∧ l.length ≤ 10000) ∧ Below w.heap.size w w'

set_option maxRecDepth 100000 in
set_option maxHeartbeats 4000000 in
theorem rb.build_any (A : Option Addr) (bs : List Bat) (n c : Nat) (f most M : Int) (w : World) (hat : BatsAt w A bs) (hn : bs.length = n) (hn1 : n ≤ 1000000) (hlast : ∀ b ∈ bs, b.last ≤ 4611686018427387904) (hflat : (rc.flat bs).length ≤ 10000 ∧ ∀ r ∈ rc.flat bs, r.key.length ≤ 10000) (hM : kb.Most most M) :
    Calls Try.prog 27 #[.slice A n c, .int .i64 f, .int .i64 most] w (rb.Post f M bs w) := by
  have HAT := Lib.hid hat; clear hat
  have HLA := Lib.hid hlast; clear hlast
  have HN := Lib.hid hn; clear hn
  have HFL := Lib.hid hflat; clear hflat
  unfold kb.Most at hM
  have hm1 : 1 ≤ M := by omega
  have hm2 : M ≤ 1000000 := by omega
  obtain ⟨R, hR⟩ : ∃ R, R = kb.go f M 0 (fun _ => none) f bs := ⟨_, rfl⟩
  obtain ⟨NR, gR, uR⟩ := R
  have hfin : ∀ (r : Nat) (l : List PItm) w', RMapAt w w' r M l → MapIs NR gR l → (∀ x ∈ l, x.vs = [] ∧ x.bs.length ≤ 10000) → NR ≤ 10000 → Below w.heap.size w w' → rb.Post f M bs w (.returned (.tuple #[.pointer (some ⟨r, 0, none⟩), .int .i64 uR])) w' := fun r l w' h1 h2 h3 h4 h5 => by
    unfold rb.Post
    rw [← hR]
    exact ⟨⟨r, l, rfl, h1, h2, h3, by rw [← h2.len]; exact h4⟩, h5⟩
  have HFIN := Lib.hid hfin; clear hfin
  have HR := Lib.hid hR; clear hR
  have hMX : min (max most 1) 1000000 = M := hM.symm
  clear hM
  go_enter Try.func27, Try.ntmps27
  go_wp2_with fail
  clear hMX
  obtain ⟨w1, hw1⟩ : ∃ w1, w1 = w.alloc (.cells #[.int .i64 M, .slice none 0 0] 35) := ⟨_, rfl⟩
  rw [← hw1]
  have hb1 : Below w.heap.size w w1 := by rw [hw1]; exact (Below.refl _ _).alloc (Nat.le_refl _) _
  have hr1 : RMapAt w w1 w.heap.size M [] := ⟨.slice none 0 0, by rw [hw1]; exact Blk.new _ _ _, World.ownsRow_nil _ _ _ _, by simp⟩
  obtain ⟨r0, hr0⟩ : ∃ r0, r0 = w.heap.size := ⟨_, rfl⟩
  rw [← hr0] at hr1 ⊢
  have HR1 := Lib.hid (And.intro hr1 hb1); clear hr1 hb1 hw1 hr0
  go_loopg [8, 9, 10] n (fun gas s8 s9 s10 wx => ∃ (k N : Nat) (gg : ByteArray → Option Int) (up : Int) (r : Nat) (l : List PItm), k + gas = n ∧ s8 = .pointer (some ⟨r, 0, none⟩) ∧ s9 = .int .i64 up ∧ s10 = .int .i64 (k : Int) ∧ kb.go f M N gg up (bs.drop k) = (NR, gR, uR) ∧ RMapAt w wx r M l ∧ MapIs N gg l ∧ (∀ x ∈ l, x.vs = [] ∧ x.bs.length ≤ 10000) ∧ N ≤ (rc.flat (bs.take k)).length ∧ (N : Int) ≤ M ∧ Below w.heap.size w wx)
  case atStart => exact ⟨0, 0, fun _ => none, f, r0, [], by omega, rfl, rfl, rfl, HR.out.symm, HR1.out.1, MapIs.nil, by simp, by omega, by omega, HR1.out.2⟩
  case round =>
    obtain ⟨k, N, gg, up, r, l, hkg, rfl, rfl, rfl, hgo, hrm, his, hall, hNf, hNM, hbw⟩ := hrel
    have HGO := Lib.hid hgo; clear hgo HR HR1
    have HRM := Lib.hid hrm; clear hrm
    have HIS := Lib.hid his; clear his
    have HALL := Lib.hid hall; clear hall
    have HBW := Lib.hid hbw; clear hbw
    cases gk with
    | zero =>
      obtain rfl : k = n := by omega
      have hgo := HGO.out
      rw [List.drop_of_length_le (by rw [HN.out]; exact Nat.le_refl _)] at hgo
      rw [List.take_of_length_le (by rw [HN.out]; exact Nat.le_refl _)] at hNf
      have hq : N = NR ∧ gg = gR ∧ up = uR := by simpa [kb.go] using hgo
      obtain ⟨rfl, rfl, rfl⟩ := hq
      have hN2 : N ≤ 10000 := Nat.le_trans hNf HFL.out.1
      clear hgo HGO hNf
      go_wp2_with fail
      (try rw [Exit.noGoto_ret])
      go_ret2
      exact HFIN.out r l wr HRM.out HIS.out HALL.out hN2 HBW.out
    | succ gas =>
      have hkn : k < n := by omega
      obtain ⟨x, hx⟩ : ∃ x, bs[k]? = some x := ⟨_, List.getElem?_eq_getElem (by rw [HN.out]; exact hkn)⟩
      have hla := HLA.out x (List.mem_of_getElem? hx)
      have hgd := HGO.out
      rw [kb.go_drop hx] at hgd
      have hft := rc.flat_take hx
      have hxm : ∀ y ∈ x.recs, y.key.length ≤ 10000 := fun y hy => HFL.out.2 y (by
        unfold rc.flat
        exact List.mem_flatten.2 ⟨x.recs, List.mem_map.2 ⟨x, List.mem_of_getElem? hx, rfl⟩, hy⟩)
      have hfl2 : (rc.flat (bs.take (k + 1))).length ≤ 10000 := by
        have h1 := HFL.out.1
        have h2 : bs = bs.take (k + 1) ++ bs.drop (k + 1) := (List.take_append_drop _ _).symm
        rw [h2] at h1
        unfold rc.flat at h1 ⊢
        rw [List.map_append, List.flatten_append, List.length_append] at h1
        omega
      rw [hft, List.length_append] at hfl2
      obtain ⟨F0, hF0⟩ : ∃ F0, F0 = (rc.flat (bs.take k)).length := ⟨_, rfl⟩
      rw [← hF0] at hfl2 hNf
      obtain ⟨b2, off2, v2, hA2, hb2, c0, c1, c2, c3, c4', c5, hrecs, hi0, hi1, -⟩ := HAT.out.at' hx
      subst hA2
      obtain ⟨A4, c4, V4, rfl, hmc, hc4, -⟩ := id hrecs
      obtain ⟨m, hm⟩ : ∃ m, m = x.recs.length := ⟨_, rfl⟩
      have HRECS := Lib.hid hrecs; clear hrecs
      rw [← hm] at c5 hmc hfl2
      have hft2 : (rc.flat (bs.take (k + 1))).length = F0 + m := by rw [hft, List.length_append, hF0, hm]
      have HFT := Lib.hid hft2; clear hft hft2 hF0
      have HXM := Lib.hid hxm; clear hxm
      have HM := Lib.hid hm; clear hm hx
      have HGD := Lib.hid hgd; clear hgd HGO
      unfold i64ok at hi0 hi1
      have hbw0 := HBW.out
      have e0 : wr.cell? ⟨b2, off2 + k * 6, none⟩ = some (.int .i64 x.base) := (hbw0.cell (p := ⟨b2, off2 + k * 6, none⟩) hb2).trans c0
      have e1 : wr.cell? ⟨b2, off2 + k * 6 + 1, none⟩ = some (.int .i64 x.last) := (hbw0.cell (p := ⟨b2, off2 + k * 6 + 1, none⟩) hb2).trans c1
      have e2 : wr.cell? ⟨b2, off2 + k * 6 + 2, none⟩ = some (.int .i64 x.prod) := (hbw0.cell (p := ⟨b2, off2 + k * 6 + 2, none⟩) hb2).trans c2
      have e3 : wr.cell? ⟨b2, off2 + k * 6 + 3, none⟩ = some (.int .i64 x.epoch) := (hbw0.cell (p := ⟨b2, off2 + k * 6 + 3, none⟩) hb2).trans c3
      have e4 : wr.cell? ⟨b2, off2 + k * 6 + 4, none⟩ = some (.int .i64 x.seq) := (hbw0.cell (p := ⟨b2, off2 + k * 6 + 4, none⟩) hb2).trans c4'
      have e5 : wr.cell? ⟨b2, off2 + k * 6 + 5, none⟩ = some (.slice A4 m c4) := (hbw0.cell (p := ⟨b2, off2 + k * 6 + 5, none⟩) hb2).trans c5
      clear c0 c1 c2 c3 c4' c5 hbw0
      go_upto_region 7 with fail
      obtain ⟨q, hq⟩ : ∃ q, q = wr.heap.size := ⟨_, rfl⟩
      obtain ⟨ws, hws⟩ : ∃ ws, ws = wr.alloc (.cells #[.int .i64 x.base, .int .i64 x.last, .int .i64 x.prod, .int .i64 x.epoch, .int .i64 x.seq, .slice A4 m c4] 47) := ⟨_, rfl⟩
      rw [← hws, ← hq]
      have hbs : Below wr.heap.size wr ws := by rw [hws]; exact (Below.refl _ _).alloc (Nat.le_refl _) _
      have hks : Blk ws q 47 #[.int .i64 x.base, .int .i64 x.last, .int .i64 x.prod, .int .i64 x.epoch, .int .i64 x.seq, .slice A4 m c4] := by rw [hws, hq]; exact Blk.new wr _ _
      have hrs := HRM.out.below hbs
      have hbw2 := HBW.out.trans (hbs.mono HBW.out.size)
      have hrq : r < q := by rw [hq]; exact HRM.out.lt
      obtain ⟨A5, c5, hk5, ho5, hby5⟩ := hrs.open
      have q0 : ∀ x : Under ws, x.1.cell? ⟨r, 0, none⟩ = some (.int .i64 M) := fun x => (x.2.cell (p := ⟨r, 0, none⟩) hrs.lt).trans (hk5.cell 0 rfl)
      have q1 : ∀ x : Under ws, x.1.cell? ⟨r, 1, none⟩ = some (.slice A5 l.length c5) := fun x => (x.2.cell (p := ⟨r, 1, none⟩) hrs.lt).trans (hk5.cell 1 rfl)
      have qd : ws.drew.cell? ⟨r, 1, none⟩ = some (.slice A5 l.length c5) := q1 ⟨ws.drew, bdrew (Below.refl _ _) 1⟩
      have qs : ws.cell? ⟨r, 1, none⟩ = some (.slice A5 l.length c5) := q1 ⟨ws, Below.refl _ _⟩
      obtain ⟨ll, hll⟩ : ∃ ll, ll = l.length := ⟨_, rfl⟩
      rw [← hll] at q1 qd qs ho5
      have HLL := Lib.hid hll; clear hll
      have HO5 := Lib.hid (And.intro ho5 hby5); clear ho5 hby5 hk5
      have HWS := Lib.hid (And.intro hks (And.intro hrs hbw2)); clear hks hrs hbw2 hbs hws hq e0 e1 e2 e3 e4 e5 HRM HBW
      have hS0 : ∃ x : Under ws, ws.drew = x.1 := under_of (bdrew (Below.refl _ _) 1)
      refine wp_plan (S := fun w0 => ∃ x : Under ws, w0 = x.1) (by kernel_rfl) hS0 ?_
      intro hS K5 hK5
      have HS := Lib.hid hS; clear hS hS0
      refine plan_group [true, true, true, true, true, true, true] [0, 1, 2, 3, 4, 5, 6] 4 (by dsimp only [sel]) (by rfl) rfl (by kernel_rfl) (by kernel_rfl) HS.out ?_
      (repeat go_big_quiet_step (fail)); refine wpQuiet_nil ?_
      clear q0 q1
      refine plan_one [false, false, false, false, false, false, false, true] 7 3 (by dsimp only [sel]) (by rfl) rfl (by kernel_rfl) ?_; intro K1 hK1; go_wp2_with fail
      refine ⟨HS.out, ?_⟩
      refine plan_one [false, false, false, false, false, false, false, false, true] 8 2 (by dsimp only [sel]) (by rfl) rfl (by kernel_rfl) ?_; intro K1 hK1; go_wp2_with fail
      refine ⟨HS.out, ?_⟩
      refine plan_one [false, false, false, false, false, false, false, false, false, true] 9 1 (by dsimp only [sel]) (by rfl) rfl (by kernel_rfl) ?_; intro K1 hK1; go_wp2_with fail
      obtain ⟨q3, hq3⟩ : ∃ q3, q3 = ws.heap.size := ⟨_, rfl⟩
      obtain ⟨w3, hw3⟩ : ∃ w3, w3 = (ws.alloc (.cells #[.int .i64 M, .slice A5 ll c5] 35)).drew := ⟨_, rfl⟩
      rw [← hw3]
      have hb3 : Below ws.heap.size ws w3 := by rw [hw3]; exact bdrew ((Below.refl _ _).alloc (Nat.le_refl _) _) 1
      have hr3 : RMapAt w w3 q3 M l := ⟨.slice A5 ll c5, by rw [hw3, hq3]; exact Blk.drew (Blk.new ws _ _) 1, by rw [← HLL.out]; exact (chg_of (P := fun _ => False) hb3).own HO5.out.1 fun _ _ h => h.elim, HO5.out.2⟩
      have hqq : q < q3 := by rw [hq3]; exact HWS.out.1.lt
      have hwq3 : w.heap.size ≤ q3 := by rw [hq3]; exact HWS.out.2.2.size
      have hk3 : Blk w3 q 47 #[.int .i64 x.base, .int .i64 x.last, .int .i64 x.prod, .int .i64 x.epoch, .int .i64 x.seq, .slice A4 m c4] := by
        have h1 : Blk ws q 47 #[.int .i64 x.base, .int .i64 x.last, .int .i64 x.prod, .int .i64 x.epoch, .int .i64 x.seq, .slice A4 m c4] := HWS.out.1
        exact (hb3.block q h1.lt).trans h1
      have HW3 := Lib.hid (And.intro hr3 (And.intro (HWS.out.2.1.below hb3) (And.intro hk3 (HWS.out.2.2.trans (hb3.mono HWS.out.2.2.size))))); clear hr3 hk3
      have HU3 := Lib.hid (show ∃ x : Under ws, w3 = x.1 from under_of hb3)
      have HQ3 := Lib.hid hq3
      clear qd qs hb3 hw3 hq3 HO5 HLL HWS
      refine ⟨HU3.out, ?_⟩
      refine plan_group [false, false, false, false, false, false, false, false, false, false, true] [10] 0 (by dsimp only [sel]) (by rfl) rfl (by kernel_rfl) (by kernel_rfl) HU3.out ?_
      (repeat go_big_quiet_step (fail)); refine wpQuiet_nil ?_
      refine wp_plan_end (by kernel_rfl) ?_
      rw [← HQ3.out]
      clear HQ3
      go_wp2_with fail
      go_loopg [13] m (fun gas2 s13 wx => ∃ (j N2 : Nat) (g2 : ByteArray → Option Int) (l2 : List PItm), j + gas2 = m ∧ s13 = .int .i64 (j : Int) ∧ bd.Mid f M N gg x.recs j N2 g2 ∧ RMapAt w wx q3 M l2 ∧ RMapAt w wx r M l ∧ Blk wx q 47 #[.int .i64 x.base, .int .i64 x.last, .int .i64 x.prod, .int .i64 x.epoch, .int .i64 x.seq, .slice A4 m c4] ∧ MapIs N2 g2 l2 ∧ (∀ y ∈ l2, y.vs = [] ∧ y.bs.length ≤ 10000) ∧ N2 ≤ F0 + j ∧ Below w.heap.size w wx)
      case atStart => exact ⟨0, N, gg, l, by omega, rfl, bd.Mid.zero hNM, HW3.out.1, HW3.out.2.1, HW3.out.2.2.1, HIS.out, HALL.out, by omega, HW3.out.2.2.2⟩
      case round =>
        obtain ⟨j, N2, g2, l2, hjg, rfl, hmid, hrx, hrm, hblk, hisx, hallx, hNj, hby⟩ := hrel
        clear HW3 HS HU3
        have HMID := Lib.hid hmid; clear hmid
        have HRX := Lib.hid hrx; clear hrx
        have HRM := Lib.hid hrm; clear hrm
        have HISX := Lib.hid hisx; clear hisx
        have HALX := Lib.hid hallx; clear hallx
        have HBY := Lib.hid hby; clear hby
        have hbk5 := hblk.cell 5 (v := .slice A4 m c4) rfl
        have hbk1 := hblk.cell 1 (v := .int .i64 x.last) rfl
        have hqz : q < wr.heap.size := hblk.lt
        have HBLK := Lib.hid hblk; clear hblk
        cases gk with
        | zero =>
          as_aux_lemma =>
            obtain rfl : m = j := by omega
            obtain ⟨hs, hof⟩ := HMID.out.done HM.out
            have hgd := HGD.out
            rw [if_pos hs, hof] at hgd
            dsimp only at hgd
            obtain ⟨U, hU⟩ : ∃ U, max f (x.last + 1) = U := ⟨_, rfl⟩
            have hU2 : max (x.last + 1) f = U := by omega
            rw [hU2] at hgd
            clear hs hof hU2
            have HG2 := Lib.hid hgd; clear hgd HGD
            have hle := HMID.out.le
            have hft : N2 ≤ (rc.flat (bs.take (k + 1))).length := by rw [HFT.out]; exact hNj
            have HF2 := Lib.hid hft; clear hft
            go_wp2_with fail
            go_roundg gas
            case measure => omega
            case rel => exact ⟨k + 1, N2, g2, U, q3, l2, by omega, rfl, by first | rfl | (rw [hU]), by go_num, HG2.out, HRX.out, HISX.out, HALX.out, HF2.out, hle, HBY.out⟩
        | succ gas3 =>
          have hjm : j < m := by omega
          obtain ⟨y, hy⟩ : ∃ y, x.recs[j]? = some y := ⟨_, List.getElem?_eq_getElem (by rw [← HM.out]; exact hjm)⟩
          have hkl := HXM.out y (List.mem_of_getElem? hy)
          have HY := Lib.hid hy
          obtain ⟨pr, off, c', kv, vv, hA, -, -, hpr, d0, d1, d2, d3, d4, d5, hkk, hvv, hio, -⟩ := HRECS.out.at' hy
          obtain ⟨rfl, rfl⟩ : A4 = some ⟨pr, off, none⟩ ∧ c4 = c' := by simpa using hA
          obtain ⟨Ak, ck, rfl, hka, hk1, hk2, -⟩ := hkk
          obtain ⟨Av, cv, rfl, -, -, -, -⟩ := hvv
          have hby0 := HBY.out
          have e0 : wr.cell? ⟨pr, off + j * 6, none⟩ = some (.int .i64 y.off) := (hby0.cell (p := ⟨pr, off + j * 6, none⟩) hpr).trans d0
          have e1 : wr.cell? ⟨pr, off + j * 6 + 1, none⟩ = some (.int .i64 y.time) := (hby0.cell (p := ⟨pr, off + j * 6 + 1, none⟩) hpr).trans d1
          have e2 : wr.cell? ⟨pr, off + j * 6 + 2, none⟩ = some (.bool y.hasKey) := (hby0.cell (p := ⟨pr, off + j * 6 + 2, none⟩) hpr).trans d2
          have e3 : wr.cell? ⟨pr, off + j * 6 + 3, none⟩ = some (.slice Ak y.key.length ck) := (hby0.cell (p := ⟨pr, off + j * 6 + 3, none⟩) hpr).trans d3
          have e4 : wr.cell? ⟨pr, off + j * 6 + 4, none⟩ = some (.bool y.hasVal) := (hby0.cell (p := ⟨pr, off + j * 6 + 4, none⟩) hpr).trans d4
          have e5 : wr.cell? ⟨pr, off + j * 6 + 5, none⟩ = some (.slice Av y.val.length cv) := (hby0.cell (p := ⟨pr, off + j * 6 + 5, none⟩) hpr).trans d5
          clear hby0 d0 d1 d2 d3 d4 d5 hA hy
          obtain ⟨wy, hwy⟩ : ∃ wy, wy = wr.alloc (.cells #[.int .i64 y.off, .int .i64 y.time, .bool y.hasKey, .slice Ak y.key.length ck, .bool y.hasVal, .slice Av y.val.length cv] 54) := ⟨_, rfl⟩
          have hbe : Below wr.heap.size wr wy := by rw [hwy]; exact (Below.refl _ _).alloc (Nat.le_refl _) _
          have hkb : Blk wy q 47 #[.int .i64 x.base, .int .i64 x.last, .int .i64 x.prod, .int .i64 x.epoch, .int .i64 x.seq, .slice (some ⟨pr, off, none⟩) m c4] := (hbe.block q hqz).trans HBLK.out
          have HV := Lib.hid (And.intro hkb (And.intro (HRX.out.below hbe) (And.intro (HRM.out.below hbe) (HBY.out.trans (hbe.mono HBY.out.size))))); clear hbe hkb
          clear hbk1
          by_cases hhk : y.hasKey = true
          · by_cases hfo : f ≤ y.off
            · have hu : kb.use f y = true := by unfold kb.use; rw [hhk, decide_eq_true hfo]; rfl
              have hl2 : l2.length ≤ 10000 := by rw [← HISX.out.len]; omega
              obtain ⟨cb, hcb⟩ : ∃ cb, cb = key.can N2 M g2 (strOf y.key) := ⟨_, rfl⟩
              have hcan : pf.can l2 M (POff Ak y.key.length ck y.key y.off).key = cb := by rw [hcb]; exact (HISX.out.can M _).symm
              have hoff := rmap.offer_any w q3 M l2 Ak y.key.length ck y.key y.off wy HV.out.2.1 HV.out.2.2.2 hl2 rfl (by omega) hka
              unfold rmap.OfferPost at hoff
              rw [hcan] at hoff
              have HOFF := Lib.hid hoff; clear hoff hcan
              rw [hwy] at HOFF
              cases cb with
              | true =>
                as_aux_lemma =>
                  have hmid := HMID.out.can HY.out hu hcb.symm
                  have hmis := HISX.out.offer M (POff Ak y.key.length ck y.key y.off)
                  have hall' : ∀ z ∈ pf.offer l2 M (POff Ak y.key.length ck y.key y.off), z.vs = [] ∧ z.bs.length ≤ 10000 := pf.offer_all HALX.out fun o' => ⟨rfl, hkl⟩
                  have hup := key.cnt_up N2 M g2 (strOf y.key)
                  have HNX := Lib.hid (And.intro hmid (And.intro hmis (And.intro hall' hup))); clear hmid hmis hall' hup hcb HALX
                  rw [hhk] at e2 HOFF hwy
                  go_wp2_with fail
                  refine HOFF.out.mono ?_
                  rintro e w4 ⟨rfl, hr4, hc4⟩
                  rw [← hwy] at hc4
                  have hb4 := HV.out.2.2.2.trans (hc4.below HV.out.2.2.2.size fun k hk => by have hk : k = q3 := hk; omega)
                  have hk4 := hc4.blk HV.out.1 (show ¬ q = q3 by omega)
                  have hm4 := HV.out.2.2.1.keepRef hc4 HV.out.2.1 (by omega)
                  have H4 := Lib.hid (And.intro hr4 (And.intro hm4 (And.intro hk4 hb4))); clear hr4 hm4 hk4 hb4 hc4
                  go_wp2_with fail
                  go_roundg gas3
                  case measure => omega
                  case rel => exact ⟨j + 1, _, _, _, by omega, by go_num, HNX.out.1, H4.out.1, H4.out.2.1, H4.out.2.2.1, HNX.out.2.1, HNX.out.2.2.1, by have := HNX.out.2.2.2; omega, H4.out.2.2.2⟩
              | false =>
                as_aux_lemma =>
                  have hno := HMID.out.no HY.out hu hcb.symm
                  have hgd := HGD.out
                  rw [if_neg (by rw [hno]; simp)] at hgd
                  obtain ⟨U, hU⟩ : ∃ U, max x.base f = U := ⟨_, rfl⟩
                  rw [hU] at hgd
                  have hq : N = NR ∧ gg = gR ∧ U = uR := by simpa using hgd
                  obtain ⟨rfl, rfl, rfl⟩ := hq
                  have hN2 : N ≤ 10000 := by omega
                  clear hgd HGD hno hcb
                  rw [hhk] at e2 HOFF hwy
                  go_wp2_with fail
                  refine HOFF.out.mono ?_
                  rintro e w4 ⟨rfl, hr4, hc4⟩
                  rw [← hwy] at hc4
                  have hb4 := HV.out.2.2.2.trans (hc4.below HV.out.2.2.2.size fun k hk => by have hk : k = q3 := hk; omega)
                  have hk4 := hc4.blk HV.out.1 (show ¬ q = q3 by omega)
                  have hm4 := HV.out.2.2.1.keepRef hc4 HV.out.2.1 (by omega)
                  have z0 : w4.cell? ⟨q, 0, none⟩ = some (.int .i64 x.base) := hk4.cell 0 rfl
                  have z1 : ∀ i, (w4.drewN i).cell? ⟨q, 0, none⟩ = some (.int .i64 x.base) := fun i => z0
                  have H4 := Lib.hid (And.intro hm4 hb4); clear hr4 hm4 hk4 hb4 hc4
                  go_wp2_with fail
                  go_quiet (fail)
                  go_wp2_with fail
                  (try rw [Exit.noGoto_ret])
                  go_ret2
                  exact HFIN.out r l (w4.drewN nq) (H4.out.1.below (bdrew (Below.refl _ _) nq)) HIS.out HALL.out hN2 (bdrew H4.out.2 nq)
            · as_aux_lemma =>
                have hu : kb.use f y = false := by unfold kb.use; rw [hhk, decide_eq_false hfo]; rfl
                have hmid := HMID.out.skip HY.out hu
                have HNX := Lib.hid hmid; clear hmid
                have hd : decide (f ≤ y.off) = false := by simpa using hfo
                rw [hhk] at e2 hwy
                go_wp2_with fail
                rw [← hwy]
                go_roundg gas3
                case measure => omega
                case rel => exact ⟨j + 1, _, _, _, by omega, by go_num, HNX.out, HV.out.2.1, HV.out.2.2.1, HV.out.1, HISX.out, HALX.out, by omega, HV.out.2.2.2⟩
          · as_aux_lemma =>
              have hhk : y.hasKey = false := by simpa using hhk
              have hu : kb.use f y = false := by unfold kb.use; rw [hhk]; rfl
              have hmid := HMID.out.skip HY.out hu
              have HNX := Lib.hid hmid; clear hmid
              rw [hhk] at e2 hwy
              go_wp2_with fail
              rw [← hwy]
              go_roundg gas3
              case measure => omega
              case rel => exact ⟨j + 1, _, _, _, by omega, by go_num, HNX.out, HV.out.2.1, HV.out.2.2.1, HV.out.1, HISX.out, HALX.out, by omega, HV.out.2.2.2⟩
end Go.Proofs.Ytbbekgliaedigaa

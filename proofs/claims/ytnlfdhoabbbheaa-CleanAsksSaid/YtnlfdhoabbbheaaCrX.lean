/- The document's side of cleaning (cordwainref10): Build, Stays, CleanSegment. -/
import Derived.Test.YtnlfdhoabbbheaaClZ
import Derived.Test.YtnlfdhoabbbheaaPfX
import Derived.Test.YtnlfdhoabbbheaaKeyA
import Derived.BigRegionIn
import Derived.Test.YtnlfdhoabbbheaaKit
import Derived.Test.YtnlfdhoabbbheaaPlanE
import Derived.Test.YtnlfdhoabbbheaaKbB
import Derived.Test.YtnlfdhoabbbheaaKbW
import Derived.Deep.LoopGhost
import Derived.BigQuiet
import Derived.Deep.QuietTactic
namespace Go.Proofs.Ytnlfdhoabbbheaa
open Go.RowKit Go.Maps
set_option maxRecDepth 100000

set_option maxHeartbeats 1000000 in
theorem cr.older_any (t n a : Int) (w : World) (ht : 0 ≤ t) (ht' : t ≤ 9223372036854775807) (hn : 0 ≤ n) (hn' : n ≤ 9223372036854775807) (ha : 0 ≤ a) (ha' : a ≤ 9223372036854775807) :
    Calls Try.prog 39 #[.int .i64 n, .int .i64 t, .int .i64 a] w fun e w' => e = .returned (.bool (decide (a < n - t))) ∧ w = w' := by
  have h0 : ¬ t < 0 := by omega
  by_cases hlt : t < n
  · go_enter Try.func39, Try.ntmps39
    go_wp2
    go_ret
    exact ⟨rfl, rfl⟩
  · have hd : decide (a < n - t) = false := by simp; omega
    have Hd := Lib.hid hd; clear hd
    go_enter Try.func39, Try.ntmps39
    go_wp2
    go_ret
    exact ⟨by rw [Hd.out]; rfl, rfl⟩

set_option maxHeartbeats 4000000 in
theorem cr.record_any (r : Rec) (Ak : Option Addr) (ck : Nat) (Av : Option Addr) (nv cv : Nat) (w0 : World) (p : Nat) (most : Int) (l : List PItm) (upto now grace : Int) (w : World) (h : RMapAt w0 w p most l) (h0 : Below w0.heap.size w0 w) (hlen : l.length ≤ 10000) (hl : r.key.length ≤ maxLen) (hat : At w Ak r.key.length (byteAt r.key))
    (ht : 0 ≤ r.time ∧ r.time ≤ 9223372036854775807) (hn : 0 ≤ now ∧ now ≤ 9223372036854775807) (hg : 0 ≤ grace ∧ grace ≤ 9223372036854775807) :
    Calls Try.prog 17 #[.agg #[.int .i64 r.off, .int .i64 r.time, .bool r.hasKey, .slice Ak r.key.length ck, .bool r.hasVal, .slice Av nv cv], .pointer (some ⟨p, 0, none⟩), .int .i64 upto, .int .i64 now, .int .i64 grace] w
      fun e w' => e = .returned (.bool (cl.stays (pf.look l) upto now grace r)) ∧ Below w.heap.size w w' := by
  obtain ⟨off, time, hk, ky, hv, val⟩ := r
  dsimp only at *
  obtain ⟨ht0, ht1⟩ := ht
  obtain ⟨hn0, hn1⟩ := hn
  obtain ⟨hg0, hg1⟩ := hg
  have hlast := fun (wx : World) (hb : Below w.heap.size w wx) => rmap.last_any w0 p most l Ak ky.length ck ky wx (h.chg (P := fun _ => False) (chg_of hb) fun _ h => h.elim) (h0.trans (hb.mono h0.size)) hlen rfl (hat.below hb (Nat.le_refl _))
  have hold := fun wx => cr.older_any time now grace wx ht0 ht1 hn0 hn1 hg0 hg1
  obtain ⟨R, hR⟩ : ∃ R, R = cl.stays (pf.look l) upto now grace (⟨off, time, hk, ky, hv, val⟩ : Rec) := ⟨_, rfl⟩
  rw [← hR]
  unfold cl.stays at hR
  dsimp only at hR
  generalize pf.look l (strOf ky) = G at *
  have HR := Lib.hid hR; clear hR
  have HLAST := Lib.hid hlast; clear hlast h h0 hat hl
  have HOLD := Lib.hid hold; clear hold
  generalize ky.length = nk at *
  obtain ⟨w1, hw1⟩ : ∃ w1, w1 = w.alloc (.cells #[.int .i64 off, .int .i64 time, .bool hk, .slice Ak nk ck, .bool hv, .slice Av nv cv] 34) := ⟨_, rfl⟩
  have hbk : Blk w1 w.heap.size 34 #[.int .i64 off, .int .i64 time, .bool hk, .slice Ak nk ck, .bool hv, .slice Av nv cv] := by rw [hw1]; exact Blk.new _ _ _
  have hb1 : Below w.heap.size w w1 := by rw [hw1]; exact (Below.refl _ w).alloc (Nat.le_refl _) _
  have hlt1 : w.heap.size < w1.heap.size := hbk.lt
  have c0 : ∀ q, (w1.drewN q).cell? ⟨w.heap.size, 0, none⟩ = some (.int .i64 off) := fun _ => hbk.cell 0 rfl
  have c1 : ∀ q, (w1.drewN q).cell? ⟨w.heap.size, 1, none⟩ = some (.int .i64 time) := fun _ => hbk.cell 1 rfl
  have c2 : ∀ q, (w1.drewN q).cell? ⟨w.heap.size, 2, none⟩ = some (.bool hk) := fun _ => hbk.cell 2 rfl
  have c3 : ∀ q, (w1.drewN q).cell? ⟨w.heap.size, 3, none⟩ = some (.slice Ak nk ck) := fun _ => hbk.cell 3 rfl
  have c4 : ∀ q, (w1.drewN q).cell? ⟨w.heap.size, 4, none⟩ = some (.bool hv) := fun _ => hbk.cell 4 rfl
  have e0 : w1.cell? ⟨w.heap.size, 0, none⟩ = some (.int .i64 off) := hbk.cell 0 rfl
  have e2 : w1.cell? ⟨w.heap.size, 2, none⟩ = some (.bool hk) := hbk.cell 2 rfl
  have e3 : w1.cell? ⟨w.heap.size, 3, none⟩ = some (.slice Ak nk ck) := hbk.cell 3 rfl
  have HB1 := Lib.hid hb1; clear hb1 hbk
  have HW1 := Lib.hid hw1; clear hw1
  go_enter Try.func17, Try.ntmps17
  go_upto_region 1 with fail
  rw [← HW1.out]
  clear HW1
  cases hk with
  | false =>
    have hr : R = true := by rw [HR.out, if_pos (Or.inl rfl)]
    subst hr
    go_wp2_with fail
    go_ret
    exact ⟨rfl, HB1.out⟩
  | true =>
    by_cases hup : upto ≤ off
    · have hr : R = true := by rw [HR.out, if_pos (Or.inr hup)]
      subst hr
      go_wp2_with fail
      go_ret
      exact ⟨rfl, HB1.out⟩
    · have hr0 := HR.out
      rw [if_neg (by rintro (h | h); cases h; exact hup h)] at hr0
      have HR0 := Lib.hid hr0; clear hr0 HR
      go_wp2_with fail
      refine (HLAST.out w1 HB1.out).mono ?_
      rintro e w2 ⟨rfl, q, rfl⟩
      have HB2 := Lib.hid (bdrew HB1.out q); clear HB1 HLAST e0 e2 e3
      cases G with
      | none =>
        have hr : R = true := HR0.out
        subst hr
        dsimp only [Option.getD, Option.isSome]
        cases hv
        all_goals
          go_wp2_with fail
          go_ret
          exact ⟨rfl, HB2.out⟩
      | some last =>
        dsimp only [Option.getD, Option.isSome]
        have hr1 : R = if off < last then false else if hv = false ∧ grace < now - time then false else true := HR0.out
        have HR1 := Lib.hid hr1; clear hr1 HR0
        by_cases hlo : off < last
        · have hr : R = false := by rw [HR1.out, if_pos hlo]
          subst hr
          go_wp2_with fail
          go_ret
          exact ⟨rfl, HB2.out⟩
        · cases hv with
          | true =>
            have hr : R = true := by rw [HR1.out, if_neg hlo, if_neg (by rintro ⟨h, -⟩; cases h)]
            subst hr
            go_wp2_with fail
            go_ret
            exact ⟨rfl, HB2.out⟩
          | false =>
            by_cases hgr : grace < now - time
            · have hr : R = false := by rw [HR1.out, if_neg hlo, if_pos ⟨rfl, hgr⟩]
              subst hr
              go_wp2_with fail
              refine (HOLD.out _).mono ?_
              rintro e w3 ⟨rfl, rfl⟩
              go_wp2_with fail
              go_ret
              exact ⟨rfl, HB2.out⟩
            · have hr : R = true := by rw [HR1.out, if_neg hlo, if_neg fun h => hgr h.2]
              have HDG := Lib.hid (show decide (grace < now - time) = false from decide_eq_false hgr)
              subst hr
              go_wp2_with fail
              refine (HOLD.out _).mono ?_
              rintro e w3 ⟨rfl, rfl⟩
              go_wp2_with fail
              go_ret
              refine ⟨?_, HB2.out⟩
              show Ending.returned (Value.bool (!decide (grace < now - time))) = _
              rw [HDG.out]
              rfl

/-- A copy of a batch in a row at v, in blocks of Z. -/
def cz.Cp (Z : Nat → Prop) (w : World) (v : Value) (cs : List Value) (b : Bat) : Prop :=
  ∃ u, cs = [.int .i64 b.base, .int .i64 b.last, .int .i64 b.prod, .int .i64 b.epoch, .int .i64 b.seq, u] ∧ Dep (fun q => Z q ∧ v.ownBlock ≠ some q) w (fun U => RecsV U u b.recs) ∧ i64ok b.base ∧ i64ok b.last ∧ i64ok b.prod ∧ i64ok b.epoch ∧ i64ok b.seq
theorem cz.Cp.below {Z : Nat → Prop} {w w' : World} {v : Value} {cs : List Value} {b : Bat} (h : cz.Cp Z w v cs b) (hb : Below w.heap.size w w') : cz.Cp Z w' v cs b := by
  obtain ⟨u, h1, h2, h3⟩ := h
  exact ⟨u, h1, h2.below hb, h3⟩
theorem cz.Cp.grown {Z : Nat → Prop} {w w' : World} {v v' : Value} {cs : List Value} {b : Bat} (h : cz.Cp Z w v cs b) (hg : w.grownBy w' v.ownBlock) (hl : v'.ownBlock = v.ownBlock ∨ v'.ownBlock = some w.heap.size) : cz.Cp Z w' v' cs b := by
  obtain ⟨u, h1, h2, h3⟩ := h
  refine ⟨u, h1, h2.move (fun k o hz ho _ => ⟨(hg.block k (heap_in ho) fun e => hz.2 e.symm).trans ho, hz.1, fun e => ?_⟩) hg.size, h3⟩
  rcases hl with h | h
  · exact hz.2 (h ▸ e)
  · rw [h] at e
    have e1 : w.heap.size = k := by simpa using e
    have := heap_in ho
    omega
/-- A row of such copies. -/
def cz.Cps (Z : Nat → Prop) (w : World) (v : Value) (xs : List Value) (l : List Bat) : Prop := ∀ (i : Nat) (b : Bat), l[i]? = some b → cz.Cp Z w v (cellsAt (fun j => xs.getD j undef) i 6) b
theorem cz.Cps.snoc {Z : Nat → Prop} {w w' : World} {v v' : Value} {xs cs : List Value} {l : List Bat} {b : Bat} (h : cz.Cps Z w v xs l) (hx : xs.length = l.length * 6) (hb : cz.Cp Z w v cs b) (hcs : cs.length = 6) (hg : w.grownBy w' v.ownBlock) (hl : v'.ownBlock = v.ownBlock ∨ v'.ownBlock = some w.heap.size) : cz.Cps Z w' v' (xs ++ cs) (l ++ [b]) := by
  intro i x hi
  by_cases hlt : i < l.length
  · rw [List.getElem?_append_left hlt] at hi
    rw [show cellsAt (fun j => (xs ++ cs).getD j undef) i 6 = cellsAt (fun j => xs.getD j undef) i 6 from cellsAt_congr fun k hk => by
      simp only [List.getD]
      rw [List.getElem?_append_left (by omega)]]
    exact (h i x hi).grown hg hl
  · have hil : i = l.length := by
      have := (List.getElem?_eq_some_iff.1 hi).1
      rw [List.length_append, List.length_singleton] at this
      omega
    subst hil
    rw [List.getElem?_append_right (Nat.le_refl _), Nat.sub_self] at hi
    obtain rfl : b = x := by simpa using hi
    have e : cellsAt (fun j => (xs ++ cs).getD j undef) l.length 6 = cs := by
      match cs, hcs with
      | [c0, c1, c2, c3, c4, c5], _ =>
        unfold cellsAt
        simp only [List.range, List.range.loop, List.map_cons, List.map_nil, List.getD]
        rw [List.getElem?_append_right (by omega), List.getElem?_append_right (by omega), List.getElem?_append_right (by omega), List.getElem?_append_right (by omega), List.getElem?_append_right (by omega), List.getElem?_append_right (by omega)]
        simp [hx]
    rw [e]
    exact hb.grown hg hl
theorem cz.Cps.dep {w : World} {B : Nat} {Z : Nat → Prop} {v : Value} {xs : List Value} {l : List Bat} {n : Nat} (h : cz.Cps Z w v xs l) (hZ : ∀ q, B ≤ q → Z q) (hn : l.length = n) (ho : w.ownsRow B 46 6 v n xs) : ∃ A c, v = .slice A n c ∧ n ≤ c ∧ c ≤ maxLen ∧ Dep Z w (fun U => BatsAt U A l) := by
  have hlt := ho.lt
  have hv := own_at ho
  obtain ⟨A, c, rfl, hc, hat⟩ := hv
  refine ⟨A, c, rfl, hc, own_cap ho, ⟨fun k => Z k ∧ CellsB w k, fun k hk => hk, fun U hU hs => ⟨fun j => xs.getD j undef, ?_, fun i b hi => ?_⟩⟩⟩
  · rw [hn]
    intro h0
    obtain ⟨b, off, hA, hb, hcell⟩ := hat h0
    refine ⟨b, off, hA, Nat.lt_of_lt_of_le hb hs, fun j hj => (World.cell?_of_block (hU b ⟨?_, .of_cell (hcell 0 h0)⟩)).trans (hcell j hj)⟩
    exact hZ b (hlt b (by rw [hA]; rfl)).1
  · obtain ⟨u, h1, ⟨S, hS1, hS2⟩, h3⟩ := h i b hi
    exact ⟨u, h1, hS2 U (fun k hk => hU k ⟨(hS1 k hk).1.1, (hS1 k hk).2⟩) hs, h3⟩
/-- What CleanSegment answers: batches that lean on what was there in wB, and on what was laid since. -/
def cz.Post (wB : World) (l : List Bat) (w : World) (e : Ending) (w' : World) : Prop :=
  ∃ A c, e = .returned (.slice A l.length c) ∧ l.length ≤ c ∧ c ≤ maxLen ∧ Dep (fun q => q < wB.heap.size ∨ w.heap.size ≤ q) w' (fun U => BatsAt U A l) ∧ Below w.heap.size w w'
theorem cz.Post.fr {wB : World} {l : List Bat} {w : World} {e : Ending} {w' : World} (h : cz.Post wB l w e w') : fr.Post l w e w' := by
  obtain ⟨A, c, h1, h2, h3, h4, h5⟩ := h
  exact ⟨A, c, h1, h2, h3, h4.now, h5⟩

set_option maxHeartbeats 4000000 in
theorem cr.segment_dep (A : Option Addr) (n c : Nat) (bs : List Bat) (w0 : World) (p : Nat) (most : Int) (lm : List PItm) (upto now grace : Int) (w wB : World) (hbB : Below wB.heap.size wB w) (hat : BatsAt wB A bs) (hn : bs.length = n) (hsm : fo.Small bs) (htm : ∀ x ∈ bs, ∀ r ∈ x.recs, 0 ≤ r.time) (hkm : RMapAt w0 w p most lm) (h0w : Below w0.heap.size w0 w) (hlm : lm.length ≤ 10000)
    (hnow : 0 ≤ now ∧ now ≤ 9223372036854775807) (hgr : 0 ≤ grace ∧ grace ≤ 9223372036854775807) :
    Calls Try.prog 19 #[.slice A n c, .pointer (some ⟨p, 0, none⟩), .int .i64 upto, .int .i64 now, .int .i64 grace] w (cz.Post wB (ps.all (cl.stays (pf.look lm) upto now grace) bs) w) := by
  have hn1 : n ≤ 1000000 := by rw [← hn]; exact hsm.1
  have hrec := fun (r : Rec) (Ak : Option Addr) (nk ck : Nat) (Av : Option Addr) (nv cv : Nat) (wx : World) (hb : Below w.heap.size w wx) (hl : r.key.length = nk) (hm : nk ≤ maxLen) (ha : At wx Ak nk (byteAt r.key)) (ht : 0 ≤ r.time ∧ r.time ≤ 9223372036854775807) =>
    show Calls Try.prog 17 #[.agg #[.int .i64 r.off, .int .i64 r.time, .bool r.hasKey, .slice Ak nk ck, .bool r.hasVal, .slice Av nv cv], .pointer (some ⟨p, 0, none⟩), .int .i64 upto, .int .i64 now, .int .i64 grace] wx (fun e w' => e = .returned (.bool (cl.stays (pf.look lm) upto now grace r)) ∧ Below wx.heap.size wx w') from by
      subst hl
      exact cr.record_any r Ak ck Av nv cv w0 p most lm upto now grace wx (hkm.chg (P := fun _ => False) (chg_of hb) fun _ h => h.elim) (h0w.trans (hb.mono h0w.size)) hlm hm ha ht hnow hgr
  generalize cl.stays (pf.look lm) upto now grace = F at *
  have hBs := hbB.size
  have HBB := Lib.hid hbB; clear hbB
  have HREC := Lib.hid hrec; clear hrec hkm h0w hlm hnow hgr
  have HAT := Lib.hid hat; clear hat
  have HN := Lib.hid hn; clear hn
  have HSM := Lib.hid (And.intro hsm htm); clear hsm htm
  obtain ⟨i0, hi, hz0, hz1', hz2⟩ := info_parts fo.infoB
  have HI := Lib.hid (And.intro hi (And.intro hz0 (And.intro hz1' hz2))); clear hi hz0 hz1' hz2
  obtain ⟨j0, hi, hz0, hz1', hz2⟩ := info_parts rc.info
  have HJ := Lib.hid (And.intro hi (And.intro hz0 (And.intro hz1' hz2))); clear hi hz0 hz1' hz2
  go_enter Try.func19, Try.ntmps19
  go_wp2_with fail
  go_loopw [11, 12] (fun s7 s8 wx => ∃ (k N : Nat) (v : Value) (xs : List Value), v = s7 ∧ s8 = .int .i64 (k : Int) ∧ k ≤ n ∧ N = (ps.all F (bs.take k)).length ∧ wx.ownsRow w.heap.size 46 6 v N xs ∧ cz.Cps (fun q => q < wB.heap.size ∨ w.heap.size ≤ q) wx v xs (ps.all F (bs.take k)) ∧ Below w.heap.size w wx) (fun _ s8 _ => n - (intOf s8).toNat)
  case atStart => exact ⟨0, 0, _, [], rfl, rfl, by omega, rfl, World.ownsRow_nil _ _ _ _, fun i b h => (by simp [ps.all] at h), Below.refl _ _⟩
  case round =>
    obtain ⟨k, N, v, xs, rfl, rfl, hk, hN, hown, hcps, hbw⟩ := hrel
    have HBW := Lib.hid hbw; clear hbw
    have HOWN := Lib.hid hown; clear hown
    have HCPS := Lib.hid hcps; clear hcps
    have hNn : N ≤ n := by
      have h := ps.all_len F (bs.take k)
      rw [List.length_take] at h
      omega
    have HNL := Lib.hid hN; clear hN
    by_cases hlt : k < n
    · have hlt' : (k : Int) < n := by omega
      obtain ⟨x, hx⟩ : ∃ x, bs[k]? = some x := ⟨_, List.getElem?_eq_getElem (by rw [HN.out]; exact hlt)⟩
      obtain ⟨b2, off2, v2, hA2, hb2, d0, d1, d2, d3, d4, d5, hrecs, i0', i1', i2', i3', i4'⟩ := HAT.out.at' hx
      subst hA2
      obtain ⟨A4, c4, V4, rfl, hmc, hc4, -⟩ := id hrecs
      obtain ⟨m, hm⟩ : ∃ m, m = x.recs.length := ⟨_, rfl⟩
      obtain ⟨hm1, hrs⟩ := HSM.out.1.2 x (List.mem_of_getElem? hx)
      have htx := HSM.out.2 x (List.mem_of_getElem? hx)
      rw [← hm] at d5 hmc hrecs hm1
      have hbw0 := HBB.out.trans (HBW.out.mono HBB.out.size)
      have e0 := (hbw0.cell (p := ⟨b2, off2 + k * 6, none⟩) hb2).trans d0
      have e1 := (hbw0.cell (p := ⟨b2, off2 + k * 6 + 1, none⟩) hb2).trans d1
      have e2 := (hbw0.cell (p := ⟨b2, off2 + k * 6 + 2, none⟩) hb2).trans d2
      have e3 := (hbw0.cell (p := ⟨b2, off2 + k * 6 + 3, none⟩) hb2).trans d3
      have e4 := (hbw0.cell (p := ⟨b2, off2 + k * 6 + 4, none⟩) hb2).trans d4
      have e5 := (hbw0.cell (p := ⟨b2, off2 + k * 6 + 5, none⟩) hb2).trans d5
      have HRECS := Lib.hid hrecs
      have HTX := Lib.hid (And.intro hrs htx); clear hrs htx
      have HX := Lib.hid (And.intro hx (And.intro hm (And.intro i0' (And.intro i1' (And.intro i2' (And.intro i3' i4')))))); clear hx hm i0' i1' i2' i3' i4' d0 d1 d2 d3 d4 d5 hrecs hbw0
      obtain ⟨Ar, cr, rfl, -, -⟩ := own_at HOWN.out
      have hrlt := HOWN.out.lt
      have hws := HBW.out.size
      obtain ⟨g, hg⟩ : ∃ g, g = wr.heap.size := ⟨_, rfl⟩
      obtain ⟨w3, hw3⟩ : ∃ w3, w3 = wr.alloc (.cells #[.int .i64 x.base, .int .i64 x.last, .int .i64 x.prod, .int .i64 x.epoch, .int .i64 x.seq, .slice A4 m c4] 46) := ⟨_, rfl⟩
      have hk3 : Blk w3 g 46 #[.int .i64 x.base, .int .i64 x.last, .int .i64 x.prod, .int .i64 x.epoch, .int .i64 x.seq, .slice A4 m c4] := by rw [hw3, hg]; exact Blk.new _ _ _
      have hb3 : Below wr.heap.size wr w3 := by rw [hw3]; exact (Below.refl _ _).alloc (Nat.le_refl _) _
      have hgw : w.heap.size ≤ g := by omega
      have hs3 : w3.heap.size = g + 1 := by rw [hw3, hg]; simp
      have c5' : w3.cell? ⟨g, 5, none⟩ = some (.slice A4 m c4) := hk3.cell 5 rfl
      have H3 := Lib.hid (And.intro hk3 hb3)
      have HG := Lib.hid (And.intro hg hw3); clear hk3 hb3 hg hw3
      go_upto_region 6 with fail
      rw [← HG.out.2, ← HG.out.1]
      clear e0 e1 e2 e3 e4 e5
      go_wp2_with fail
      rename_i KO hKO
          go_wp2_with fail
          go_wp2_with fail
      clear c5'
      obtain ⟨wo, rfl⟩ : ∃ wo : World, wo = wr := ⟨_, rfl⟩
      go_loopw [14, 15] (fun s10 s11 wy => ∃ (j M : Nat) (u : Value) (ys : List Value), u = s10 ∧ s11 = .int .i64 (j : Int) ∧ j ≤ m ∧ M = ((x.recs.take j).filter F).length ∧ wy.ownsRow (g + 1) 34 6 u M ys ∧ rc.Row wB ys ((x.recs.take j).filter F) ∧ Blk wy g 46 #[.int .i64 x.base, .int .i64 x.last, .int .i64 x.prod, .int .i64 x.epoch, .int .i64 x.seq, .slice A4 m c4] ∧ Below wo.heap.size wo wy) (fun _ s11 _ => m - (intOf s11).toNat)
      case atStart => exact ⟨0, 0, _, [], rfl, rfl, by omega, rfl, World.ownsRow_nil _ _ _ _, rc.Row.nil _, H3.out.1, H3.out.2⟩
      case round =>
        obtain ⟨j, M, u, ys, rfl, rfl, hj, hM, hrown, hrow, hblk, hby⟩ := hrel
        clear H3
        have HBLK := Lib.hid hblk; clear hblk
        have HROWN := Lib.hid hrown; clear hrown
        have HROW := Lib.hid hrow; clear hrow
        have HBY := Lib.hid hby; clear hby
        have HML := Lib.hid hM; clear hM
        have hMj : M ≤ j := by
          rw [HML.out]
          refine Nat.le_trans (List.length_filter_le _ _) ?_
          rw [List.length_take]
          omega
        have hgs : g + 1 ≤ wr.heap.size := HBLK.out.lt
        obtain ⟨Au, cu, rfl, -, -⟩ := own_at HROWN.out
        have hult := HROWN.out.lt
        have hug : (Value.slice Au M cu).ownBlock ≠ some g := HBLK.out.not_row (by decide) HROWN.out
        by_cases hjm : j < m
        · have hjm' : (j : Int) < m := by omega
          obtain ⟨y, hy⟩ : ∃ y, x.recs[j]? = some y := ⟨_, List.getElem?_eq_getElem (by rw [← HX.out.2.1]; exact hjm)⟩
          obtain ⟨pr, off, c', kv, vv, hA, -, -, hpr, d0, d1, d2, d3, d4, d5, hkv0, hvv0, hio, hti⟩ := HRECS.out.at' hy
          obtain ⟨rfl, rfl⟩ : A4 = some ⟨pr, off, none⟩ ∧ c4 = c' := by simp at hA; exact ⟨hA.1, hA.2.2⟩
          have hrec1 : RecR wB [.int .i64 y.off, .int .i64 y.time, .bool y.hasKey, kv, .bool y.hasVal, vv] y := ⟨kv, vv, rfl, hkv0, hvv0, hio, hti⟩
          obtain ⟨Ak, ck, rfl, hka, hk1, hk2, -⟩ := hkv0
          obtain ⟨Av, cv, rfl, -⟩ := hvv0
          obtain ⟨nk, hnk⟩ : ∃ nk, nk = y.key.length := ⟨_, rfl⟩
          obtain ⟨nv, hnv⟩ : ∃ nv, nv = y.val.length := ⟨_, rfl⟩
          rw [← hnk] at d3 hrec1 hka hk1
          rw [← hnv] at d5 hrec1
          have hb0 : Below w.heap.size w wr := HBW.out.trans (HBY.out.mono hws)
          have hbB0 : Below wB.heap.size wB wr := HBB.out.trans (hb0.mono HBB.out.size)
          have hty := HTX.out.2 y (List.mem_of_getElem? hy)
          have hcall := fun (wx : World) (hb : Below w.heap.size w wx) => HREC.out y Ak nk ck Av nv cv wx hb hnk.symm (Nat.le_trans hk1 hk2) (hka.below (HBB.out.trans (hb.mono HBB.out.size)) (Nat.le_refl _)) ⟨hty, hti.2⟩
          have HCALL := Lib.hid hcall; clear hcall hnk hnv hty hka hk1 hk2
          have e0 := (hbB0.cell (p := ⟨pr, off + j * 6, none⟩) hpr).trans d0
          have e1 := (hbB0.cell (p := ⟨pr, off + j * 6 + 1, none⟩) hpr).trans d1
          have e2 := (hbB0.cell (p := ⟨pr, off + j * 6 + 2, none⟩) hpr).trans d2
          have e3 := (hbB0.cell (p := ⟨pr, off + j * 6 + 3, none⟩) hpr).trans d3
          have e4 := (hbB0.cell (p := ⟨pr, off + j * 6 + 4, none⟩) hpr).trans d4
          have e5 := (hbB0.cell (p := ⟨pr, off + j * 6 + 5, none⟩) hpr).trans d5
          have HY := Lib.hid (And.intro hy hrec1); clear hy hrec1 d0 d1 d2 d3 d4 d5 hA hio hti
          have c5 : wr.cell? ⟨g, 5, none⟩ = some (.slice (some ⟨pr, off, none⟩) m c4) := HBLK.out.cell 5 rfl
          have hprw : pr < wr.heap.size := Nat.lt_of_lt_of_le hpr hbB0.size
          go_wp2_with fail
          refine (HCALL.out wr hb0).mono ?_
          rintro e w5 ⟨rfl, hb5⟩
          have hg5 : Blk w5 g 46 #[.int .i64 x.base, .int .i64 x.last, .int .i64 x.prod, .int .i64 x.epoch, .int .i64 x.seq, .slice (some ⟨pr, off, none⟩) m c4] := (hb5.block g hgs).trans HBLK.out
          have hr5 := (chg_of (P := fun _ => False) hb5).own HROWN.out fun _ _ h => h.elim
          have s0 := (hb5.cell (p := ⟨pr, off + j * 6, none⟩) hprw).trans e0
          have s1 := (hb5.cell (p := ⟨pr, off + j * 6 + 1, none⟩) hprw).trans e1
          have s2 := (hb5.cell (p := ⟨pr, off + j * 6 + 2, none⟩) hprw).trans e2
          have s3 := (hb5.cell (p := ⟨pr, off + j * 6 + 3, none⟩) hprw).trans e3
          have s4 := (hb5.cell (p := ⟨pr, off + j * 6 + 4, none⟩) hprw).trans e4
          have s5 := (hb5.cell (p := ⟨pr, off + j * 6 + 5, none⟩) hprw).trans e5
          have hpr5 : pr < w5.heap.size := Nat.lt_of_lt_of_le hprw hb5.size
          have k5 : w5.cell? ⟨g, 5, none⟩ = some (.slice (some ⟨pr, off, none⟩) m c4) := hg5.cell 5 rfl
          have H5 := Lib.hid (And.intro hg5 (And.intro hg5 (And.intro hr5 (HBY.out.trans (hb5.mono HBY.out.size))))); clear hg5 hr5 hb5 HCALL hb0 hbB0
          clear e0 e1 e2 e3 e4 e5 c5
          have hstay : ∀ t : Bool, F y = t → (x.recs.take (j + 1)).filter F = (x.recs.take j).filter F ++ if t = true then [y] else [] := fun t h => by rw [ps.recs_succ HY.out.1, h]
          have HST := Lib.hid hstay; clear hstay
          obtain ⟨t, ht⟩ : ∃ t, F y = t := ⟨_, rfl⟩
          rw [ht]
          have hsucc := HST.out t ht
          clear HST
          have HT := Lib.hid ht; clear ht
          cases t with
          | true =>
            rw [if_pos rfl] at hsucc
            have hrow2 : rc.Row wB (ys ++ [.int .i64 y.off, .int .i64 y.time, .bool y.hasKey, .slice Ak nk ck, .bool y.hasVal, .slice Av nv cv]) ((x.recs.take (j + 1)).filter F) := by
              rw [hsucc]
              exact HROW.out.append (rc.Row.one HY.out.2 rfl)
            have hM2 : M + 1 = ((x.recs.take (j + 1)).filter F).length := by rw [hsucc, List.length_append, ← HML.out]; rfl
            have HSU := Lib.hid (And.intro hrow2 hM2); clear hsucc hrow2 hM2
            have hb6 : Below w5.heap.size w5 (w5.alloc (.cells #[.int .i64 y.off, .int .i64 y.time, .bool y.hasKey, .slice Ak nk ck, .bool y.hasVal, .slice Av nv cv] 34)) := (Below.refl _ _).alloc (Nat.le_refl _) _
            have hg6 : Blk (w5.alloc (.cells #[.int .i64 y.off, .int .i64 y.time, .bool y.hasKey, .slice Ak nk ck, .bool y.hasVal, .slice Av nv cv] 34)) g 46 #[.int .i64 x.base, .int .i64 x.last, .int .i64 x.prod, .int .i64 x.epoch, .int .i64 x.seq, .slice (some ⟨pr, off, none⟩) m c4] := (hb6.block g H5.out.2.1.lt).trans H5.out.2.1
            have hs5 : g + 1 ≤ w5.heap.size := H5.out.2.1.lt
            have H6 := Lib.hid (And.intro hg6 (And.intro (H5.out.2.2.1.alloc (.cells #[.int .i64 y.off, .int .i64 y.time, .bool y.hasKey, .slice Ak nk ck, .bool y.hasVal, .slice Av nv cv] 34)) (H5.out.2.2.2.trans (hb6.mono H5.out.2.2.2.size)))); clear hg6 hb6
            go_wp2_with (at_builtin; go_loud (refine wpList_append_own_at _ rfl (.tmp 43) (.tmp 49) 44 rfl (g + 1) 34 j0 _ 6 80 Try.underlying44 HJ.out.1 HJ.out.2.1 HJ.out.2.2.1 HJ.out.2.2.2 rfl (by decide) (.slice Au M cu) M ys rfl H6.out.2.1 ⟨w5.heap.size, 0, none⟩ 1 1 [.int .i64 y.off, .int .i64 y.time, .bool y.hasKey, .slice Ak nk ck, .bool y.hasVal, .slice Av nv cv] rfl rfl (cells_new _ [.int .i64 y.off, .int .i64 y.time, .bool y.hasKey, .slice Ak nk ck, .bool y.hasVal, .slice Av nv cv] _ _ rfl) (by simp [Value.oneCell']) (by unfold maxLen; omega) (by omega) (by simp; omega) ?_; intro v2 w9 h1 h2 _ h3; have H9 := Lib.hid (And.intro h1 (And.intro ((Chg.grown h2).blk H6.out.1 hug) (H6.out.2.2.grown h2 (by simp; have := H5.out.2.2.2.size; omega) (fun q' hq' => by have := (hult q' hq').1; have := HG.out.1; omega)))); clear h1 h2 h3))
            go_wp2_with fail
            go_roundw
            case rel => exact ⟨j + 1, M + 1, v2, _, rfl, by go_num, by omega, HSU.out.2, H9.out.1, HSU.out.1, H9.out.2.1, H9.out.2.2⟩
            case measure => simp [intOf]; omega
          | false =>
            rw [if_neg (by decide), List.append_nil] at hsucc
            have HSU := Lib.hid hsucc; clear hsucc
            go_wp2_with fail
            go_roundw
            case rel => exact ⟨j + 1, M, _, ys, rfl, by go_num, by omega, by rw [HSU.out]; exact HML.out, H5.out.2.2.1, by rw [HSU.out]; exact HROW.out, H5.out.2.1, H5.out.2.2.2⟩
            case measure => simp [intOf]; omega
        · obtain rfl : j = m := by omega
          have hfull : (ps.cut F x).recs = (x.recs.take j).filter F := by
            rw [List.take_of_length_le (by rw [← HX.out.2.1]; exact Nat.le_refl _)]
            rfl
          have hts := ps.take_succ (F := F) HX.out.1
          rw [hfull, ← HML.out] at hts
          have HTS := Lib.hid (And.intro hts hfull); clear hts hfull
          have c5 : wr.cell? ⟨g, 5, none⟩ = some (.slice A4 j c4) := HBLK.out.cell 5 rfl
          have f5 := HBLK.out.frozen 5
          obtain ⟨w4, hw4⟩ : ∃ w4, w4 = wr.setCell ⟨g, 5, none⟩ (.slice Au M cu) := ⟨_, rfl⟩
          have hc4 : Chg wr w4 (fun k => k = g) := by rw [hw4]; exact Chg.setCell _ _ _ _
          have hk4 : Blk w4 g 46 #[.int .i64 x.base, .int .i64 x.last, .int .i64 x.prod, .int .i64 x.epoch, .int .i64 x.seq, .slice Au M cu] := by rw [hw4]; exact HBLK.out.set 5 _
          have hb4 : Below wo.heap.size wo w4 := HBY.out.trans (hc4.below HBY.out.size fun k hk => by have hk : k = g := hk; have := HG.out.1; omega)
          have hr4 : w4.ownsRow (g + 1) 34 6 (.slice Au M cu) M ys := hc4.own HROWN.out fun q' hq' hh => by have hh : q' = g := hh; rw [hh] at hq'; exact hug hq'
          have H4 := Lib.hid (And.intro hk4 (And.intro hb4 hr4)); clear hc4 hk4 hb4 hr4
          have HW4 := Lib.hid hw4; clear hw4
          go_upto_region 13 with fail
          rw [← HW4.out]
          clear c5 f5 HBLK HBY HROWN HW4
          by_cases hM0 : 0 < M
          · have hM0' : (0 : Int) < (M : Int) := by omega
            have hb1 : Below wo.heap.size wo w4 := H4.out.2.1
            obtain ⟨w5, hw5⟩ : ∃ w5, w5 = w4.alloc (.cells #[.int .i64 x.base, .int .i64 x.last, .int .i64 x.prod, .int .i64 x.epoch, .int .i64 x.seq, .slice Au M cu] 46) := ⟨_, rfl⟩
            have hb45 : Below w4.heap.size w4 w5 := by rw [hw5]; exact (Below.refl _ _).alloc (Nat.le_refl _) _
            have hb15 : Below wo.heap.size wo w5 := hb1.trans (hb45.mono hb1.size)
            have hs5 : w5.heap.size = w4.heap.size + 1 := by rw [hw5]; simp
            have hs1 := hb1.size
            have hown5 := (chg_of (P := fun _ => False) hb15).own HOWN.out fun _ _ h => h.elim
            have hcps5 : cz.Cps (fun q => q < wB.heap.size ∨ w.heap.size ≤ q) w5 (.slice Ar N cr) xs (ps.all F (bs.take k)) := fun i b hi => (HCPS.out i b hi).below hb15
            have hrow := HROW.out
            rw [← HTS.out.2] at hrow
            have hdep := rs.dep hrow (HBB.out.trans ((HBW.out.trans (hb1.mono hws)).mono HBB.out.size)) (by rw [HTS.out.2]; exact HML.out.symm) H4.out.2.2
            have hcp5 : cz.Cp (fun q => q < wB.heap.size ∨ w.heap.size ≤ q) w5 (.slice Ar N cr) [.int .i64 x.base, .int .i64 x.last, .int .i64 x.prod, .int .i64 x.epoch, .int .i64 x.seq, .slice Au M cu] (ps.cut F x) := by
              refine ⟨_, rfl, (hdep.below hb45).weak fun q' hq' _ => ⟨?_, fun e => ?_⟩, HX.out.2.2⟩
              · rcases hq' with h2 | h2
                · exact .inl h2
                · have := (hult q' h2).1
                  exact .inr (by omega)
              · have h1 := hrlt q' e
                rcases hq' with h2 | h2
                · omega
                · have := (hult q' h2).1
                  have := HG.out.1
                  omega
            have hxl := hown5.1
            have happ : ∀ v2 w9, w9.ownsRow w.heap.size 46 6 v2 (N + 1) (xs ++ [.int .i64 x.base, .int .i64 x.last, .int .i64 x.prod, .int .i64 x.epoch, .int .i64 x.seq, .slice Au M cu]) → w5.grownBy w9 (Value.slice Ar N cr).ownBlock → (v2.ownBlock = (Value.slice Ar N cr).ownBlock ∨ v2.ownBlock = some w5.heap.size) →
                N + 1 = (ps.all F (bs.take (k + 1))).length ∧ cz.Cps (fun q => q < wB.heap.size ∨ w.heap.size ≤ q) w9 v2 (xs ++ [.int .i64 x.base, .int .i64 x.last, .int .i64 x.prod, .int .i64 x.epoch, .int .i64 x.seq, .slice Au M cu]) (ps.all F (bs.take (k + 1))) ∧ Below w.heap.size w w9 := fun v2 w9 h1 h2 h3 => by
              rw [HTS.out.1, if_pos hM0]
              refine ⟨by rw [List.length_append, ← HNL.out]; rfl, hcps5.snoc (by rw [← HNL.out]; exact hxl) hcp5 rfl h2 h3, (HBW.out.trans (hb15.mono hws)).grown h2 (by omega) (fun q' hq' => (hrlt q' hq').1)⟩
            have HAPP := Lib.hid happ; clear happ hcps5 hcp5 hxl hrow hdep
            have HOWN5 := Lib.hid hown5; clear hown5 hb45 hb15 hb1
            have l0 := H4.out.1.cell 0 rfl
            have l1 := H4.out.1.cell 1 rfl
            have l2 := H4.out.1.cell 2 rfl
            have l3 := H4.out.1.cell 3 rfl
            have l4 := H4.out.1.cell 4 rfl
            have l5 := H4.out.1.cell 5 rfl
            rw [hw5] at HAPP HOWN5 hs5
            clear hw5
            go_wp2_with (at_builtin; go_loud (refine wpList_append_own_at _ rfl (.tmp 56) (.tmp 58) 31 rfl w.heap.size 46 i0 _ 6 64 Try.underlying31 HI.out.1 HI.out.2.1 HI.out.2.2.1 HI.out.2.2.2 rfl (by decide) (.slice Ar N cr) N xs rfl HOWN5.out ⟨w4.heap.size, 0, none⟩ 1 1 [.int .i64 x.base, .int .i64 x.last, .int .i64 x.prod, .int .i64 x.epoch, .int .i64 x.seq, .slice Au M cu] rfl rfl (cells_new _ [.int .i64 x.base, .int .i64 x.last, .int .i64 x.prod, .int .i64 x.epoch, .int .i64 x.seq, .slice Au M cu] _ _ rfl) (by simp [Value.oneCell']) (by unfold maxLen; omega) (by omega) (by rw [hs5]; omega) ?_; intro v2 w9 h1 h2 _ h3; have HN2 := Lib.hid (And.intro h1 (HAPP.out v2 w9 h1 h2 h3)); clear h1 h2 h3))
            go_wp2_with fail
            go_roundw
            case rel => exact ⟨k + 1, N + 1, v2, _, rfl, by go_num, by omega, HN2.out.2.1, HN2.out.1, HN2.out.2.2.1, HN2.out.2.2.2⟩
            case measure => simp [intOf]; omega
          · obtain rfl : M = 0 := by omega
            have hall : ps.all F (bs.take (k + 1)) = ps.all F (bs.take k) := by rw [HTS.out.1, if_neg (by omega), List.append_nil]
            have HALL := Lib.hid hall; clear hall hM0
            go_wp2_with fail
            go_roundw
            case rel => exact ⟨k + 1, N, .slice Ar N cr, xs, rfl, by go_num, by omega, by rw [HALL.out]; exact HNL.out, (chg_of (P := fun _ => False) H4.out.2.1).own HOWN.out fun _ _ h => h.elim, by rw [HALL.out]; exact fun i b hi => (HCPS.out i b hi).below H4.out.2.1, HBW.out.trans (H4.out.2.1.mono hws)⟩
            case measure => simp [intOf]; omega
    · obtain rfl : k = n := by omega
      have hcps := HCPS.out
      have hN := HNL.out
      rw [List.take_of_length_le (by rw [HN.out]; exact Nat.le_refl _)] at hcps hN
      obtain ⟨A9, c9, rfl, h1, h2, h3⟩ := hcps.dep (fun q h => .inr h) hN.symm HOWN.out
      have H9 := Lib.hid (And.intro hN (And.intro h1 (And.intro h2 h3))); clear h1 h2 h3 hcps hN
      go_wp2_with fail
      go_ret
      exact ⟨A9, c9, by rw [← H9.out.1]; rfl, by rw [← H9.out.1]; exact H9.out.2.1, H9.out.2.2.1, H9.out.2.2.2, HBW.out⟩
theorem cr.segment_any (A : Option Addr) (n c : Nat) (bs : List Bat) (w0 : World) (p : Nat) (most : Int) (lm : List PItm) (upto now grace : Int) (w : World) (hat : BatsAt w A bs) (hn : bs.length = n) (hsm : fo.Small bs) (htm : ∀ x ∈ bs, ∀ r ∈ x.recs, 0 ≤ r.time) (hkm : RMapAt w0 w p most lm) (h0w : Below w0.heap.size w0 w) (hlm : lm.length ≤ 10000)
    (hnow : 0 ≤ now ∧ now ≤ 9223372036854775807) (hgr : 0 ≤ grace ∧ grace ≤ 9223372036854775807) :
    Calls Try.prog 19 #[.slice A n c, .pointer (some ⟨p, 0, none⟩), .int .i64 upto, .int .i64 now, .int .i64 grace] w (fr.Post (ps.all (cl.stays (pf.look lm) upto now grace) bs) w) :=
  (cr.segment_dep A n c bs w0 p most lm upto now grace w w (Below.refl _ _) hat hn hsm htm hkm h0w hlm hnow hgr).mono fun _ _ h => h.fr
theorem KM.keepRef {w0 w w' : World} {p b r N : Nat} {most m2 : Int} {l : List PItm} {g : ByteArray → Option Int} (h : KM w p b most N g) (hc : Chg w w' (fun k => k = r)) (hr : RMapAt w0 w r m2 l) : KM w' p b most N g := by
  obtain ⟨v, h1, -⟩ := hr
  refine ⟨hc.blk h.blk fun e => ?_, h.map.chg hc fun e => h.map.not_blk h1 e.symm⟩
  subst e
  have := h1.symm.trans h.blk
  simp at this

/-- What is offered keeps no value, and is no longer than its key. -/
theorem pf.offer_all {P : PItm → Prop} {l : List PItm} {most : Int} {x : PItm} (h : ∀ y ∈ l, P y) (hx : ∀ o, P { x with off := o }) : ∀ y ∈ pf.offer l most x, P y := by
  intro y hy
  unfold pf.offer at hy
  split at hy
  · rcases pf.put_mem hy with rfl | hy
    · unfold pf.raise
      split
      · exact hx _
      · exact hx x.off
    · exact h y hy
  · exact h y hy
/-- The worlds in which all that stands in w stands still. -/
def Under (w : World) : Type := { wx : World // Below w.heap.size w wx }
instance Under.nonempty (w : World) : Nonempty (Under w) := ⟨⟨w, Below.refl _ _⟩⟩
theorem under_of {w w' : World} (h : Below w.heap.size w w') : ∃ x : Under w, w' = x.1 := ⟨⟨w', h⟩, rfl⟩
theorem key.cnt_up (N : Nat) (M : Int) (g : ByteArray → Option Int) (s : ByteArray) : key.cnt N M g s ≤ N + 1 := by
  unfold key.cnt
  split
  · omega
  · split <;> omega
theorem RMapAt.cell {w0 w : World} {r : Nat} {most : Int} {l : List PItm} (h : RMapAt w0 w r most l) : ∃ A c, PAt w A l ∧ ∀ x : Under w, x.1.cell? ⟨r, 1, none⟩ = some (.slice A l.length c) := by
  obtain ⟨v, h1, h2, h3⟩ := h
  obtain ⟨A, c, rfl, hnc, hat⟩ := own_at h2
  exact ⟨A, c, hat, fun x => (x.2.cell (p := ⟨r, 1, none⟩) h1.lt).trans (h1.cell 1 rfl)⟩
theorem RMapAt.keepRef {w0 w w' : World} {r r2 : Nat} {most m2 : Int} {l l2 : List PItm} (h : RMapAt w0 w r most l) (hc : Chg w w' (fun k => k = r2)) (hr : RMapAt w0 w r2 m2 l2) (hne : r ≠ r2) : RMapAt w0 w' r most l := by
  obtain ⟨v, h1, h2, h3⟩ := h
  obtain ⟨v2, g1, -⟩ := hr
  refine ⟨v, hc.blk h1 hne, hc.own h2 fun k hk e => ?_, h3⟩
  rcases h2.2 with ⟨rfl, _⟩ | ⟨gg, cap, cur, rfl, _, hg, _⟩
  · cases hk
  · obtain rfl : gg = k := by simpa [Value.ownBlock] using hk
    have he : gg = r2 := e
    subst he
    have := g1.symm.trans (show Blk w gg 95 cur from hg)
    simp at this
theorem RMapAt.open {w0 w : World} {r : Nat} {most : Int} {l : List PItm} (h : RMapAt w0 w r most l) :
    ∃ A c, Blk w r 80 #[.int .i64 most, .slice A l.length c] ∧ w.ownsRow 0 95 3 (.slice A l.length c) l.length (pf.row l) ∧ ∀ x ∈ l, PBytes w0 x := by
  obtain ⟨v, h1, h2, h3⟩ := h
  have hv := own_at h2
  obtain ⟨A, c, rfl, -, -⟩ := hv
  exact ⟨A, c, h1, h2, h3⟩

/-- What the reference's Build answers. -/
def rb.Post (f M : Int) (bs : List Bat) (w : World) (e : Ending) (w' : World) : Prop :=
  (∃ r l, e = .returned (.tuple #[.pointer (some ⟨r, 0, none⟩), .int .i64 (kb.go f M 0 (fun _ => none) f bs).2.2]) ∧ RMapAt w w' r M l ∧ MapIs (kb.go f M 0 (fun _ => none) f bs).1 (kb.go f M 0 (fun _ => none) f bs).2.1 l ∧ (∀ x ∈ l, x.vs = [] ∧ x.bs.length ≤ 10000) ∧ l.length ≤ 10000) ∧ Below w.heap.size w w'

set_option maxRecDepth 100000 in
set_option maxHeartbeats 4000000 in
theorem rb.build_any (A : Option Addr) (bs : List Bat) (n c : Nat) (f most M : Int) (w : World) (hat : BatsAt w A bs) (hn : bs.length = n) (hn1 : n ≤ 1000000) (hlast : ∀ b ∈ bs, b.last ≤ 4611686018427387904) (hflat : (rc.flat bs).length ≤ 10000 ∧ ∀ r ∈ rc.flat bs, r.key.length ≤ 10000) (hM : kb.Most most M) :
    Calls Try.prog 15 #[.slice A n c, .int .i64 f, .int .i64 most] w (rb.Post f M bs w) := by
  have HAT := Lib.hid hat; clear hat
  have HLA := Lib.hid hlast; clear hlast
  have HN := Lib.hid hn; clear hn
  have HFL := Lib.hid hflat; clear hflat
  unfold kb.Most at hM
  have hm1 : 1 ≤ M := by omega
  have hm2 : M ≤ 1000000 := by omega
  obtain ⟨R, hR⟩ : ∃ R, R = kb.go f M 0 (fun _ => none) f bs := ⟨_, rfl⟩
  obtain ⟨NR, gR, uR⟩ := R
  have hfin : ∀ (r : Nat) (l : List PItm) w', RMapAt w w' r M l → MapIs NR gR l → (∀ x ∈ l, x.vs = [] ∧ x.bs.length ≤ 10000) → NR ≤ 10000 → Below w.heap.size w w' → rb.Post f M bs w (.returned (.tuple #[.pointer (some ⟨r, 0, none⟩), .int .i64 uR])) w' := fun r l w' h1 h2 h3 h4 h5 => by
    unfold rb.Post
    rw [← hR]
    exact ⟨⟨r, l, rfl, h1, h2, h3, by rw [← h2.len]; exact h4⟩, h5⟩
  have HFIN := Lib.hid hfin; clear hfin
  have HR := Lib.hid hR; clear hR
  have hMX : min (max most 1) 1000000 = M := hM.symm
  clear hM
  go_enter Try.func15, Try.ntmps15
  go_wp2_with fail
  clear hMX
  obtain ⟨w1, hw1⟩ : ∃ w1, w1 = w.alloc (.cells #[.int .i64 M, .slice none 0 0] 80) := ⟨_, rfl⟩
  rw [← hw1]
  have hb1 : Below w.heap.size w w1 := by rw [hw1]; exact (Below.refl _ _).alloc (Nat.le_refl _) _
  have hr1 : RMapAt w w1 w.heap.size M [] := ⟨.slice none 0 0, by rw [hw1]; exact Blk.new _ _ _, World.ownsRow_nil _ _ _ _, by simp⟩
  obtain ⟨r0, hr0⟩ : ∃ r0, r0 = w.heap.size := ⟨_, rfl⟩
  rw [← hr0] at hr1 ⊢
  have HR1 := Lib.hid (And.intro hr1 hb1); clear hr1 hb1 hw1 hr0
  go_loopg [8, 9, 10] n (fun gas s8 s9 s10 wx => ∃ (k N : Nat) (gg : ByteArray → Option Int) (up : Int) (r : Nat) (l : List PItm), k + gas = n ∧ s8 = .pointer (some ⟨r, 0, none⟩) ∧ s9 = .int .i64 up ∧ s10 = .int .i64 (k : Int) ∧ kb.go f M N gg up (bs.drop k) = (NR, gR, uR) ∧ RMapAt w wx r M l ∧ MapIs N gg l ∧ (∀ x ∈ l, x.vs = [] ∧ x.bs.length ≤ 10000) ∧ N ≤ (rc.flat (bs.take k)).length ∧ (N : Int) ≤ M ∧ Below w.heap.size w wx)
  case atStart => exact ⟨0, 0, fun _ => none, f, r0, [], by omega, rfl, rfl, rfl, HR.out.symm, HR1.out.1, MapIs.nil, by simp, by omega, by omega, HR1.out.2⟩
  case round =>
    obtain ⟨k, N, gg, up, r, l, hkg, rfl, rfl, rfl, hgo, hrm, his, hall, hNf, hNM, hbw⟩ := hrel
    have HGO := Lib.hid hgo; clear hgo HR HR1
    have HRM := Lib.hid hrm; clear hrm
    have HIS := Lib.hid his; clear his
    have HALL := Lib.hid hall; clear hall
    have HBW := Lib.hid hbw; clear hbw
    cases gk with
    | zero =>
      obtain rfl : k = n := by omega
      have hgo := HGO.out
      rw [List.drop_of_length_le (by rw [HN.out]; exact Nat.le_refl _)] at hgo
      rw [List.take_of_length_le (by rw [HN.out]; exact Nat.le_refl _)] at hNf
      have hq : N = NR ∧ gg = gR ∧ up = uR := by simpa [kb.go] using hgo
      obtain ⟨rfl, rfl, rfl⟩ := hq
      have hN2 : N ≤ 10000 := Nat.le_trans hNf HFL.out.1
      clear hgo HGO hNf
      go_wp2_with fail
      (try rw [Exit.noGoto_ret])
      go_ret2
      exact HFIN.out r l wr HRM.out HIS.out HALL.out hN2 HBW.out
    | succ gas =>
      have hkn : k < n := by omega
      obtain ⟨x, hx⟩ : ∃ x, bs[k]? = some x := ⟨_, List.getElem?_eq_getElem (by rw [HN.out]; exact hkn)⟩
      have hla := HLA.out x (List.mem_of_getElem? hx)
      have hgd := HGO.out
      rw [kb.go_drop hx] at hgd
      have hft := rc.flat_take hx
      have hxm : ∀ y ∈ x.recs, y.key.length ≤ 10000 := fun y hy => HFL.out.2 y (by
        unfold rc.flat
        exact List.mem_flatten.2 ⟨x.recs, List.mem_map.2 ⟨x, List.mem_of_getElem? hx, rfl⟩, hy⟩)
      have hfl2 : (rc.flat (bs.take (k + 1))).length ≤ 10000 := by
        have h1 := HFL.out.1
        have h2 : bs = bs.take (k + 1) ++ bs.drop (k + 1) := (List.take_append_drop _ _).symm
        rw [h2] at h1
        unfold rc.flat at h1 ⊢
        rw [List.map_append, List.flatten_append, List.length_append] at h1
        omega
      rw [hft, List.length_append] at hfl2
      obtain ⟨F0, hF0⟩ : ∃ F0, F0 = (rc.flat (bs.take k)).length := ⟨_, rfl⟩
      rw [← hF0] at hfl2 hNf
      obtain ⟨b2, off2, v2, hA2, hb2, c0, c1, c2, c3, c4', c5, hrecs, hi0, hi1, -⟩ := HAT.out.at' hx
      subst hA2
      obtain ⟨A4, c4, V4, rfl, hmc, hc4, -⟩ := id hrecs
      obtain ⟨m, hm⟩ : ∃ m, m = x.recs.length := ⟨_, rfl⟩
      have HRECS := Lib.hid hrecs; clear hrecs
      rw [← hm] at c5 hmc hfl2
      have hft2 : (rc.flat (bs.take (k + 1))).length = F0 + m := by rw [hft, List.length_append, hF0, hm]
      have HFT := Lib.hid hft2; clear hft hft2 hF0
      have HXM := Lib.hid hxm; clear hxm
      have HM := Lib.hid hm; clear hm hx
      have HGD := Lib.hid hgd; clear hgd HGO
      unfold i64ok at hi0 hi1
      have hbw0 := HBW.out
      have e0 : wr.cell? ⟨b2, off2 + k * 6, none⟩ = some (.int .i64 x.base) := (hbw0.cell (p := ⟨b2, off2 + k * 6, none⟩) hb2).trans c0
      have e1 : wr.cell? ⟨b2, off2 + k * 6 + 1, none⟩ = some (.int .i64 x.last) := (hbw0.cell (p := ⟨b2, off2 + k * 6 + 1, none⟩) hb2).trans c1
      have e2 : wr.cell? ⟨b2, off2 + k * 6 + 2, none⟩ = some (.int .i64 x.prod) := (hbw0.cell (p := ⟨b2, off2 + k * 6 + 2, none⟩) hb2).trans c2
      have e3 : wr.cell? ⟨b2, off2 + k * 6 + 3, none⟩ = some (.int .i64 x.epoch) := (hbw0.cell (p := ⟨b2, off2 + k * 6 + 3, none⟩) hb2).trans c3
      have e4 : wr.cell? ⟨b2, off2 + k * 6 + 4, none⟩ = some (.int .i64 x.seq) := (hbw0.cell (p := ⟨b2, off2 + k * 6 + 4, none⟩) hb2).trans c4'
      have e5 : wr.cell? ⟨b2, off2 + k * 6 + 5, none⟩ = some (.slice A4 m c4) := (hbw0.cell (p := ⟨b2, off2 + k * 6 + 5, none⟩) hb2).trans c5
      clear c0 c1 c2 c3 c4' c5 hbw0
      go_upto_region 7 with fail
      obtain ⟨q, hq⟩ : ∃ q, q = wr.heap.size := ⟨_, rfl⟩
      obtain ⟨ws, hws⟩ : ∃ ws, ws = wr.alloc (.cells #[.int .i64 x.base, .int .i64 x.last, .int .i64 x.prod, .int .i64 x.epoch, .int .i64 x.seq, .slice A4 m c4] 46) := ⟨_, rfl⟩
      rw [← hws, ← hq]
      have hbs : Below wr.heap.size wr ws := by rw [hws]; exact (Below.refl _ _).alloc (Nat.le_refl _) _
      have hks : Blk ws q 46 #[.int .i64 x.base, .int .i64 x.last, .int .i64 x.prod, .int .i64 x.epoch, .int .i64 x.seq, .slice A4 m c4] := by rw [hws, hq]; exact Blk.new wr _ _
      have hrs := HRM.out.below hbs
      have hbw2 := HBW.out.trans (hbs.mono HBW.out.size)
      have hrq : r < q := by rw [hq]; exact HRM.out.lt
      obtain ⟨A5, c5, hk5, ho5, hby5⟩ := hrs.open
      have q0 : ∀ x : Under ws, x.1.cell? ⟨r, 0, none⟩ = some (.int .i64 M) := fun x => (x.2.cell (p := ⟨r, 0, none⟩) hrs.lt).trans (hk5.cell 0 rfl)
      have q1 : ∀ x : Under ws, x.1.cell? ⟨r, 1, none⟩ = some (.slice A5 l.length c5) := fun x => (x.2.cell (p := ⟨r, 1, none⟩) hrs.lt).trans (hk5.cell 1 rfl)
      have qd : ws.drew.cell? ⟨r, 1, none⟩ = some (.slice A5 l.length c5) := q1 ⟨ws.drew, bdrew (Below.refl _ _) 1⟩
      have qs : ws.cell? ⟨r, 1, none⟩ = some (.slice A5 l.length c5) := q1 ⟨ws, Below.refl _ _⟩
      obtain ⟨ll, hll⟩ : ∃ ll, ll = l.length := ⟨_, rfl⟩
      rw [← hll] at q1 qd qs ho5
      have HLL := Lib.hid hll; clear hll
      have HO5 := Lib.hid (And.intro ho5 hby5); clear ho5 hby5 hk5
      have HWS := Lib.hid (And.intro hks (And.intro hrs hbw2)); clear hks hrs hbw2 hbs hws hq e0 e1 e2 e3 e4 e5 HRM HBW
      have hS0 : ∃ x : Under ws, ws.drew = x.1 := under_of (bdrew (Below.refl _ _) 1)
      refine wp_plan (S := fun w0 => ∃ x : Under ws, w0 = x.1) (by kernel_rfl) hS0 ?_
      intro hS K5 hK5
      have HS := Lib.hid hS; clear hS hS0
      refine plan_group [true, true, true, true, true, true, true] [0, 1, 2, 3, 4, 5, 6] 4 (by dsimp only [sel]) (by rfl) rfl (by kernel_rfl) (by kernel_rfl) HS.out ?_
      (repeat go_big_quiet_step (fail)); refine wpQuiet_nil ?_
      clear q0 q1
      refine plan_one [false, false, false, false, false, false, false, true] 7 3 (by dsimp only [sel]) (by rfl) rfl (by kernel_rfl) ?_; intro K1 hK1; go_wp2_with fail
      refine ⟨HS.out, ?_⟩
      refine plan_one [false, false, false, false, false, false, false, false, true] 8 2 (by dsimp only [sel]) (by rfl) rfl (by kernel_rfl) ?_; intro K1 hK1; go_wp2_with fail
      refine ⟨HS.out, ?_⟩
      refine plan_one [false, false, false, false, false, false, false, false, false, true] 9 1 (by dsimp only [sel]) (by rfl) rfl (by kernel_rfl) ?_; intro K1 hK1; go_wp2_with fail
      obtain ⟨q3, hq3⟩ : ∃ q3, q3 = ws.heap.size := ⟨_, rfl⟩
      obtain ⟨w3, hw3⟩ : ∃ w3, w3 = (ws.alloc (.cells #[.int .i64 M, .slice A5 ll c5] 80)).drew := ⟨_, rfl⟩
      rw [← hw3]
      have hb3 : Below ws.heap.size ws w3 := by rw [hw3]; exact bdrew ((Below.refl _ _).alloc (Nat.le_refl _) _) 1
      have hr3 : RMapAt w w3 q3 M l := ⟨.slice A5 ll c5, by rw [hw3, hq3]; exact Blk.drew (Blk.new ws _ _) 1, by rw [← HLL.out]; exact (chg_of (P := fun _ => False) hb3).own HO5.out.1 fun _ _ h => h.elim, HO5.out.2⟩
      have hqq : q < q3 := by rw [hq3]; exact HWS.out.1.lt
      have hwq3 : w.heap.size ≤ q3 := by rw [hq3]; exact HWS.out.2.2.size
      have hk3 : Blk w3 q 46 #[.int .i64 x.base, .int .i64 x.last, .int .i64 x.prod, .int .i64 x.epoch, .int .i64 x.seq, .slice A4 m c4] := by
        have h1 : Blk ws q 46 #[.int .i64 x.base, .int .i64 x.last, .int .i64 x.prod, .int .i64 x.epoch, .int .i64 x.seq, .slice A4 m c4] := HWS.out.1
        exact (hb3.block q h1.lt).trans h1
      have HW3 := Lib.hid (And.intro hr3 (And.intro (HWS.out.2.1.below hb3) (And.intro hk3 (HWS.out.2.2.trans (hb3.mono HWS.out.2.2.size))))); clear hr3 hk3
      have HU3 := Lib.hid (show ∃ x : Under ws, w3 = x.1 from under_of hb3)
      have HQ3 := Lib.hid hq3
      clear qd qs hb3 hw3 hq3 HO5 HLL HWS
      refine ⟨HU3.out, ?_⟩
      refine plan_group [false, false, false, false, false, false, false, false, false, false, true] [10] 0 (by dsimp only [sel]) (by rfl) rfl (by kernel_rfl) (by kernel_rfl) HU3.out ?_
      (repeat go_big_quiet_step (fail)); refine wpQuiet_nil ?_
      refine wp_plan_end (by kernel_rfl) ?_
      rw [← HQ3.out]
      clear HQ3
      go_wp2_with fail
      go_loopg [13] m (fun gas2 s13 wx => ∃ (j N2 : Nat) (g2 : ByteArray → Option Int) (l2 : List PItm), j + gas2 = m ∧ s13 = .int .i64 (j : Int) ∧ bd.Mid f M N gg x.recs j N2 g2 ∧ RMapAt w wx q3 M l2 ∧ RMapAt w wx r M l ∧ Blk wx q 46 #[.int .i64 x.base, .int .i64 x.last, .int .i64 x.prod, .int .i64 x.epoch, .int .i64 x.seq, .slice A4 m c4] ∧ MapIs N2 g2 l2 ∧ (∀ y ∈ l2, y.vs = [] ∧ y.bs.length ≤ 10000) ∧ N2 ≤ F0 + j ∧ Below w.heap.size w wx)
      case atStart => exact ⟨0, N, gg, l, by omega, rfl, bd.Mid.zero hNM, HW3.out.1, HW3.out.2.1, HW3.out.2.2.1, HIS.out, HALL.out, by omega, HW3.out.2.2.2⟩
      case round =>
        obtain ⟨j, N2, g2, l2, hjg, rfl, hmid, hrx, hrm, hblk, hisx, hallx, hNj, hby⟩ := hrel
        clear HW3 HS HU3
        have HMID := Lib.hid hmid; clear hmid
        have HRX := Lib.hid hrx; clear hrx
        have HRM := Lib.hid hrm; clear hrm
        have HISX := Lib.hid hisx; clear hisx
        have HALX := Lib.hid hallx; clear hallx
        have HBY := Lib.hid hby; clear hby
        have hbk5 := hblk.cell 5 (v := .slice A4 m c4) rfl
        have hbk1 := hblk.cell 1 (v := .int .i64 x.last) rfl
        have hqz : q < wr.heap.size := hblk.lt
        have HBLK := Lib.hid hblk; clear hblk
        cases gk with
        | zero =>
          as_aux_lemma =>
            obtain rfl : m = j := by omega
            obtain ⟨hs, hof⟩ := HMID.out.done HM.out
            have hgd := HGD.out
            rw [if_pos hs, hof] at hgd
            dsimp only at hgd
            obtain ⟨U, hU⟩ : ∃ U, max f (x.last + 1) = U := ⟨_, rfl⟩
            have hU2 : max (x.last + 1) f = U := by omega
            rw [hU2] at hgd
            clear hs hof hU2
            have HG2 := Lib.hid hgd; clear hgd HGD
            have hle := HMID.out.le
            have hft : N2 ≤ (rc.flat (bs.take (k + 1))).length := by rw [HFT.out]; exact hNj
            have HF2 := Lib.hid hft; clear hft
            go_wp2_with fail
            go_roundg gas
            case measure => omega
            case rel => exact ⟨k + 1, N2, g2, U, q3, l2, by omega, rfl, by first | rfl | (rw [hU]), by go_num, HG2.out, HRX.out, HISX.out, HALX.out, HF2.out, hle, HBY.out⟩
        | succ gas3 =>
          have hjm : j < m := by omega
          obtain ⟨y, hy⟩ : ∃ y, x.recs[j]? = some y := ⟨_, List.getElem?_eq_getElem (by rw [← HM.out]; exact hjm)⟩
          have hkl := HXM.out y (List.mem_of_getElem? hy)
          have HY := Lib.hid hy
          obtain ⟨pr, off, c', kv, vv, hA, -, -, hpr, d0, d1, d2, d3, d4, d5, hkk, hvv, hio, -⟩ := HRECS.out.at' hy
          obtain ⟨rfl, rfl⟩ : A4 = some ⟨pr, off, none⟩ ∧ c4 = c' := by simpa using hA
          obtain ⟨Ak, ck, rfl, hka, hk1, hk2, -⟩ := hkk
          obtain ⟨Av, cv, rfl, -, -, -, -⟩ := hvv
          have hby0 := HBY.out
          have e0 : wr.cell? ⟨pr, off + j * 6, none⟩ = some (.int .i64 y.off) := (hby0.cell (p := ⟨pr, off + j * 6, none⟩) hpr).trans d0
          have e1 : wr.cell? ⟨pr, off + j * 6 + 1, none⟩ = some (.int .i64 y.time) := (hby0.cell (p := ⟨pr, off + j * 6 + 1, none⟩) hpr).trans d1
          have e2 : wr.cell? ⟨pr, off + j * 6 + 2, none⟩ = some (.bool y.hasKey) := (hby0.cell (p := ⟨pr, off + j * 6 + 2, none⟩) hpr).trans d2
          have e3 : wr.cell? ⟨pr, off + j * 6 + 3, none⟩ = some (.slice Ak y.key.length ck) := (hby0.cell (p := ⟨pr, off + j * 6 + 3, none⟩) hpr).trans d3
          have e4 : wr.cell? ⟨pr, off + j * 6 + 4, none⟩ = some (.bool y.hasVal) := (hby0.cell (p := ⟨pr, off + j * 6 + 4, none⟩) hpr).trans d4
          have e5 : wr.cell? ⟨pr, off + j * 6 + 5, none⟩ = some (.slice Av y.val.length cv) := (hby0.cell (p := ⟨pr, off + j * 6 + 5, none⟩) hpr).trans d5
          clear hby0 d0 d1 d2 d3 d4 d5 hA hy
          obtain ⟨wy, hwy⟩ : ∃ wy, wy = wr.alloc (.cells #[.int .i64 y.off, .int .i64 y.time, .bool y.hasKey, .slice Ak y.key.length ck, .bool y.hasVal, .slice Av y.val.length cv] 34) := ⟨_, rfl⟩
          have hbe : Below wr.heap.size wr wy := by rw [hwy]; exact (Below.refl _ _).alloc (Nat.le_refl _) _
          have hkb : Blk wy q 46 #[.int .i64 x.base, .int .i64 x.last, .int .i64 x.prod, .int .i64 x.epoch, .int .i64 x.seq, .slice (some ⟨pr, off, none⟩) m c4] := (hbe.block q hqz).trans HBLK.out
          have HV := Lib.hid (And.intro hkb (And.intro (HRX.out.below hbe) (And.intro (HRM.out.below hbe) (HBY.out.trans (hbe.mono HBY.out.size))))); clear hbe hkb
          clear hbk1
          by_cases hhk : y.hasKey = true
          · by_cases hfo : f ≤ y.off
            · have hu : kb.use f y = true := by unfold kb.use; rw [hhk, decide_eq_true hfo]; rfl
              have hl2 : l2.length ≤ 10000 := by rw [← HISX.out.len]; omega
              obtain ⟨cb, hcb⟩ : ∃ cb, cb = key.can N2 M g2 (strOf y.key) := ⟨_, rfl⟩
              have hcan : pf.can l2 M (POff Ak y.key.length ck y.key y.off).key = cb := by rw [hcb]; exact (HISX.out.can M _).symm
              have hoff := rmap.offer_any w q3 M l2 Ak y.key.length ck y.key y.off wy HV.out.2.1 HV.out.2.2.2 hl2 rfl (by omega) hka
              unfold rmap.OfferPost at hoff
              rw [hcan] at hoff
              have HOFF := Lib.hid hoff; clear hoff hcan
              rw [hwy] at HOFF
              cases cb with
              | true =>
                as_aux_lemma =>
                  have hmid := HMID.out.can HY.out hu hcb.symm
                  have hmis := HISX.out.offer M (POff Ak y.key.length ck y.key y.off)
                  have hall' : ∀ z ∈ pf.offer l2 M (POff Ak y.key.length ck y.key y.off), z.vs = [] ∧ z.bs.length ≤ 10000 := pf.offer_all HALX.out fun o' => ⟨rfl, hkl⟩
                  have hup := key.cnt_up N2 M g2 (strOf y.key)
                  have HNX := Lib.hid (And.intro hmid (And.intro hmis (And.intro hall' hup))); clear hmid hmis hall' hup hcb HALX
                  rw [hhk] at e2 HOFF hwy
                  go_wp2_with fail
                  refine HOFF.out.mono ?_
                  rintro e w4 ⟨rfl, hr4, hc4⟩
                  rw [← hwy] at hc4
                  have hb4 := HV.out.2.2.2.trans (hc4.below HV.out.2.2.2.size fun k hk => by have hk : k = q3 := hk; omega)
                  have hk4 := hc4.blk HV.out.1 (show ¬ q = q3 by omega)
                  have hm4 := HV.out.2.2.1.keepRef hc4 HV.out.2.1 (by omega)
                  have H4 := Lib.hid (And.intro hr4 (And.intro hm4 (And.intro hk4 hb4))); clear hr4 hm4 hk4 hb4 hc4
                  go_wp2_with fail
                  go_roundg gas3
                  case measure => omega
                  case rel => exact ⟨j + 1, _, _, _, by omega, by go_num, HNX.out.1, H4.out.1, H4.out.2.1, H4.out.2.2.1, HNX.out.2.1, HNX.out.2.2.1, by have := HNX.out.2.2.2; omega, H4.out.2.2.2⟩
              | false =>
                as_aux_lemma =>
                  have hno := HMID.out.no HY.out hu hcb.symm
                  have hgd := HGD.out
                  rw [if_neg (by rw [hno]; simp)] at hgd
                  obtain ⟨U, hU⟩ : ∃ U, max x.base f = U := ⟨_, rfl⟩
                  rw [hU] at hgd
                  have hq : N = NR ∧ gg = gR ∧ U = uR := by simpa using hgd
                  obtain ⟨rfl, rfl, rfl⟩ := hq
                  have hN2 : N ≤ 10000 := by omega
                  clear hgd HGD hno hcb
                  rw [hhk] at e2 HOFF hwy
                  go_wp2_with fail
                  refine HOFF.out.mono ?_
                  rintro e w4 ⟨rfl, hr4, hc4⟩
                  rw [← hwy] at hc4
                  have hb4 := HV.out.2.2.2.trans (hc4.below HV.out.2.2.2.size fun k hk => by have hk : k = q3 := hk; omega)
                  have hk4 := hc4.blk HV.out.1 (show ¬ q = q3 by omega)
                  have hm4 := HV.out.2.2.1.keepRef hc4 HV.out.2.1 (by omega)
                  have z0 : w4.cell? ⟨q, 0, none⟩ = some (.int .i64 x.base) := hk4.cell 0 rfl
                  have z1 : ∀ i, (w4.drewN i).cell? ⟨q, 0, none⟩ = some (.int .i64 x.base) := fun i => z0
                  have H4 := Lib.hid (And.intro hm4 hb4); clear hr4 hm4 hk4 hb4 hc4
                  go_wp2_with fail
                  go_quiet (fail)
                  go_wp2_with fail
                  (try rw [Exit.noGoto_ret])
                  go_ret2
                  exact HFIN.out r l (w4.drewN nq) (H4.out.1.below (bdrew (Below.refl _ _) nq)) HIS.out HALL.out hN2 (bdrew H4.out.2 nq)
            · as_aux_lemma =>
                have hu : kb.use f y = false := by unfold kb.use; rw [hhk, decide_eq_false hfo]; rfl
                have hmid := HMID.out.skip HY.out hu
                have HNX := Lib.hid hmid; clear hmid
                have hd : decide (f ≤ y.off) = false := by simpa using hfo
                rw [hhk] at e2 hwy
                go_wp2_with fail
                rw [← hwy]
                go_roundg gas3
                case measure => omega
                case rel => exact ⟨j + 1, _, _, _, by omega, by go_num, HNX.out, HV.out.2.1, HV.out.2.2.1, HV.out.1, HISX.out, HALX.out, by omega, HV.out.2.2.2⟩
          · as_aux_lemma =>
              have hhk : y.hasKey = false := by simpa using hhk
              have hu : kb.use f y = false := by unfold kb.use; rw [hhk]; rfl
              have hmid := HMID.out.skip HY.out hu
              have HNX := Lib.hid hmid; clear hmid
              rw [hhk] at e2 hwy
              go_wp2_with fail
              rw [← hwy]
              go_roundg gas3
              case measure => omega
              case rel => exact ⟨j + 1, _, _, _, by omega, by go_num, HNX.out, HV.out.2.1, HV.out.2.2.1, HV.out.1, HISX.out, HALX.out, by omega, HV.out.2.2.2⟩
end Go.Proofs.Ytnlfdhoabbbheaa

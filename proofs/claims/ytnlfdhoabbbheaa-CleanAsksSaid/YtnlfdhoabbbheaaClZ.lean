/- clean.Record, copies of segments, clean.Segment, clean.Batch, clean.count. -/
import Derived.Deep.QuietTactic
import Derived.BigQuiet
import Derived.Deep.Cut
import Derived.Test.YtnlfdhoabbbheaaKeyA
import Derived.Test.YtnlfdhoabbbheaaBats
import Derived.Test.YtnlfdhoabbbheaaFoX
import Derived.Test.YtnlfdhoabbbheaaRsB
namespace Go.Proofs.Ytnlfdhoabbbheaa
section
open Go.RowKit Go.Maps
set_option maxRecDepth 100000

/-- Does a record stay, by a map of last offsets? -/
def cl.stays (g : ByteArray → Option Int) (upto now grace : Int) (r : Rec) : Bool :=
  if r.hasKey = false ∨ upto ≤ r.off then true else match g (strOf r.key) with
  | none => true
  | some last => if r.off < last then false else if r.hasVal = false ∧ grace < now - r.time then false else true

set_option maxHeartbeats 1000000 in
theorem cl.older_any (t n a : Int) (w : World) (ht : 0 ≤ t) (ht' : t ≤ 9223372036854775807) (hn : 0 ≤ n) (hn' : n ≤ 9223372036854775807) (ha : 0 ≤ a) (ha' : a ≤ 9223372036854775807) :
    Calls Try.prog 37 #[.int .i64 t, .int .i64 n, .int .i64 a] w fun e w' => e = .returned (.bool (decide (a < n - t))) ∧ w = w' := by
  have h0 : ¬ a < 0 := by omega
  have h0' : decide (a < 0) = false := by simpa using h0
  by_cases hlt : n < t
  · have hd : decide (a < n - t) = false := by simp; omega
    have Hd := Lib.hid hd; clear hd
    go_enter Try.func37, Try.ntmps37
    go_wp2
    go_ret
    exact ⟨by rw [Hd.out]; rfl, rfl⟩
  · go_enter Try.func37, Try.ntmps37
    go_wp2
    go_ret
    exact ⟨rfl, rfl⟩

set_option maxHeartbeats 4000000 in
theorem cl.record_any (r : Rec) (Ak : Option Addr) (ck : Nat) (Av : Option Addr) (nv cv : Nat) (p b : Nat) (most : Int) (N : Nat) (g : ByteArray → Option Int) (upto now grace : Int) (w : World) (h : KM w p b most N g) (hl : r.key.length ≤ maxLen) (hat : At w Ak r.key.length (byteAt r.key))
    (ht : 0 ≤ r.time ∧ r.time ≤ 9223372036854775807) (hn : 0 ≤ now ∧ now ≤ 9223372036854775807) (hg : 0 ≤ grace ∧ grace ≤ 9223372036854775807) :
    Calls Try.prog 16 #[.agg #[.int .i64 r.off, .int .i64 r.time, .bool r.hasKey, .slice Ak r.key.length ck, .bool r.hasVal, .slice Av nv cv], .pointer (some ⟨p, 0, none⟩), .int .i64 upto, .int .i64 now, .int .i64 grace] w
      fun e w' => e = .returned (.bool (cl.stays g upto now grace r)) ∧ Below w.heap.size w w' := by
  obtain ⟨off, time, hk, ky, hv, val⟩ := r
  dsimp only at *
  obtain ⟨ht0, ht1⟩ := ht
  obtain ⟨hn0, hn1⟩ := hn
  obtain ⟨hg0, hg1⟩ := hg
  have hlast := fun (wx : World) (hb : Below w.heap.size w wx) => key.last_any p b most N g Ak ck ky wx (h.keep hb) hl (hat.below hb (Nat.le_refl _))
  have hold := fun wx => cl.older_any time now grace wx ht0 ht1 hn0 hn1 hg0 hg1
  obtain ⟨R, hR⟩ : ∃ R, R = cl.stays g upto now grace (⟨off, time, hk, ky, hv, val⟩ : Rec) := ⟨_, rfl⟩
  rw [← hR]
  unfold cl.stays at hR
  dsimp only at hR
  generalize g (strOf ky) = G at *
  have HR := Lib.hid hR; clear hR
  have HLAST := Lib.hid hlast; clear hlast h hat hl
  have HOLD := Lib.hid hold; clear hold
  generalize ky.length = nk at *
  obtain ⟨w1, hw1⟩ : ∃ w1, w1 = w.alloc (.cells #[.int .i64 off, .int .i64 time, .bool hk, .slice Ak nk ck, .bool hv, .slice Av nv cv] 34) := ⟨_, rfl⟩
  have hbk : Blk w1 w.heap.size 34 #[.int .i64 off, .int .i64 time, .bool hk, .slice Ak nk ck, .bool hv, .slice Av nv cv] := by rw [hw1]; exact Blk.new _ _ _
  have hb1 : Below w.heap.size w w1 := by rw [hw1]; exact (Below.refl _ w).alloc (Nat.le_refl _) _
  have hlt1 : w.heap.size < w1.heap.size := hbk.lt
  have c0 : ∀ q, (w1.drewN q).cell? ⟨w.heap.size, 0, none⟩ = some (.int .i64 off) := fun _ => hbk.cell 0 rfl
  have c1 : ∀ q, (w1.drewN q).cell? ⟨w.heap.size, 1, none⟩ = some (.int .i64 time) := fun _ => hbk.cell 1 rfl
  have c2 : ∀ q, (w1.drewN q).cell? ⟨w.heap.size, 2, none⟩ = some (.bool hk) := fun _ => hbk.cell 2 rfl
  have c3 : ∀ q, (w1.drewN q).cell? ⟨w.heap.size, 3, none⟩ = some (.slice Ak nk ck) := fun _ => hbk.cell 3 rfl
  have c4 : ∀ q, (w1.drewN q).cell? ⟨w.heap.size, 4, none⟩ = some (.bool hv) := fun _ => hbk.cell 4 rfl
  have e0 : w1.cell? ⟨w.heap.size, 0, none⟩ = some (.int .i64 off) := hbk.cell 0 rfl
  have e2 : w1.cell? ⟨w.heap.size, 2, none⟩ = some (.bool hk) := hbk.cell 2 rfl
  have e3 : w1.cell? ⟨w.heap.size, 3, none⟩ = some (.slice Ak nk ck) := hbk.cell 3 rfl
  have HB1 := Lib.hid hb1; clear hb1 hbk
  have HW1 := Lib.hid hw1; clear hw1
  go_enter Try.func16, Try.ntmps16
  go_upto_region 1 with fail
  rw [← HW1.out]
  clear HW1
  cases hk with
  | false =>
    have hr : R = true := by rw [HR.out, if_pos (Or.inl rfl)]
    subst hr
    go_wp2_with fail
    go_ret
    exact ⟨rfl, HB1.out⟩
  | true =>
    by_cases hup : upto ≤ off
    · have hr : R = true := by rw [HR.out, if_pos (Or.inr hup)]
      subst hr
      go_wp2_with fail
      go_ret
      exact ⟨rfl, HB1.out⟩
    · have hr0 := HR.out
      rw [if_neg (by rintro (h | h); cases h; exact hup h)] at hr0
      have HR0 := Lib.hid hr0; clear hr0 HR
      go_wp2_with fail
      refine (HLAST.out w1 HB1.out).mono ?_
      rintro e w2 ⟨rfl, q, rfl⟩
      have HB2 := Lib.hid (bdrew HB1.out q); clear HB1 HLAST e0 e2 e3
      cases G with
      | none =>
        have hr : R = true := HR0.out
        subst hr
        dsimp only [Option.getD, Option.isSome]
        go_wp2_with fail
        go_ret
        exact ⟨rfl, HB2.out⟩
      | some last =>
        dsimp only [Option.getD, Option.isSome]
        have hr1 : R = if off < last then false else if hv = false ∧ grace < now - time then false else true := HR0.out
        have HR1 := Lib.hid hr1; clear hr1 HR0
        by_cases hlo : off < last
        · have hr : R = false := by rw [HR1.out, if_pos hlo]
          subst hr
          go_wp2_with fail
          go_ret
          exact ⟨rfl, HB2.out⟩
        · cases hv with
          | true =>
            have hr : R = true := by rw [HR1.out, if_neg hlo, if_neg (by rintro ⟨h, -⟩; cases h)]
            subst hr
            go_wp2_with fail
            go_ret
            exact ⟨rfl, HB2.out⟩
          | false =>
            by_cases hgr : grace < now - time
            · have hr : R = false := by rw [HR1.out, if_neg hlo, if_pos ⟨rfl, hgr⟩]
              subst hr
              go_wp2_with fail
              refine (HOLD.out _).mono ?_
              rintro e w3 ⟨rfl, rfl⟩
              go_wp2_with fail
              go_ret
              exact ⟨rfl, HB2.out⟩
            · have hr : R = true := by rw [HR1.out, if_neg hlo, if_neg fun h => hgr h.2]
              subst hr
              go_wp2_with fail
              refine (HOLD.out _).mono ?_
              rintro e w3 ⟨rfl, rfl⟩
              go_wp2_with fail
              go_ret
              exact ⟨rfl, HB2.out⟩
end
section
open Go.RowKit
set_option maxRecDepth 20000

/-- A copy of a batch, in a row at v. -/
def cl.Cp (B : Nat) (w : World) (v : Value) (cs : List Value) (b : Bat) : Prop :=
  ∃ u, cs = [.int .i64 b.base, .int .i64 b.last, .int .i64 b.prod, .int .i64 b.epoch, .int .i64 b.seq, u] ∧ Dep (fun q => B ≤ q ∧ v.ownBlock ≠ some q) w (fun U => RecsV U u b.recs) ∧ i64ok b.base ∧ i64ok b.last ∧ i64ok b.prod ∧ i64ok b.epoch ∧ i64ok b.seq
theorem cl.Cp.below {B : Nat} {w w' : World} {v : Value} {cs : List Value} {b : Bat} (h : cl.Cp B w v cs b) (hb : Below w.heap.size w w') : cl.Cp B w' v cs b := by
  obtain ⟨u, h1, h2, h3⟩ := h
  exact ⟨u, h1, h2.below hb, h3⟩
theorem cl.Cp.grown {B : Nat} {w w' : World} {v v' : Value} {cs : List Value} {b : Bat} (h : cl.Cp B w v cs b) (hg : w.grownBy w' v.ownBlock) (hl : v'.ownBlock = v.ownBlock ∨ v'.ownBlock = some w.heap.size) : cl.Cp B w' v' cs b := by
  obtain ⟨u, h1, h2, h3⟩ := h
  refine ⟨u, h1, h2.move (fun k o hz ho _ => ⟨(hg.block k (heap_in ho) fun e => hz.2 e.symm).trans ho, hz.1, fun e => ?_⟩) hg.size, h3⟩
  rcases hl with h | h
  · exact hz.2 (h ▸ e)
  · rw [h] at e
    have e1 : w.heap.size = k := by simpa using e
    have := heap_in ho
    omega
/-- A row of copies. -/
def cl.Cps (B : Nat) (w : World) (v : Value) (xs : List Value) (l : List Bat) : Prop := ∀ (i : Nat) (b : Bat), l[i]? = some b → cl.Cp B w v (cellsAt (fun j => xs.getD j undef) i 6) b
theorem cl.Cps.snoc {B : Nat} {w w' : World} {v v' : Value} {xs cs : List Value} {l : List Bat} {b : Bat} (h : cl.Cps B w v xs l) (hx : xs.length = l.length * 6) (hb : cl.Cp B w v cs b) (hcs : cs.length = 6) (hg : w.grownBy w' v.ownBlock) (hl : v'.ownBlock = v.ownBlock ∨ v'.ownBlock = some w.heap.size) : cl.Cps B w' v' (xs ++ cs) (l ++ [b]) := by
  intro i x hi
  by_cases hlt : i < l.length
  · rw [List.getElem?_append_left hlt] at hi
    rw [show cellsAt (fun j => (xs ++ cs).getD j undef) i 6 = cellsAt (fun j => xs.getD j undef) i 6 from cellsAt_congr fun k hk => by
      simp only [List.getD]
      rw [List.getElem?_append_left (by omega)]]
    exact (h i x hi).grown hg hl
  · have hil : i = l.length := by
      have := (List.getElem?_eq_some_iff.1 hi).1
      rw [List.length_append, List.length_singleton] at this
      omega
    subst hil
    rw [List.getElem?_append_right (Nat.le_refl _), Nat.sub_self] at hi
    obtain rfl : b = x := by simpa using hi
    have e : cellsAt (fun j => (xs ++ cs).getD j undef) l.length 6 = cs := by
      match cs, hcs with
      | [c0, c1, c2, c3, c4, c5], _ =>
        unfold cellsAt
        simp only [List.range, List.range.loop, List.map_cons, List.map_nil, List.getD]
        rw [List.getElem?_append_right (by omega), List.getElem?_append_right (by omega), List.getElem?_append_right (by omega), List.getElem?_append_right (by omega), List.getElem?_append_right (by omega), List.getElem?_append_right (by omega)]
        simp [hx]
    rw [e]
    exact hb.grown hg hl
theorem cl.Cps.dep {w : World} {B : Nat} {v : Value} {xs : List Value} {l : List Bat} {n : Nat} (h : cl.Cps B w v xs l) (hn : l.length = n) (ho : w.ownsRow B 46 6 v n xs) : ∃ A c, v = .slice A n c ∧ n ≤ c ∧ c ≤ maxLen ∧ Dep (fun q => B ≤ q) w (fun U => BatsAt U A l) ∧ ∀ k, (Value.slice A n c).ownBlock = some k → B ≤ k := by
  have hlt := ho.lt
  have hv := own_at ho
  obtain ⟨A, c, rfl, hc, hat⟩ := hv
  refine ⟨A, c, rfl, hc, own_cap ho, ⟨fun k => B ≤ k ∧ CellsB w k, fun k hk => hk, fun U hU hs => ⟨fun j => xs.getD j undef, ?_, fun i b hi => ?_⟩⟩, fun k hk => (hlt k hk).1⟩
  · rw [hn]
    intro h0
    obtain ⟨b, off, hA, hb, hcell⟩ := hat h0
    refine ⟨b, off, hA, Nat.lt_of_lt_of_le hb hs, fun j hj => (World.cell?_of_block (hU b ⟨?_, .of_cell (hcell 0 h0)⟩)).trans (hcell j hj)⟩
    exact (hlt b (by rw [hA]; rfl)).1
  · obtain ⟨u, h1, ⟨S, hS1, hS2⟩, h3⟩ := h i b hi
    exact ⟨u, h1, hS2 U (fun k hk => hU k ⟨(hS1 k hk).1.1, (hS1 k hk).2⟩) hs, h3⟩
/-- What Segment answers: batches in blocks of their own. -/
def cl.SegPost (l : List Bat) (w : World) (e : Ending) (w' : World) : Prop :=
  ∃ A c, e = .returned (.slice A l.length c) ∧ l.length ≤ c ∧ c ≤ maxLen ∧ Dep (fun q => w.heap.size ≤ q) w' (fun U => BatsAt U A l) ∧ (∀ k, (Value.slice A l.length c).ownBlock = some k → w.heap.size ≤ k) ∧ Below w.heap.size w w'
set_option maxHeartbeats 4000000 in
theorem cl.copyall_any (A : Option Addr) (n c : Nat) (bs : List Bat) (w : World) (hat : BatsAt w A bs) (hn : bs.length = n) (hsm : fo.Small bs) :
    Calls Try.prog 30 #[.slice A n c] w (cl.SegPost bs w) := by
  have hn1 : n ≤ 1000000 := by rw [← hn]; exact hsm.1
  have HAT := Lib.hid hat; clear hat
  have HN := Lib.hid hn; clear hn
  have HSM := Lib.hid hsm; clear hsm
  obtain ⟨i0, hi, hz0, hz1', hz2⟩ := info_parts fo.infoB
  have HI := Lib.hid (And.intro hi (And.intro hz0 (And.intro hz1' hz2))); clear hi hz0 hz1' hz2
  obtain ⟨wm, hmk, hom, hgm⟩ := run_make_own (P := Try.prog) w w.heap.size 31 46 i0 _ 6 Try.underlying31 HI.out.1 HI.out.2.1 HI.out.2.2.1 .i64 .i64 n (by rw [HI.out.2.2.2]; omega) (by unfold maxLen; omega) (Nat.le_refl _)
  have hbm : Below w.heap.size w wm := (Below.refl _ w).grown hgm (Nat.le_refl _) (by simp)
  have H0 := Lib.hid (And.intro hom hbm); clear hom hbm hgm
  go_enter Try.func30, Try.ntmps30
  go_wp2_with fail
  clear hmk
  go_loopw [3, 11] (fun s3 s11 wx => ∃ (k : Nat) (v : Value) (xs : List Value), v = s3 ∧ s11 = .int .i64 (k : Int) ∧ k ≤ n ∧ wx.ownsRow w.heap.size 46 6 v k xs ∧ cl.Cps w.heap.size wx v xs (bs.take k) ∧ Below w.heap.size w wx) (fun _ s11 _ => n - (intOf s11).toNat)
  case atStart => exact ⟨0, _, [], rfl, rfl, by omega, H0.out.1, fun i b h => (by simp at h), H0.out.2⟩
  case round =>
    obtain ⟨k, v, xs, rfl, rfl, hk, hown, hcps, hbw⟩ := hrel
    have HBW := Lib.hid hbw; clear hbw
    have HOWN := Lib.hid hown; clear hown
    have HCPS := Lib.hid hcps; clear hcps
    by_cases hlt : k < n
    · have hlt' : (k : Int) < n := by omega
      obtain ⟨x, hx⟩ : ∃ x, bs[k]? = some x := ⟨_, List.getElem?_eq_getElem (by rw [HN.out]; exact hlt)⟩
      obtain ⟨b2, off2, v2, hA2, hb2, d0, d1, d2, d3, d4, d5, hrecs, i0', i1', i2', i3', i4'⟩ := HAT.out.at' hx
      subst hA2
      obtain ⟨A4, c4, V4, rfl, hmc, hc4, -⟩ := id hrecs
      obtain ⟨m, hm⟩ : ∃ m, m = x.recs.length := ⟨_, rfl⟩
      obtain ⟨hm1, hrs⟩ := HSM.out.2 x (List.mem_of_getElem? hx)
      rw [← hm] at d5 hmc hrecs hm1
      have hbw0 := HBW.out
      have e0 := (hbw0.cell (p := ⟨b2, off2 + k * 6, none⟩) hb2).trans d0
      have e1 := (hbw0.cell (p := ⟨b2, off2 + k * 6 + 1, none⟩) hb2).trans d1
      have e2 := (hbw0.cell (p := ⟨b2, off2 + k * 6 + 2, none⟩) hb2).trans d2
      have e3 := (hbw0.cell (p := ⟨b2, off2 + k * 6 + 3, none⟩) hb2).trans d3
      have e4 := (hbw0.cell (p := ⟨b2, off2 + k * 6 + 4, none⟩) hb2).trans d4
      have e5 := (hbw0.cell (p := ⟨b2, off2 + k * 6 + 5, none⟩) hb2).trans d5
      have hwa : ∀ o, Below wr.heap.size wr (wr.alloc o) := fun o => (Below.refl _ _).alloc (Nat.le_refl _) _
      have hcp := fun o => fo.copyb_any x A4 m c4 (wr.alloc o) (hrecs.below (hbw0.trans ((hwa o).mono hbw0.size)) (Nat.le_refl _)) hm.symm hm1 hrs
      unfold fo.CopyBPost fo.bcells at hcp
      have HCP := Lib.hid hcp; clear hcp
      have HX := Lib.hid (And.intro hx (And.intro hm (And.intro i0' (And.intro i1' (And.intro i2' (And.intro i3' i4')))))); clear hx hm i0' i1' i2' i3' i4' d0 d1 d2 d3 d4 d5 hrecs hrs hbw0
      obtain ⟨Ar, cr, rfl, -, -⟩ := own_at HOWN.out
      have hrlt := HOWN.out.lt
      have hws := HBW.out.size
      go_wp2_with fail
      refine (HCP.out _).mono ?_
      rintro e w4 ⟨A2, c2, rfl, hrow, hb4⟩
      have hb14 : Below wr.heap.size wr w4 := (hwa _).trans (hb4.mono (by simp))
      obtain ⟨w5, hw5⟩ : ∃ w5, w5 = w4.alloc (.cells #[.int .i64 x.base, .int .i64 x.last, .int .i64 x.prod, .int .i64 x.epoch, .int .i64 x.seq, .slice A2 m c2] 46) := ⟨_, rfl⟩
      have hb45 : Below w4.heap.size w4 w5 := by rw [hw5]; exact (Below.refl _ _).alloc (Nat.le_refl _) _
      have hb15 : Below wr.heap.size wr w5 := hb14.trans (hb45.mono hb14.size)
      have hown5 := (chg_of (P := fun _ => False) hb15).own HOWN.out fun _ _ h => h.elim
      have hcps5 : cl.Cps w.heap.size w5 (.slice Ar k cr) xs (bs.take k) := fun i b hi => (HCPS.out i b hi).below hb15
      have hcp5 : cl.Cp w.heap.size w5 (.slice Ar k cr) [.int .i64 x.base, .int .i64 x.last, .int .i64 x.prod, .int .i64 x.epoch, .int .i64 x.seq, .slice A2 m c2] x := by
        refine ⟨_, rfl, (hrow.dep.below hb45).weak fun q hq _ => ?_, HX.out.2.2⟩
        have h2 := hq.1
        simp at h2
        refine ⟨by omega, fun e => ?_⟩
        have h1 := (hrlt q e).2
        omega
      have hs5 : w5.heap.size = w4.heap.size + 1 := by rw [hw5]; simp
      have hs4 := hb14.size
      have hlen0 : (bs.take k).length = k := by rw [List.length_take, HN.out]; omega
      have hxl := hown5.1
      have happ : ∀ v2 w9, w9.ownsRow w.heap.size 46 6 v2 (k + 1) (xs ++ [.int .i64 x.base, .int .i64 x.last, .int .i64 x.prod, .int .i64 x.epoch, .int .i64 x.seq, .slice A2 m c2]) → w5.grownBy w9 (Value.slice Ar k cr).ownBlock → (v2.ownBlock = (Value.slice Ar k cr).ownBlock ∨ v2.ownBlock = some w5.heap.size) →
          cl.Cps w.heap.size w9 v2 (xs ++ [.int .i64 x.base, .int .i64 x.last, .int .i64 x.prod, .int .i64 x.epoch, .int .i64 x.seq, .slice A2 m c2]) (bs.take (k + 1)) ∧ Below w.heap.size w w9 := fun v2 w9 h1 h2 h3 => by
        obtain ⟨hjl, hjy⟩ := List.getElem?_eq_some_iff.1 HX.out.1
        refine ⟨?_, (HBW.out.trans (hb15.mono hws)).grown h2 (by omega) (fun q hq => (hrlt q hq).1)⟩
        rw [List.take_succ_eq_append_getElem hjl, hjy]
        exact hcps5.snoc (by rw [hlen0]; exact hxl) hcp5 rfl h2 h3
      have HAPP := Lib.hid happ; clear happ hcps5 hcp5 hxl hlen0
      have HOWN5 := Lib.hid hown5; clear hown5 hrow hb4 hb14 hb15 hb45 hwa e0 e1 e2 e3 e4 e5
      have HW5 := Lib.hid hw5
      rw [hw5] at HAPP HOWN5 hs5
      clear hw5
      go_wp2_with (at_builtin; refine wpList_append_own_at _ rfl (.tmp 15) (.tmp 18) 31 rfl w.heap.size 46 i0 _ 6 64 Try.underlying31 HI.out.1 HI.out.2.1 HI.out.2.2.1 HI.out.2.2.2 rfl (by decide) (.slice Ar k cr) k xs rfl HOWN5.out ⟨w4.heap.size, 0, none⟩ 1 1 [.int .i64 x.base, .int .i64 x.last, .int .i64 x.prod, .int .i64 x.epoch, .int .i64 x.seq, .slice A2 m c2] rfl rfl (cells_new _ [.int .i64 x.base, .int .i64 x.last, .int .i64 x.prod, .int .i64 x.epoch, .int .i64 x.seq, .slice A2 m c2] _ _ rfl) (by simp [Value.oneCell']) (by unfold maxLen; omega) (by omega) (by rw [hs5]; omega) ?_; intro v2 w9 h1 h2 _ h3)
      have HN2 := Lib.hid (And.intro h1 (HAPP.out v2 w9 h1 h2 h3)); clear h1 h2 h3
      go_wp2_with fail
      go_roundw
      case rel => exact ⟨k + 1, v2, _, rfl, by go_num, by omega, HN2.out.1, HN2.out.2.1, HN2.out.2.2⟩
      case measure => simp [intOf]; omega
    · obtain rfl : k = n := by omega
      have hcps := HCPS.out
      rw [List.take_of_length_le (by rw [HN.out]; exact Nat.le_refl _)] at hcps
      obtain ⟨A9, c9, rfl, h1, h2, h3⟩ := hcps.dep HN.out HOWN.out
      have H9 := Lib.hid (And.intro h1 (And.intro h2 h3)); clear h1 h2 h3 hcps
      go_wp2_with fail
      go_ret
      exact ⟨A9, c9, by rw [HN.out]; rfl, by rw [HN.out]; exact H9.out.1, H9.out.2.1, H9.out.2.2.1, by rw [HN.out]; exact H9.out.2.2.2, HBW.out⟩
end
section
open Go.RowKit Go.Maps
set_option maxRecDepth 100000

def ps.cut (F : Rec → Bool) (b : Bat) : Bat := { b with recs := b.recs.filter F }
/-- What is left of batches. -/
def ps.all (F : Rec → Bool) (bs : List Bat) : List Bat := (bs.map (ps.cut F)).filter fun b => decide (0 < b.recs.length)
theorem ps.take_succ {F : Rec → Bool} {bs : List Bat} {k : Nat} {x : Bat} (h : bs[k]? = some x) : ps.all F (bs.take (k + 1)) = ps.all F (bs.take k) ++ if 0 < (ps.cut F x).recs.length then [ps.cut F x] else [] := by
  obtain ⟨h1, h2⟩ := List.getElem?_eq_some_iff.1 h
  unfold ps.all
  rw [List.take_succ_eq_append_getElem h1, h2, List.map_append, List.filter_append]
  congr 1
  simp only [List.map_cons, List.map_nil]
  by_cases h : 0 < (ps.cut F x).recs.length
  · rw [if_pos h, List.filter_cons_of_pos (by simpa using h)]
    rfl
  · rw [if_neg h, List.filter_cons_of_neg (by simpa using h)]
    rfl
theorem ps.all_len (F : Rec → Bool) (bs : List Bat) : (ps.all F bs).length ≤ bs.length := by
  unfold ps.all
  refine Nat.le_trans (List.length_filter_le _ _) ?_
  rw [List.length_map]
  exact Nat.le_refl _
theorem ps.recs_succ {F : Rec → Bool} {l : List Rec} {j : Nat} {y : Rec} (h : l[j]? = some y) : (l.take (j + 1)).filter F = (l.take j).filter F ++ if F y = true then [y] else [] := by
  obtain ⟨h1, h2⟩ := List.getElem?_eq_some_iff.1 h
  rw [List.take_succ_eq_append_getElem h1, h2, List.filter_append]
  congr 1
  by_cases h : F y = true
  · rw [if_pos h, List.filter_cons_of_pos h]
    rfl
  · rw [if_neg h, List.filter_cons_of_neg h]
    rfl

set_option maxHeartbeats 4000000 in
theorem cl.segment_any (A : Option Addr) (n c : Nat) (bs : List Bat) (p b : Nat) (most : Int) (N0 : Nat) (g0 : ByteArray → Option Int) (upto now grace : Int) (w : World) (hat : BatsAt w A bs) (hn : bs.length = n) (hsm : fo.Small bs) (htm : ∀ x ∈ bs, ∀ r ∈ x.recs, 0 ≤ r.time) (hkm : KM w p b most N0 g0)
    (hnow : 0 ≤ now ∧ now ≤ 9223372036854775807) (hgr : 0 ≤ grace ∧ grace ≤ 9223372036854775807) :
    Calls Try.prog 22 #[.slice A n c, .pointer (some ⟨p, 0, none⟩), .int .i64 upto, .int .i64 now, .int .i64 grace] w (cl.SegPost (ps.all (cl.stays g0 upto now grace) bs) w) := by
  have hn1 : n ≤ 1000000 := by rw [← hn]; exact hsm.1
  have hrec := fun (r : Rec) (Ak : Option Addr) (nk ck : Nat) (Av : Option Addr) (nv cv : Nat) (wx : World) (hb : Below w.heap.size w wx) (hl : r.key.length = nk) (hm : nk ≤ maxLen) (ha : At wx Ak nk (byteAt r.key)) (ht : 0 ≤ r.time ∧ r.time ≤ 9223372036854775807) =>
    show Calls Try.prog 16 #[.agg #[.int .i64 r.off, .int .i64 r.time, .bool r.hasKey, .slice Ak nk ck, .bool r.hasVal, .slice Av nv cv], .pointer (some ⟨p, 0, none⟩), .int .i64 upto, .int .i64 now, .int .i64 grace] wx (fun e w' => e = .returned (.bool (cl.stays g0 upto now grace r)) ∧ Below wx.heap.size wx w') from by
      subst hl
      exact cl.record_any r Ak ck Av nv cv p b most N0 g0 upto now grace wx (hkm.keep hb) hm ha ht hnow hgr
  generalize cl.stays g0 upto now grace = F at *
  have HREC := Lib.hid hrec; clear hrec hkm hnow hgr
  have HAT := Lib.hid hat; clear hat
  have HN := Lib.hid hn; clear hn
  have HSM := Lib.hid (And.intro hsm htm); clear hsm htm
  obtain ⟨i0, hi, hz0, hz1', hz2⟩ := info_parts fo.infoB
  have HI := Lib.hid (And.intro hi (And.intro hz0 (And.intro hz1' hz2))); clear hi hz0 hz1' hz2
  obtain ⟨j0, hi, hz0, hz1', hz2⟩ := info_parts rc.info
  have HJ := Lib.hid (And.intro hi (And.intro hz0 (And.intro hz1' hz2))); clear hi hz0 hz1' hz2
  go_enter Try.func22, Try.ntmps22
  go_wp2_with fail
  go_step3
  go_wp2_with fail
  go_step3
  go_wp2_with fail
  go_loopw [11, 19] (fun s7 s8 wx => ∃ (k N : Nat) (v : Value) (xs : List Value), v = s7 ∧ s8 = .int .i64 (k : Int) ∧ k ≤ n ∧ N = (ps.all F (bs.take k)).length ∧ wx.ownsRow w.heap.size 46 6 v N xs ∧ cl.Cps w.heap.size wx v xs (ps.all F (bs.take k)) ∧ Below w.heap.size w wx) (fun _ s8 _ => n - (intOf s8).toNat)
  case atStart => exact ⟨0, 0, _, [], rfl, rfl, by omega, rfl, World.ownsRow_nil _ _ _ _, fun i b h => (by simp [ps.all] at h), Below.refl _ _⟩
  case round =>
    obtain ⟨k, N, v, xs, rfl, rfl, hk, hN, hown, hcps, hbw⟩ := hrel
    have HBW := Lib.hid hbw; clear hbw
    have HOWN := Lib.hid hown; clear hown
    have HCPS := Lib.hid hcps; clear hcps
    have hNn : N ≤ n := by
      have h := ps.all_len F (bs.take k)
      rw [List.length_take] at h
      omega
    have HNL := Lib.hid hN; clear hN
    by_cases hlt : k < n
    · have hlt' : (k : Int) < n := by omega
      obtain ⟨x, hx⟩ : ∃ x, bs[k]? = some x := ⟨_, List.getElem?_eq_getElem (by rw [HN.out]; exact hlt)⟩
      obtain ⟨b2, off2, v2, hA2, hb2, d0, d1, d2, d3, d4, d5, hrecs, i0', i1', i2', i3', i4'⟩ := HAT.out.at' hx
      subst hA2
      obtain ⟨A4, c4, V4, rfl, hmc, hc4, -⟩ := id hrecs
      obtain ⟨m, hm⟩ : ∃ m, m = x.recs.length := ⟨_, rfl⟩
      obtain ⟨hm1, hrs⟩ := HSM.out.1.2 x (List.mem_of_getElem? hx)
      have htx := HSM.out.2 x (List.mem_of_getElem? hx)
      rw [← hm] at d5 hmc hrecs hm1
      have hbw0 := HBW.out
      have e0 := (hbw0.cell (p := ⟨b2, off2 + k * 6, none⟩) hb2).trans d0
      have e1 := (hbw0.cell (p := ⟨b2, off2 + k * 6 + 1, none⟩) hb2).trans d1
      have e2 := (hbw0.cell (p := ⟨b2, off2 + k * 6 + 2, none⟩) hb2).trans d2
      have e3 := (hbw0.cell (p := ⟨b2, off2 + k * 6 + 3, none⟩) hb2).trans d3
      have e4 := (hbw0.cell (p := ⟨b2, off2 + k * 6 + 4, none⟩) hb2).trans d4
      have e5 := (hbw0.cell (p := ⟨b2, off2 + k * 6 + 5, none⟩) hb2).trans d5
      have HRECS := Lib.hid hrecs
      have HTX := Lib.hid (And.intro hrs htx); clear hrs htx
      have HX := Lib.hid (And.intro hx (And.intro hm (And.intro i0' (And.intro i1' (And.intro i2' (And.intro i3' i4')))))); clear hx hm i0' i1' i2' i3' i4' d0 d1 d2 d3 d4 d5 hrecs hbw0
      obtain ⟨Ar, cr, rfl, -, -⟩ := own_at HOWN.out
      have hrlt := HOWN.out.lt
      have hws := HBW.out.size
      obtain ⟨g, hg⟩ : ∃ g, g = wr.heap.size := ⟨_, rfl⟩
      obtain ⟨w3, hw3⟩ : ∃ w3, w3 = wr.alloc (.cells #[.int .i64 x.base, .int .i64 x.last, .int .i64 x.prod, .int .i64 x.epoch, .int .i64 x.seq, .slice A4 m c4] 46) := ⟨_, rfl⟩
      have hk3 : Blk w3 g 46 #[.int .i64 x.base, .int .i64 x.last, .int .i64 x.prod, .int .i64 x.epoch, .int .i64 x.seq, .slice A4 m c4] := by rw [hw3, hg]; exact Blk.new _ _ _
      have hb3 : Below wr.heap.size wr w3 := by rw [hw3]; exact (Below.refl _ _).alloc (Nat.le_refl _) _
      have hgw : w.heap.size ≤ g := by omega
      have hs3 : w3.heap.size = g + 1 := by rw [hw3, hg]; simp
      have c5' : w3.cell? ⟨g, 5, none⟩ = some (.slice A4 m c4) := hk3.cell 5 rfl
      have H3 := Lib.hid (And.intro hk3 hb3)
      have HG := Lib.hid (And.intro hg hw3); clear hk3 hb3 hg hw3
      go_upto_region 5 with fail
      rw [← HG.out.2, ← HG.out.1]
      clear e0 e1 e2 e3 e4 e5
      go_wp2_with fail
      rename_i KO hKO
      go_step3
      go_wp2_with fail
      go_step3
      go_wp2_with fail
      clear c5'
      obtain ⟨wo, rfl⟩ : ∃ wo : World, wo = wr := ⟨_, rfl⟩
      go_loopw [14, 26] (fun s10 s11 wy => ∃ (j M : Nat) (u : Value) (ys : List Value), u = s10 ∧ s11 = .int .i64 (j : Int) ∧ j ≤ m ∧ M = ((x.recs.take j).filter F).length ∧ wy.ownsRow (g + 1) 34 6 u M ys ∧ rc.Row w ys ((x.recs.take j).filter F) ∧ Blk wy g 46 #[.int .i64 x.base, .int .i64 x.last, .int .i64 x.prod, .int .i64 x.epoch, .int .i64 x.seq, .slice A4 m c4] ∧ Below wo.heap.size wo wy) (fun _ s11 _ => m - (intOf s11).toNat)
      case atStart => exact ⟨0, 0, _, [], rfl, rfl, by omega, rfl, World.ownsRow_nil _ _ _ _, rc.Row.nil _, H3.out.1, H3.out.2⟩
      case round =>
        obtain ⟨j, M, u, ys, rfl, rfl, hj, hM, hrown, hrow, hblk, hby⟩ := hrel
        clear H3
        have HBLK := Lib.hid hblk; clear hblk
        have HROWN := Lib.hid hrown; clear hrown
        have HROW := Lib.hid hrow; clear hrow
        have HBY := Lib.hid hby; clear hby
        have HML := Lib.hid hM; clear hM
        have hMj : M ≤ j := by
          rw [HML.out]
          refine Nat.le_trans (List.length_filter_le _ _) ?_
          rw [List.length_take]
          omega
        have hgs : g + 1 ≤ wr.heap.size := HBLK.out.lt
        obtain ⟨Au, cu, rfl, -, -⟩ := own_at HROWN.out
        have hult := HROWN.out.lt
        have hug : (Value.slice Au M cu).ownBlock ≠ some g := HBLK.out.not_row (by decide) HROWN.out
        by_cases hjm : j < m
        · have hjm' : (j : Int) < m := by omega
          obtain ⟨y, hy⟩ : ∃ y, x.recs[j]? = some y := ⟨_, List.getElem?_eq_getElem (by rw [← HX.out.2.1]; exact hjm)⟩
          obtain ⟨pr, off, c', kv, vv, hA, -, -, hpr, d0, d1, d2, d3, d4, d5, hkv0, hvv0, hio, hti⟩ := HRECS.out.at' hy
          obtain ⟨rfl, rfl⟩ : A4 = some ⟨pr, off, none⟩ ∧ c4 = c' := by simp at hA; exact ⟨hA.1, hA.2.2⟩
          have hrec1 : RecR w [.int .i64 y.off, .int .i64 y.time, .bool y.hasKey, kv, .bool y.hasVal, vv] y := ⟨kv, vv, rfl, hkv0, hvv0, hio, hti⟩
          obtain ⟨Ak, ck, rfl, hka, hk1, hk2, -⟩ := hkv0
          obtain ⟨Av, cv, rfl, -⟩ := hvv0
          obtain ⟨nk, hnk⟩ : ∃ nk, nk = y.key.length := ⟨_, rfl⟩
          obtain ⟨nv, hnv⟩ : ∃ nv, nv = y.val.length := ⟨_, rfl⟩
          rw [← hnk] at d3 hrec1 hka hk1
          rw [← hnv] at d5 hrec1
          have hb0 : Below w.heap.size w wr := HBW.out.trans (HBY.out.mono hws)
          have hty := HTX.out.2 y (List.mem_of_getElem? hy)
          have hcall := fun (wx : World) (hb : Below w.heap.size w wx) => HREC.out y Ak nk ck Av nv cv wx hb hnk.symm (Nat.le_trans hk1 hk2) (hka.below hb (Nat.le_refl _)) ⟨hty, hti.2⟩
          have HCALL := Lib.hid hcall; clear hcall hnk hnv hty hka hk1 hk2
          have e0 := (hb0.cell (p := ⟨pr, off + j * 6, none⟩) hpr).trans d0
          have e1 := (hb0.cell (p := ⟨pr, off + j * 6 + 1, none⟩) hpr).trans d1
          have e2 := (hb0.cell (p := ⟨pr, off + j * 6 + 2, none⟩) hpr).trans d2
          have e3 := (hb0.cell (p := ⟨pr, off + j * 6 + 3, none⟩) hpr).trans d3
          have e4 := (hb0.cell (p := ⟨pr, off + j * 6 + 4, none⟩) hpr).trans d4
          have e5 := (hb0.cell (p := ⟨pr, off + j * 6 + 5, none⟩) hpr).trans d5
          have HY := Lib.hid (And.intro hy hrec1); clear hy hrec1 d0 d1 d2 d3 d4 d5 hA hio hti
          obtain ⟨q, hq⟩ : ∃ q, q = wr.heap.size := ⟨_, rfl⟩
          obtain ⟨w4, hw4⟩ : ∃ w4, w4 = wr.alloc (.cells #[.int .i64 y.off, .int .i64 y.time, .bool y.hasKey, .slice Ak nk ck, .bool y.hasVal, .slice Av nv cv] 34) := ⟨_, rfl⟩
          have hb4 : Below wr.heap.size wr w4 := by rw [hw4]; exact (Below.refl _ _).alloc (Nat.le_refl _) _
          have hk4 : Blk w4 q 34 #[.int .i64 y.off, .int .i64 y.time, .bool y.hasKey, .slice Ak nk ck, .bool y.hasVal, .slice Av nv cv] := by rw [hw4, hq]; exact Blk.new _ _ _
          have s0 : w4.cell? ⟨q, 0, none⟩ = some (.int .i64 y.off) := hk4.cell 0 rfl
          have s1 : w4.cell? ⟨q, 1, none⟩ = some (.int .i64 y.time) := hk4.cell 1 rfl
          have s2 : w4.cell? ⟨q, 2, none⟩ = some (.bool y.hasKey) := hk4.cell 2 rfl
          have s3 : w4.cell? ⟨q, 3, none⟩ = some (.slice Ak nk ck) := hk4.cell 3 rfl
          have s4 : w4.cell? ⟨q, 4, none⟩ = some (.bool y.hasVal) := hk4.cell 4 rfl
          have s5 : w4.cell? ⟨q, 5, none⟩ = some (.slice Av nv cv) := hk4.cell 5 rfl
          have H4 := Lib.hid (And.intro hb4 (And.intro hk4 (hb0.trans (hb4.mono hb0.size)))); clear hb4 hk4 hb0
          have HW4 := Lib.hid (And.intro hq hw4); clear hq hw4
          go_upto_region 9 with fail
          rw [← HW4.out.2, ← HW4.out.1]
          clear e0 e1 e2 e3 e4 e5
          go_wp2_with fail
          refine (HCALL.out w4 H4.out.2.2).mono ?_
          rintro e w5 ⟨rfl, hb45⟩
          clear s0 s1 s2 s3 s4 s5
          have hb5 : Below wr.heap.size wr w5 := H4.out.1.trans (hb45.mono H4.out.1.size)
          have hk5 : Blk w5 q 34 #[.int .i64 y.off, .int .i64 y.time, .bool y.hasKey, .slice Ak nk ck, .bool y.hasVal, .slice Av nv cv] := (hb45.block q H4.out.2.1.lt).trans H4.out.2.1
          have hg5 : Blk w5 g 46 #[.int .i64 x.base, .int .i64 x.last, .int .i64 x.prod, .int .i64 x.epoch, .int .i64 x.seq, .slice (some ⟨pr, off, none⟩) m c4] := (hb5.block g hgs).trans HBLK.out
          have hr5 := (chg_of (P := fun _ => False) hb5).own HROWN.out fun _ _ h => h.elim
          have H5 := Lib.hid (And.intro hk5 (And.intro hg5 (And.intro hr5 (HBY.out.trans (hb5.mono HBY.out.size))))); clear hk5 hg5 hr5 hb5 hb45 HCALL
          have hstay : ∀ t : Bool, F y = t → (x.recs.take (j + 1)).filter F = (x.recs.take j).filter F ++ if t = true then [y] else [] := fun t h => by rw [ps.recs_succ HY.out.1, h]
          have HST := Lib.hid hstay; clear hstay
          obtain ⟨t, ht⟩ : ∃ t, F y = t := ⟨_, rfl⟩
          rw [ht]
          have hsucc := HST.out t ht
          clear HST
          have HT := Lib.hid ht; clear ht
          cases t with
          | true =>
            rw [if_pos rfl] at hsucc
            have hrow2 : rc.Row w (ys ++ [.int .i64 y.off, .int .i64 y.time, .bool y.hasKey, .slice Ak nk ck, .bool y.hasVal, .slice Av nv cv]) ((x.recs.take (j + 1)).filter F) := by
              rw [hsucc]
              exact HROW.out.append (rc.Row.one HY.out.2 rfl)
            have hM2 : M + 1 = ((x.recs.take (j + 1)).filter F).length := by rw [hsucc, List.length_append, ← HML.out]; rfl
            have HSU := Lib.hid (And.intro hrow2 hM2); clear hsucc hrow2 hM2
            have s0 : w5.cell? ⟨q, 0, none⟩ = some (.int .i64 y.off) := H5.out.1.cell 0 rfl
            have s1 : w5.cell? ⟨q, 1, none⟩ = some (.int .i64 y.time) := H5.out.1.cell 1 rfl
            have s2 : w5.cell? ⟨q, 2, none⟩ = some (.bool y.hasKey) := H5.out.1.cell 2 rfl
            have s3 : w5.cell? ⟨q, 3, none⟩ = some (.slice Ak nk ck) := H5.out.1.cell 3 rfl
            have s4 : w5.cell? ⟨q, 4, none⟩ = some (.bool y.hasVal) := H5.out.1.cell 4 rfl
            have s5 : w5.cell? ⟨q, 5, none⟩ = some (.slice Av nv cv) := H5.out.1.cell 5 rfl
            have hb6 : Below w5.heap.size w5 (w5.alloc (.cells #[.int .i64 y.off, .int .i64 y.time, .bool y.hasKey, .slice Ak nk ck, .bool y.hasVal, .slice Av nv cv] 34)) := (Below.refl _ _).alloc (Nat.le_refl _) _
            have hg6 : Blk (w5.alloc (.cells #[.int .i64 y.off, .int .i64 y.time, .bool y.hasKey, .slice Ak nk ck, .bool y.hasVal, .slice Av nv cv] 34)) g 46 #[.int .i64 x.base, .int .i64 x.last, .int .i64 x.prod, .int .i64 x.epoch, .int .i64 x.seq, .slice (some ⟨pr, off, none⟩) m c4] := (hb6.block g H5.out.2.1.lt).trans H5.out.2.1
            have hs5 : g + 1 ≤ w5.heap.size := H5.out.2.1.lt
            have H6 := Lib.hid (And.intro hg6 (And.intro (H5.out.2.2.1.alloc (.cells #[.int .i64 y.off, .int .i64 y.time, .bool y.hasKey, .slice Ak nk ck, .bool y.hasVal, .slice Av nv cv] 34)) (H5.out.2.2.2.trans (hb6.mono H5.out.2.2.2.size)))); clear hg6 hb6
            go_wp2_with (at_builtin; go_loud (refine wpList_append_own_at _ rfl (.tmp 37) (.tmp 39) 44 rfl (g + 1) 34 j0 _ 6 80 Try.underlying44 HJ.out.1 HJ.out.2.1 HJ.out.2.2.1 HJ.out.2.2.2 rfl (by decide) (.slice Au M cu) M ys rfl H6.out.2.1 ⟨w5.heap.size, 0, none⟩ 1 1 [.int .i64 y.off, .int .i64 y.time, .bool y.hasKey, .slice Ak nk ck, .bool y.hasVal, .slice Av nv cv] rfl rfl (cells_new _ [.int .i64 y.off, .int .i64 y.time, .bool y.hasKey, .slice Ak nk ck, .bool y.hasVal, .slice Av nv cv] _ _ rfl) (by simp [Value.oneCell']) (by unfold maxLen; omega) (by omega) (by simp; omega) ?_; intro v2 w9 h1 h2 _ h3; have H9 := Lib.hid (And.intro h1 (And.intro ((Chg.grown h2).blk H6.out.1 hug) (H6.out.2.2.grown h2 (by simp; have := H5.out.2.2.2.size; omega) (fun q' hq' => by have := (hult q' hq').1; have := HG.out.1; omega)))); clear h1 h2 h3))
            go_wp2_with fail
            go_roundw
            case rel => exact ⟨j + 1, M + 1, v2, _, rfl, by go_num, by omega, HSU.out.2, H9.out.1, HSU.out.1, H9.out.2.1, H9.out.2.2⟩
            case measure => simp [intOf]; omega
          | false =>
            rw [if_neg (by decide), List.append_nil] at hsucc
            have HSU := Lib.hid hsucc; clear hsucc
            go_wp2_with fail
            go_roundw
            case rel => exact ⟨j + 1, M, _, ys, rfl, by go_num, by omega, by rw [HSU.out]; exact HML.out, H5.out.2.2.1, by rw [HSU.out]; exact HROW.out, H5.out.2.1, H5.out.2.2.2⟩
            case measure => simp [intOf]; omega
        · obtain rfl : j = m := by omega
          have hfull : (ps.cut F x).recs = (x.recs.take j).filter F := by
            rw [List.take_of_length_le (by rw [← HX.out.2.1]; exact Nat.le_refl _)]
            rfl
          have hts := ps.take_succ (F := F) HX.out.1
          rw [hfull, ← HML.out] at hts
          have HTS := Lib.hid (And.intro hts hfull); clear hts hfull
          by_cases hM0 : 0 < M
          · have hM0' : ¬ (M : Int) = 0 := by omega
            have f5 := HBLK.out.frozen 5
            obtain ⟨w4, hw4⟩ : ∃ w4, w4 = wr.setCell ⟨g, 5, none⟩ (.slice Au M cu) := ⟨_, rfl⟩
            have hc4 : Chg wr w4 (fun k => k = g) := by rw [hw4]; exact Chg.setCell _ _ _ _
            have hk4 : Blk w4 g 46 #[.int .i64 x.base, .int .i64 x.last, .int .i64 x.prod, .int .i64 x.epoch, .int .i64 x.seq, .slice Au M cu] := by rw [hw4]; exact HBLK.out.set 5 _
            have hb4 : Below wo.heap.size wo w4 := HBY.out.trans (hc4.below HBY.out.size fun k hk => by have hk : k = g := hk; have := HG.out.1; omega)
            have hr4 : w4.ownsRow (g + 1) 34 6 (.slice Au M cu) M ys := hc4.own HROWN.out fun q' hq' hh => by have hh : q' = g := hh; rw [hh] at hq'; exact hug hq'
            have H4 := Lib.hid (And.intro hk4 (And.intro hb4 hr4)); clear hc4 hk4 hb4 hr4
            have HW4 := Lib.hid hw4; clear hw4
            have c5 : wr.cell? ⟨g, 5, none⟩ = some (.slice A4 j c4) := HBLK.out.cell 5 rfl
            go_upto_region 14 with fail
            rw [← HW4.out]
            clear c5 f5 HBLK HBY HROWN HW4
            have hb1 : Below wo.heap.size wo w4 := H4.out.2.1
            have hrow := HROW.out
            rw [← HTS.out.2] at hrow
            have hMl : (ps.cut F x).recs.length = M := by rw [HTS.out.2]; exact HML.out.symm
            have hdep := rs.dep hrow (HBW.out.trans (hb1.mono hws)) hMl H4.out.2.2
            have hsz : ∀ r ∈ (ps.cut F x).recs, r.key.length ≤ 1000000 ∧ r.val.length ≤ 1000000 := fun r hr => HTX.out.1 r (List.mem_filter.1 hr).1
            have hcp := fo.copyb_any (ps.cut F x) Au M cu w4 hdep.now hMl (by omega) hsz
            unfold fo.CopyBPost fo.bcells ps.cut at hcp
            dsimp only at hcp
            have HCP := Lib.hid hcp; clear hcp hdep hrow hsz
            have l0 : w4.cell? ⟨g, 0, none⟩ = some (.int .i64 x.base) := H4.out.1.cell 0 rfl
            have l1 : w4.cell? ⟨g, 1, none⟩ = some (.int .i64 x.last) := H4.out.1.cell 1 rfl
            have l2 : w4.cell? ⟨g, 2, none⟩ = some (.int .i64 x.prod) := H4.out.1.cell 2 rfl
            have l3 : w4.cell? ⟨g, 3, none⟩ = some (.int .i64 x.epoch) := H4.out.1.cell 3 rfl
            have l4 : w4.cell? ⟨g, 4, none⟩ = some (.int .i64 x.seq) := H4.out.1.cell 4 rfl
            have l5 : w4.cell? ⟨g, 5, none⟩ = some (.slice Au M cu) := H4.out.1.cell 5 rfl
            go_wp2_with fail
            clear l0 l1 l2 l3 l4 l5
            refine HCP.out.mono ?_
            rintro e w5 ⟨A2, c2, rfl, hcrow, hb45⟩
            obtain ⟨w6, hw6⟩ : ∃ w6, w6 = w5.alloc (.cells #[.int .i64 x.base, .int .i64 x.last, .int .i64 x.prod, .int .i64 x.epoch, .int .i64 x.seq, .slice A2 M c2] 46) := ⟨_, rfl⟩
            have hb56 : Below w5.heap.size w5 w6 := by rw [hw6]; exact (Below.refl _ _).alloc (Nat.le_refl _) _
            have hb15 : Below wo.heap.size wo w5 := hb1.trans (hb45.mono hb1.size)
            have hb16 : Below wo.heap.size wo w6 := hb15.trans (hb56.mono hb15.size)
            have hs6 : w6.heap.size = w5.heap.size + 1 := by rw [hw6]; simp
            have hs1 := hb1.size
            have hs15 := hb15.size
            have hown6 := (chg_of (P := fun _ => False) hb16).own HOWN.out fun _ _ h => h.elim
            have hcps6 : cl.Cps w.heap.size w6 (.slice Ar N cr) xs (ps.all F (bs.take k)) := fun i b hi => (HCPS.out i b hi).below hb16
            have hcp6 : cl.Cp w.heap.size w6 (.slice Ar N cr) [.int .i64 x.base, .int .i64 x.last, .int .i64 x.prod, .int .i64 x.epoch, .int .i64 x.seq, .slice A2 M c2] (ps.cut F x) := by
              refine ⟨_, rfl, (hcrow.dep.below hb56).weak fun q' hq' _ => ?_, HX.out.2.2⟩
              have h2 := hq'.1
              refine ⟨by omega, fun e => ?_⟩
              have h1 := (hrlt q' e).2
              omega
            have hxl := hown6.1
            have happ : ∀ v2 w9, w9.ownsRow w.heap.size 46 6 v2 (N + 1) (xs ++ [.int .i64 x.base, .int .i64 x.last, .int .i64 x.prod, .int .i64 x.epoch, .int .i64 x.seq, .slice A2 M c2]) → w6.grownBy w9 (Value.slice Ar N cr).ownBlock → (v2.ownBlock = (Value.slice Ar N cr).ownBlock ∨ v2.ownBlock = some w6.heap.size) →
                N + 1 = (ps.all F (bs.take (k + 1))).length ∧ cl.Cps w.heap.size w9 v2 (xs ++ [.int .i64 x.base, .int .i64 x.last, .int .i64 x.prod, .int .i64 x.epoch, .int .i64 x.seq, .slice A2 M c2]) (ps.all F (bs.take (k + 1))) ∧ Below w.heap.size w w9 := fun v2 w9 h1 h2 h3 => by
              rw [HTS.out.1, if_pos hM0]
              refine ⟨by rw [List.length_append, ← HNL.out]; rfl, hcps6.snoc (by rw [← HNL.out]; exact hxl) hcp6 rfl h2 h3, (HBW.out.trans (hb16.mono hws)).grown h2 (by omega) (fun q' hq' => (hrlt q' hq').1)⟩
            have HAPP := Lib.hid happ; clear happ hcps6 hcp6 hxl hcrow
            have HOWN6 := Lib.hid hown6; clear hown6 hb45 hb15 hb1 hb56 hb16
            rw [hw6] at HAPP HOWN6 hs6
            clear hw6
            go_wp2_with (at_builtin; go_loud (refine wpList_append_own_at _ rfl (.tmp 47) (.tmp 50) 31 rfl w.heap.size 46 i0 _ 6 64 Try.underlying31 HI.out.1 HI.out.2.1 HI.out.2.2.1 HI.out.2.2.2 rfl (by decide) (.slice Ar N cr) N xs rfl HOWN6.out ⟨w5.heap.size, 0, none⟩ 1 1 [.int .i64 x.base, .int .i64 x.last, .int .i64 x.prod, .int .i64 x.epoch, .int .i64 x.seq, .slice A2 M c2] rfl rfl (cells_new _ [.int .i64 x.base, .int .i64 x.last, .int .i64 x.prod, .int .i64 x.epoch, .int .i64 x.seq, .slice A2 M c2] _ _ rfl) (by simp [Value.oneCell']) (by unfold maxLen; omega) (by omega) (by rw [hs6]; omega) ?_; intro v2 w9 h1 h2 _ h3; have HN2 := Lib.hid (And.intro h1 (HAPP.out v2 w9 h1 h2 h3)); clear h1 h2 h3))
            go_wp2_with fail
            refine hKO _ _ ?_
            go_wp2_with fail
            go_roundw
            case rel => exact ⟨k + 1, N + 1, v2, _, rfl, by go_num, by omega, HN2.out.2.1, HN2.out.1, HN2.out.2.2.1, HN2.out.2.2.2⟩
            case measure => simp [intOf]; omega
          · obtain rfl : M = 0 := by omega
            have hall : ps.all F (bs.take (k + 1)) = ps.all F (bs.take k) := by rw [HTS.out.1, if_neg (by omega), List.append_nil]
            have HALL := Lib.hid hall; clear hall hM0
            go_wp2_with fail
            refine hKO _ _ ?_
            go_wp2_with fail
            go_roundw
            case rel => exact ⟨k + 1, N, .slice Ar N cr, xs, rfl, by go_num, by omega, by rw [HALL.out]; exact HNL.out, (chg_of (P := fun _ => False) HBY.out).own HOWN.out fun _ _ h => h.elim, by rw [HALL.out]; exact fun i b hi => (HCPS.out i b hi).below HBY.out, HBW.out.trans (HBY.out.mono hws)⟩
            case measure => simp [intOf]; omega
    · obtain rfl : k = n := by omega
      have hcps := HCPS.out
      have hN := HNL.out
      rw [List.take_of_length_le (by rw [HN.out]; exact Nat.le_refl _)] at hcps hN
      obtain ⟨A9, c9, rfl, h1, h2, h3⟩ := hcps.dep hN.symm HOWN.out
      have H9 := Lib.hid (And.intro hN (And.intro h1 (And.intro h2 h3))); clear h1 h2 h3 hcps hN
      go_wp2_with fail
      go_ret
      exact ⟨A9, c9, by rw [← H9.out.1]; rfl, by rw [← H9.out.1]; exact H9.out.2.1, H9.out.2.2.1, H9.out.2.2.2.1, by rw [← H9.out.1]; exact H9.out.2.2.2.2, HBW.out⟩
end
section
open Go.RowKit Go.Maps
set_option maxRecDepth 100000

theorem res_cell2' {P : Program} {fn : Func} {p u : Tmp} {ty T : TypeId} (h : fn.results = #[.cell p ty, .tmp u]) (tmps : Array Value) (w : World) (g : Nat) (cs : Array Value) (d : TypeDesc) (hp : tmps.getD p undef = .pointer (some ⟨g, 0, none⟩)) (hg : Blk w g T cs)
    (hu : P.underlying ty = some d) (hd : (match d with | .struct _ | .array _ _ => true | _ => false) = true) (hi : (P.info? ty).map (·.size) = some cs.size) :
    (results fn tmps).run P w = .ok (.tuple #[.agg cs, tmps.getD u undef]) w := by
  have hp' : tmps[p]?.getD undef = .pointer (some ⟨g, 0, none⟩) := by simpa using hp
  simp [results, h, hp', asAddr, run_loadVar_row w g T ty cs (0, 0) d hg hu hd hi]

set_option maxHeartbeats 2000000 in
theorem cl.count_any (A : Option Addr) (n c : Nat) (bs : List Bat) (w : World) (hat : BatsAt w A bs) (hn : bs.length = n) (hn1 : n ≤ 1000000) (hN : (rc.flat bs).length ≤ 1000000) :
    Calls Try.prog 31 #[.slice A n c] w fun e w' => e = .returned (.int .i64 ((rc.flat bs).length : Int)) ∧ Below w.heap.size w w' := by
  have HAT := Lib.hid hat; clear hat
  have HN := Lib.hid hn; clear hn
  have HNN := Lib.hid hN; clear hN
  go_enter Try.func31, Try.ntmps31
  go_wp2_with fail
  go_loopw [3, 8] (fun s3 s8 wx => ∃ (k M : Nat), M = (rc.flat (bs.take k)).length ∧ s3 = .int .i64 (M : Int) ∧ s8 = .int .i64 (k : Int) ∧ k ≤ n ∧ Below w.heap.size w wx) (fun _ s8 _ => n - (intOf s8).toNat)
  case atStart => exact ⟨0, 0, rfl, rfl, rfl, by omega, Below.refl _ _⟩
  case round =>
    obtain ⟨k, M, hM, rfl, rfl, hk, hbw⟩ := hrel
    have HBW := Lib.hid hbw; clear hbw
    by_cases hlt : k < n
    · have hlt' : (k : Int) < n := by omega
      obtain ⟨x, hx⟩ : ∃ x, bs[k]? = some x := ⟨_, List.getElem?_eq_getElem (by rw [HN.out]; exact hlt)⟩
      obtain ⟨p, po, v2, hA2, hp, d0, d1, d2, d3, d4, d5, hrv, -⟩ := HAT.out.at' hx
      subst hA2
      obtain ⟨A4, c4, V4, rfl, -⟩ := hrv
      have hfl := rc.flat_take hx
      have hle := rc.flat_le (bs := bs) (k + 1)
      have hNN := HNN.out
      obtain ⟨M2, hM2⟩ : ∃ M2, M2 = (rc.flat (bs.take (k + 1))).length := ⟨_, rfl⟩
      have hsum : (M : Int) + (x.recs.length : Int) = (M2 : Int) := by rw [hM2, hfl, List.length_append, hM]; omega
      rw [← hM2] at hle
      have HM2 := Lib.hid hM2; clear hM2 hM hfl
      have hpw := Nat.lt_of_lt_of_le hp HBW.out.size
      have e0 := (HBW.out.cell (p := ⟨p, po + k * 6, none⟩) hp).trans d0
      have e1 := (HBW.out.cell (p := ⟨p, po + k * 6 + 1, none⟩) hp).trans d1
      have e2 := (HBW.out.cell (p := ⟨p, po + k * 6 + 2, none⟩) hp).trans d2
      have e3 := (HBW.out.cell (p := ⟨p, po + k * 6 + 3, none⟩) hp).trans d3
      have e4 := (HBW.out.cell (p := ⟨p, po + k * 6 + 4, none⟩) hp).trans d4
      have e5 := (HBW.out.cell (p := ⟨p, po + k * 6 + 5, none⟩) hp).trans d5
      clear d0 d1 d2 d3 d4 d5 hx
      generalize x.recs.length = m at *
      go_wp2_with fail
      go_roundw
      case rel => exact ⟨k + 1, M2, HM2.out, by first | rfl | go_num | (refine num_eq ?_; omega), by go_num, by omega, HBW.out.alloc HBW.out.size _⟩
      case measure => simp [intOf]; omega
    · obtain rfl : k = n := by omega
      rw [List.take_of_length_le (by rw [HN.out]; exact Nat.le_refl _)] at hM
      have HMM := Lib.hid hM; clear hM
      go_wp2_with fail
      go_ret
      exact ⟨show Ending.returned (Value.int .i64 (M : Int)) = _ from by rw [HMM.out], HBW.out⟩

theorem cl.SegPost.fr {l : List Bat} {w : World} {e : Ending} {w' : World} (h : cl.SegPost l w e w') : fr.Post l w e w' := by
  obtain ⟨A, c, h1, h2, h3, h4, -, h6⟩ := h
  exact ⟨A, c, h1, h2, h3, h4.now, h6⟩
/-- What Batch answers. -/
def cl.BatPost (F : Rec → Bool) (x : Bat) (w : World) (e : Ending) (w' : World) : Prop :=
  (((ps.cut F x).recs.length = 0 ∧ e = .returned (.tuple #[.agg #[.int .i64 0, .int .i64 0, .int .i64 0, .int .i64 0, .int .i64 0, .slice none 0 0], .bool false])) ∨
    (0 < (ps.cut F x).recs.length ∧ ∃ A c, e = .returned (.tuple #[.agg #[.int .i64 x.base, .int .i64 x.last, .int .i64 x.prod, .int .i64 x.epoch, .int .i64 x.seq, .slice A (ps.cut F x).recs.length c], .bool true]) ∧ RecsV w' (.slice A (ps.cut F x).recs.length c) (ps.cut F x).recs)) ∧ Below w.heap.size w w'
set_option maxHeartbeats 4000000 in
theorem cl.batch_any (x : Bat) (A4 : Option Addr) (m c4 : Nat) (p b : Nat) (most : Int) (N0 : Nat) (g0 : ByteArray → Option Int) (upto now grace : Int) (w : World) (hx : BatR w [.int .i64 x.base, .int .i64 x.last, .int .i64 x.prod, .int .i64 x.epoch, .int .i64 x.seq, .slice A4 m c4] x) (hsm : fo.Small [x]) (htm : ∀ r ∈ x.recs, 0 ≤ r.time) (hkm : KM w p b most N0 g0)
    (hnow : 0 ≤ now ∧ now ≤ 9223372036854775807) (hgr : 0 ≤ grace ∧ grace ≤ 9223372036854775807) :
    Calls Try.prog 18 #[.agg #[.int .i64 x.base, .int .i64 x.last, .int .i64 x.prod, .int .i64 x.epoch, .int .i64 x.seq, .slice A4 m c4], .pointer (some ⟨p, 0, none⟩), .int .i64 upto, .int .i64 now, .int .i64 grace] w (cl.BatPost (cl.stays g0 upto now grace) x w) := by
  obtain ⟨g, hg⟩ : ∃ g, g = w.heap.size := ⟨_, rfl⟩
  obtain ⟨w1, hw1⟩ : ∃ w1, w1 = (w.alloc (.cells #[.int .i64 x.base, .int .i64 x.last, .int .i64 x.prod, .int .i64 x.epoch, .int .i64 x.seq, .slice A4 m c4] 46)).alloc (.cells #[.int .i64 0, .int .i64 0, .int .i64 0, .int .i64 0, .int .i64 0, .slice none 0 0] 46) := ⟨_, rfl⟩
  obtain ⟨w2, hw2⟩ : ∃ w2, w2 = w1.alloc (.cells #[.int .i64 x.base, .int .i64 x.last, .int .i64 x.prod, .int .i64 x.epoch, .int .i64 x.seq, .slice A4 m c4] 46) := ⟨_, rfl⟩
  have hb1 : Below w.heap.size w w1 := by rw [hw1]; exact ((Below.refl _ _).alloc (Nat.le_refl _) _).alloc (by simp) _
  have hs1 : w1.heap.size = g + 2 := by rw [hw1, hg]; simp
  have hb12 : Below w1.heap.size w1 w2 := by rw [hw2]; exact (Below.refl _ _).alloc (Nat.le_refl _) _
  have hb2 : Below w.heap.size w w2 := hb1.trans (hb12.mono hb1.size)
  have hz1 : Blk w1 (g + 1) 46 #[.int .i64 0, .int .i64 0, .int .i64 0, .int .i64 0, .int .i64 0, .slice none 0 0] := by
    have h := Blk.new (w.alloc (.cells #[.int .i64 x.base, .int .i64 x.last, .int .i64 x.prod, .int .i64 x.epoch, .int .i64 x.seq, .slice A4 m c4] 46)) 46 #[.int .i64 0, .int .i64 0, .int .i64 0, .int .i64 0, .int .i64 0, .slice none 0 0]
    rw [World.size_alloc, ← hg, ← hw1] at h
    exact h
  have hk1 : Blk w1 g 46 #[.int .i64 x.base, .int .i64 x.last, .int .i64 x.prod, .int .i64 x.epoch, .int .i64 x.seq, .slice A4 m c4] := by rw [hw1, hg]; exact (Below.heap_alloc _ _ _ (by simp)).trans (Blk.new w _ _)
  have hk2 : Blk w2 (g + 2) 46 #[.int .i64 x.base, .int .i64 x.last, .int .i64 x.prod, .int .i64 x.epoch, .int .i64 x.seq, .slice A4 m c4] := by rw [hw2, ← hs1]; exact Blk.new _ _ _
  have hz2 : Blk w2 (g + 1) 46 #[.int .i64 0, .int .i64 0, .int .i64 0, .int .i64 0, .int .i64 0, .slice none 0 0] := (hb12.block (g + 1) hz1.lt).trans hz1
  have hbat : BatsAt w2 (some ⟨g + 2, 0, none⟩) [x] := by
    refine ⟨fun j => [.int .i64 x.base, .int .i64 x.last, .int .i64 x.prod, .int .i64 x.epoch, .int .i64 x.seq, .slice A4 m c4].getD j undef, fun _ => ⟨g + 2, 0, rfl, hk2.lt, fun j hj => ?_⟩, fun i y hi => ?_⟩
    · rw [Nat.zero_add]
      match j, hj with
      | 0, _ => exact hk2.cell 0 rfl
      | 1, _ => exact hk2.cell 1 rfl
      | 2, _ => exact hk2.cell 2 rfl
      | 3, _ => exact hk2.cell 3 rfl
      | 4, _ => exact hk2.cell 4 rfl
      | 5, _ => exact hk2.cell 5 rfl
    · match i, hi with
      | 0, hi =>
        obtain rfl : x = y := by simpa using hi
        exact hx.below hb2 (Nat.le_refl _)
      | i + 1, hi => simp at hi
  have hseg := fun c => cl.segment_any (some ⟨g + 2, 0, none⟩) 1 c [x] p b most N0 g0 upto now grace w2 hbat rfl hsm (fun y hy r hr => by rw [List.mem_singleton.1 hy] at hr; exact htm r hr) (hkm.keep hb2) hnow hgr
  generalize cl.stays g0 upto now grace = F at *
  have hall : ps.all F [x] = if 0 < (ps.cut F x).recs.length then [ps.cut F x] else [] := by
    have h := ps.take_succ (F := F) (bs := [x]) (k := 0) (x := x) rfl
    rw [List.take_of_length_le (by simp), List.take_zero] at h
    exact h
  unfold cl.SegPost at hseg
  rw [hall] at hseg
  unfold cl.BatPost
  have HSEG := Lib.hid hseg; clear hseg hall hbat hx hsm htm hkm hnow hgr hk2
  have H := Lib.hid (And.intro hb2 (And.intro hz2 (And.intro hs1 hb1))); clear hb12 hz2 hb1 hb2
  have l0 := hk1.cell 0 rfl
  have l1 := hk1.cell 1 rfl
  have l2 := hk1.cell 2 rfl
  have l3 := hk1.cell 3 rfl
  have l4 := hk1.cell 4 rfl
  have l5 := hk1.cell 5 rfl
  have hgl := hk1.lt
  clear hk1 hz1
  go_enter Try.func18, Try.ntmps18
  go_upto_region 1 with fail
  rw [← hw1, ← hg]
  have HW := Lib.hid (And.intro hg hw2); clear hg hw1 hw2
  go_wp2_with fail
  rw [← HW.out.2]
  refine (HSEG.out 1).mono ?_
  clear l0 l1 l2 l3 l4 l5
  by_cases hpos : 0 < (ps.cut F x).recs.length
  · rw [if_pos hpos]
    rintro e w3 ⟨A3, c3, rfl, hc3, hcm, hdep, hblk, hb3⟩
    have hat := hdep.now
    obtain ⟨q, qo, v, hA, hq, d0, d1, d2, d3, d4, d5, hrv, -⟩ := hat.at' (k := 0) (x := ps.cut F x) rfl
    obtain ⟨A4', c4', V4, rfl, hr⟩ := id hrv
    obtain ⟨n4, hn4⟩ : ∃ n4, n4 = (ps.cut F x).recs.length := ⟨_, rfl⟩
    rw [← hn4] at d5 hrv hpos
    rw [show qo + 0 * 6 = qo from by omega] at d0 d1 d2 d3 d4 d5
    have e0 : w3.cell? ⟨q, qo, none⟩ = some (.int .i64 x.base) := d0
    have e1 : w3.cell? ⟨q, qo + 1, none⟩ = some (.int .i64 x.last) := d1
    have e2 : w3.cell? ⟨q, qo + 2, none⟩ = some (.int .i64 x.prod) := d2
    have e3 : w3.cell? ⟨q, qo + 3, none⟩ = some (.int .i64 x.epoch) := d3
    have e4 : w3.cell? ⟨q, qo + 4, none⟩ = some (.int .i64 x.seq) := d4
    have hb03 := H.out.1.trans (hb3.mono H.out.1.size)
    have hz3 : Blk w3 (g + 1) 46 #[.int .i64 0, .int .i64 0, .int .i64 0, .int .i64 0, .int .i64 0, .slice none 0 0] := (hb3.block (g + 1) H.out.2.1.lt).trans H.out.2.1
    have hA' : A3 = some ⟨q, qo, none⟩ := hA
    have hqb : w2.heap.size ≤ q := hblk q (by rw [hA']; rfl)
    have hgq : g + 1 < w2.heap.size := H.out.2.1.lt
    have hset : ∀ cs, RecsV (w3.setRow (g + 1) cs) (.slice A4' n4 c4') (ps.cut F x).recs := fun cs => by
      obtain ⟨S, hS1, hS2⟩ := hdep
      have h := hS2 (w3.setRow (g + 1) cs) (fun k hk => setRow_other w3 (g + 1) k cs (by have := (hS1 k hk).1; omega)) (by simp)
      obtain ⟨q', qo', v', hA2, -, -, -, -, -, -, d5', hrv', -⟩ := h.at' (k := 0) (x := ps.cut F x) rfl
      rw [hA'] at hA2
      obtain ⟨rfl, rfl⟩ : q = q' ∧ qo = qo' := by simpa using hA2
      have e := World.cell?_of_block (a := ⟨q, qo + 5, none⟩) (setRow_other w3 (g + 1) q cs (by omega))
      rw [show qo + 0 * 6 + 5 = qo + 5 from by omega, e, d5] at d5'
      cases d5'
      exact hrv'
    have H3 := Lib.hid (And.intro hb03 (And.intro hz3 (And.intro hset (And.intro hpos hn4)))); clear hb03 hz3 hset hrv hpos hn4 hb3 hat hr d0 d1 d2 d3 d4 hA hdep hblk hqb hgq
    subst hA'
    go_wp2_with (refine wpList_store_row rfl 46 (.tmp 10) (.tmp 26) rfl (g + 1) #[.int .i64 x.base, .int .i64 x.last, .int .i64 x.prod, .int .i64 x.epoch, .int .i64 x.seq, .slice A4' n4 c4'] rfl rfl 46 _ H3.out.2.1 fo.infoB6 rfl (by simp [Value.oneCell']) ?_)
    have hc6 := fo.chg_row w3 (g + 1) #[.int .i64 x.base, .int .i64 x.last, .int .i64 x.prod, .int .i64 x.epoch, .int .i64 x.seq, .slice A4' n4 c4']
    have hz6 := fo.blk_row H3.out.2.1 #[.int .i64 x.base, .int .i64 x.last, .int .i64 x.prod, .int .i64 x.epoch, .int .i64 x.seq, .slice A4' n4 c4']
    have hrv6 := H3.out.2.2.1 #[.int .i64 x.base, .int .i64 x.last, .int .i64 x.prod, .int .i64 x.epoch, .int .i64 x.seq, .slice A4' n4 c4']
    generalize w3.setRow (g + 1) #[.int .i64 x.base, .int .i64 x.last, .int .i64 x.prod, .int .i64 x.epoch, .int .i64 x.seq, .slice A4' n4 c4'] = w6 at *
    go_wp2_with fail
    refine bodyPost_ret (res_cell2' rfl _ _ _ _ _ rfl hz6 Try.underlying46 rfl fo.infoB6) rfl ?_
    have hn4 := H3.out.2.2.2.2
    refine ⟨.inr ⟨by rw [← hn4]; exact H3.out.2.2.2.1, A4', c4', by rw [← hn4]; rfl, by rw [← hn4]; exact hrv6⟩, ?_⟩
    exact H3.out.1.trans (hc6.below H3.out.1.size fun k hk => by have hk : k = g + 1 := hk; have := HW.out.1; omega)
  · rw [if_neg hpos]
    rintro e w3 ⟨A3, c3, rfl, -, -, -, -, hb3⟩
    have hb03 := H.out.1.trans (hb3.mono H.out.1.size)
    have hz3 : Blk w3 (g + 1) 46 #[.int .i64 0, .int .i64 0, .int .i64 0, .int .i64 0, .int .i64 0, .slice none 0 0] := (hb3.block (g + 1) H.out.2.1.lt).trans H.out.2.1
    have H3 := Lib.hid (And.intro hb03 hz3); clear hb03 hz3 hb3
    go_wp2_with (refine wpList_store_row rfl 46 (.tmp 10) (.tmp 23) rfl (g + 1) #[.int .i64 0, .int .i64 0, .int .i64 0, .int .i64 0, .int .i64 0, .slice none 0 0] rfl rfl 46 _ H3.out.2 fo.infoB6 rfl (by simp [Value.oneCell']) ?_)
    have hc6 := fo.chg_row w3 (g + 1) #[.int .i64 0, .int .i64 0, .int .i64 0, .int .i64 0, .int .i64 0, .slice none 0 0]
    have hz6 := fo.blk_row H3.out.2 #[.int .i64 0, .int .i64 0, .int .i64 0, .int .i64 0, .int .i64 0, .slice none 0 0]
    generalize w3.setRow (g + 1) #[.int .i64 0, .int .i64 0, .int .i64 0, .int .i64 0, .int .i64 0, .slice none 0 0] = w6 at *
    go_wp2_with fail
    refine bodyPost_ret (res_cell2' rfl _ _ _ _ _ rfl hz6 Try.underlying46 rfl fo.infoB6) rfl ?_
    refine ⟨.inl ⟨by omega, rfl⟩, ?_⟩
    exact H3.out.1.trans (hc6.below H3.out.1.size fun k hk => by have hk : k = g + 1 := hk; have := HW.out.1; omega)
end
end Go.Proofs.Ytnlfdhoabbbheaa

/- Copies of batches in blocks of their own. -/
import Derived.Test.YtnlfdhoabbbheaaFoI
namespace Go.Proofs.Ytnlfdhoabbbheaa
open Go.RowKit
set_option maxRecDepth 20000

/-- A copy of a batch, in a row at v. -/
def cl.Cp (B : Nat) (w : World) (v : Value) (cs : List Value) (b : Bat) : Prop :=
  ∃ u, cs = [.int .i64 b.base, .int .i64 b.last, .int .i64 b.prod, .int .i64 b.epoch, .int .i64 b.seq, u] ∧ Dep (fun q => B ≤ q ∧ v.ownBlock ≠ some q) w (fun U => RecsV U u b.recs) ∧ i64ok b.base ∧ i64ok b.last ∧ i64ok b.prod ∧ i64ok b.epoch ∧ i64ok b.seq
theorem cl.Cp.below {B : Nat} {w w' : World} {v : Value} {cs : List Value} {b : Bat} (h : cl.Cp B w v cs b) (hb : Below w.heap.size w w') : cl.Cp B w' v cs b := by
  obtain ⟨u, h1, h2, h3⟩ := h
  exact ⟨u, h1, h2.below hb, h3⟩
theorem cl.Cp.grown {B : Nat} {w w' : World} {v v' : Value} {cs : List Value} {b : Bat} (h : cl.Cp B w v cs b) (hg : w.grownBy w' v.ownBlock) (hl : v'.ownBlock = v.ownBlock ∨ v'.ownBlock = some w.heap.size) : cl.Cp B w' v' cs b := by
  obtain ⟨u, h1, h2, h3⟩ := h
  refine ⟨u, h1, h2.move (fun k o hz ho _ => ⟨(hg.block k (heap_in ho) fun e => hz.2 e.symm).trans ho, hz.1, fun e => ?_⟩) hg.size, h3⟩
  rcases hl with h | h
  · exact hz.2 (h ▸ e)
  · rw [h] at e
    have e1 : w.heap.size = k := by simpa using e
    have := heap_in ho
    omega
/-- A row of copies. -/
def cl.Cps (B : Nat) (w : World) (v : Value) (xs : List Value) (l : List Bat) : Prop := ∀ (i : Nat) (b : Bat), l[i]? = some b → cl.Cp B w v (cellsAt (fun j => xs.getD j undef) i 6) b
theorem cl.Cps.snoc {B : Nat} {w w' : World} {v v' : Value} {xs cs : List Value} {l : List Bat} {b : Bat} (h : cl.Cps B w v xs l) (hx : xs.length = l.length * 6) (hb : cl.Cp B w v cs b) (hcs : cs.length = 6) (hg : w.grownBy w' v.ownBlock) (hl : v'.ownBlock = v.ownBlock ∨ v'.ownBlock = some w.heap.size) : cl.Cps B w' v' (xs ++ cs) (l ++ [b]) := by
  intro i x hi
  by_cases hlt : i < l.length
  · rw [List.getElem?_append_left hlt] at hi
    rw [show cellsAt (fun j => (xs ++ cs).getD j undef) i 6 = cellsAt (fun j => xs.getD j undef) i 6 from cellsAt_congr fun k hk => by
      simp only [List.getD]
      rw [List.getElem?_append_left (by omega)]]
    exact (h i x hi).grown hg hl
  · have hil : i = l.length := by
      have := (List.getElem?_eq_some_iff.1 hi).1
      rw [List.length_append, List.length_singleton] at this
      omega
    subst hil
    rw [List.getElem?_append_right (Nat.le_refl _), Nat.sub_self] at hi
    obtain rfl : b = x := by simpa using hi
    have e : cellsAt (fun j => (xs ++ cs).getD j undef) l.length 6 = cs := by
      match cs, hcs with
      | [c0, c1, c2, c3, c4, c5], _ =>
        unfold cellsAt
        simp only [List.range, List.range.loop, List.map_cons, List.map_nil, List.getD]
        rw [List.getElem?_append_right (by omega), List.getElem?_append_right (by omega), List.getElem?_append_right (by omega), List.getElem?_append_right (by omega), List.getElem?_append_right (by omega), List.getElem?_append_right (by omega)]
        simp [hx]
    rw [e]
    exact hb.grown hg hl
theorem cl.Cps.dep {w : World} {B : Nat} {v : Value} {xs : List Value} {l : List Bat} {n : Nat} (h : cl.Cps B w v xs l) (hn : l.length = n) (ho : w.ownsRow B 46 6 v n xs) : ∃ A c, v = .slice A n c ∧ n ≤ c ∧ c ≤ maxLen ∧ Dep (fun q => B ≤ q) w (fun U => BatsAt U A l) ∧ ∀ k, (Value.slice A n c).ownBlock = some k → B ≤ k := by
  have hlt := ho.lt
  have hv := own_at ho
  obtain ⟨A, c, rfl, hc, hat⟩ := hv
  refine ⟨A, c, rfl, hc, own_cap ho, ⟨fun k => B ≤ k ∧ CellsB w k, fun k hk => hk, fun U hU hs => ⟨fun j => xs.getD j undef, ?_, fun i b hi => ?_⟩⟩, fun k hk => (hlt k hk).1⟩
  · rw [hn]
    intro h0
    obtain ⟨b, off, hA, hb, hcell⟩ := hat h0
    refine ⟨b, off, hA, Nat.lt_of_lt_of_le hb hs, fun j hj => (World.cell?_of_block (hU b ⟨?_, .of_cell (hcell 0 h0)⟩)).trans (hcell j hj)⟩
    exact (hlt b (by rw [hA]; rfl)).1
  · obtain ⟨u, h1, ⟨S, hS1, hS2⟩, h3⟩ := h i b hi
    exact ⟨u, h1, hS2 U (fun k hk => hU k ⟨(hS1 k hk).1.1, (hS1 k hk).2⟩) hs, h3⟩
/-- What Segment answers: batches in blocks of their own. -/
def cl.SegPost (l : List Bat) (w : World) (e : Ending) (w' : World) : Prop :=
  ∃ A c, e = .returned (.slice A l.length c) ∧ l.length ≤ c ∧ c ≤ maxLen ∧ Dep (fun q => w.heap.size ≤ q) w' (fun U => BatsAt U A l) ∧ (∀ k, (Value.slice A l.length c).ownBlock = some k → w.heap.size ≤ k) ∧ Below w.heap.size w w'
set_option maxHeartbeats 4000000 in
theorem cl.copyall_any (A : Option Addr) (n c : Nat) (bs : List Bat) (w : World) (hat : BatsAt w A bs) (hn : bs.length = n) (hsm : fo.Small bs) :
    Calls Try.prog 30 #[.slice A n c] w (cl.SegPost bs w) := by
  have hn1 : n ≤ 1000000 := by rw [← hn]; exact hsm.1
  have HAT := Lib.hid hat; clear hat
  have HN := Lib.hid hn; clear hn
  have HSM := Lib.hid hsm; clear hsm
  obtain ⟨i0, hi, hz0, hz1', hz2⟩ := info_parts fo.infoB
  have HI := Lib.hid (And.intro hi (And.intro hz0 (And.intro hz1' hz2))); clear hi hz0 hz1' hz2
  obtain ⟨wm, hmk, hom, hgm⟩ := run_make_own (P := Try.prog) w w.heap.size 31 46 i0 _ 6 Try.underlying31 HI.out.1 HI.out.2.1 HI.out.2.2.1 .i64 .i64 n (by rw [HI.out.2.2.2]; omega) (by unfold maxLen; omega) (Nat.le_refl _)
  have hbm : Below w.heap.size w wm := (Below.refl _ w).grown hgm (Nat.le_refl _) (by simp)
  have H0 := Lib.hid (And.intro hom hbm); clear hom hbm hgm
  go_enter Try.func30, Try.ntmps30
  go_wp2_with fail
  clear hmk
  go_loopw [3, 11] (fun s3 s11 wx => ∃ (k : Nat) (v : Value) (xs : List Value), v = s3 ∧ s11 = .int .i64 (k : Int) ∧ k ≤ n ∧ wx.ownsRow w.heap.size 46 6 v k xs ∧ cl.Cps w.heap.size wx v xs (bs.take k) ∧ Below w.heap.size w wx) (fun _ s11 _ => n - (intOf s11).toNat)
  case atStart => exact ⟨0, _, [], rfl, rfl, by omega, H0.out.1, fun i b h => (by simp at h), H0.out.2⟩
  case round =>
    obtain ⟨k, v, xs, rfl, rfl, hk, hown, hcps, hbw⟩ := hrel
    have HBW := Lib.hid hbw; clear hbw
    have HOWN := Lib.hid hown; clear hown
    have HCPS := Lib.hid hcps; clear hcps
    by_cases hlt : k < n
    · have hlt' : (k : Int) < n := by omega
      obtain ⟨x, hx⟩ : ∃ x, bs[k]? = some x := ⟨_, List.getElem?_eq_getElem (by rw [HN.out]; exact hlt)⟩
      obtain ⟨b2, off2, v2, hA2, hb2, d0, d1, d2, d3, d4, d5, hrecs, i0', i1', i2', i3', i4'⟩ := HAT.out.at' hx
      subst hA2
      obtain ⟨A4, c4, V4, rfl, hmc, hc4, -⟩ := id hrecs
      obtain ⟨m, hm⟩ : ∃ m, m = x.recs.length := ⟨_, rfl⟩
      obtain ⟨hm1, hrs⟩ := HSM.out.2 x (List.mem_of_getElem? hx)
      rw [← hm] at d5 hmc hrecs hm1
      have hbw0 := HBW.out
      have e0 := (hbw0.cell (p := ⟨b2, off2 + k * 6, none⟩) hb2).trans d0
      have e1 := (hbw0.cell (p := ⟨b2, off2 + k * 6 + 1, none⟩) hb2).trans d1
      have e2 := (hbw0.cell (p := ⟨b2, off2 + k * 6 + 2, none⟩) hb2).trans d2
      have e3 := (hbw0.cell (p := ⟨b2, off2 + k * 6 + 3, none⟩) hb2).trans d3
      have e4 := (hbw0.cell (p := ⟨b2, off2 + k * 6 + 4, none⟩) hb2).trans d4
      have e5 := (hbw0.cell (p := ⟨b2, off2 + k * 6 + 5, none⟩) hb2).trans d5
      have hwa : ∀ o, Below wr.heap.size wr (wr.alloc o) := fun o => (Below.refl _ _).alloc (Nat.le_refl _) _
      have hcp := fun o => fo.copyb_any x A4 m c4 (wr.alloc o) (hrecs.below (hbw0.trans ((hwa o).mono hbw0.size)) (Nat.le_refl _)) hm.symm hm1 hrs
      unfold fo.CopyBPost fo.bcells at hcp
      have HCP := Lib.hid hcp; clear hcp
      have HX := Lib.hid (And.intro hx (And.intro hm (And.intro i0' (And.intro i1' (And.intro i2' (And.intro i3' i4')))))); clear hx hm i0' i1' i2' i3' i4' d0 d1 d2 d3 d4 d5 hrecs hrs hbw0
      obtain ⟨Ar, cr, rfl, -, -⟩ := own_at HOWN.out
      have hrlt := HOWN.out.lt
      have hws := HBW.out.size
      go_wp2_with fail
      refine (HCP.out _).mono ?_
      rintro e w4 ⟨A2, c2, rfl, hrow, hb4⟩
      have hb14 : Below wr.heap.size wr w4 := (hwa _).trans (hb4.mono (by simp))
      obtain ⟨w5, hw5⟩ : ∃ w5, w5 = w4.alloc (.cells #[.int .i64 x.base, .int .i64 x.last, .int .i64 x.prod, .int .i64 x.epoch, .int .i64 x.seq, .slice A2 m c2] 46) := ⟨_, rfl⟩
      have hb45 : Below w4.heap.size w4 w5 := by rw [hw5]; exact (Below.refl _ _).alloc (Nat.le_refl _) _
      have hb15 : Below wr.heap.size wr w5 := hb14.trans (hb45.mono hb14.size)
      have hown5 := (chg_of (P := fun _ => False) hb15).own HOWN.out fun _ _ h => h.elim
      have hcps5 : cl.Cps w.heap.size w5 (.slice Ar k cr) xs (bs.take k) := fun i b hi => (HCPS.out i b hi).below hb15
      have hcp5 : cl.Cp w.heap.size w5 (.slice Ar k cr) [.int .i64 x.base, .int .i64 x.last, .int .i64 x.prod, .int .i64 x.epoch, .int .i64 x.seq, .slice A2 m c2] x := by
        refine ⟨_, rfl, (hrow.dep.below hb45).weak fun q hq _ => ?_, HX.out.2.2⟩
        have h2 := hq.1
        simp at h2
        refine ⟨by omega, fun e => ?_⟩
        have h1 := (hrlt q e).2
        omega
      have hs5 : w5.heap.size = w4.heap.size + 1 := by rw [hw5]; simp
      have hs4 := hb14.size
      have hlen0 : (bs.take k).length = k := by rw [List.length_take, HN.out]; omega
      have hxl := hown5.1
      have happ : ∀ v2 w9, w9.ownsRow w.heap.size 46 6 v2 (k + 1) (xs ++ [.int .i64 x.base, .int .i64 x.last, .int .i64 x.prod, .int .i64 x.epoch, .int .i64 x.seq, .slice A2 m c2]) → w5.grownBy w9 (Value.slice Ar k cr).ownBlock → (v2.ownBlock = (Value.slice Ar k cr).ownBlock ∨ v2.ownBlock = some w5.heap.size) →
          cl.Cps w.heap.size w9 v2 (xs ++ [.int .i64 x.base, .int .i64 x.last, .int .i64 x.prod, .int .i64 x.epoch, .int .i64 x.seq, .slice A2 m c2]) (bs.take (k + 1)) ∧ Below w.heap.size w w9 := fun v2 w9 h1 h2 h3 => by
        obtain ⟨hjl, hjy⟩ := List.getElem?_eq_some_iff.1 HX.out.1
        refine ⟨?_, (HBW.out.trans (hb15.mono hws)).grown h2 (by omega) (fun q hq => (hrlt q hq).1)⟩
        rw [List.take_succ_eq_append_getElem hjl, hjy]
        exact hcps5.snoc (by rw [hlen0]; exact hxl) hcp5 rfl h2 h3
      have HAPP := Lib.hid happ; clear happ hcps5 hcp5 hxl hlen0
      have HOWN5 := Lib.hid hown5; clear hown5 hrow hb4 hb14 hb15 hb45 hwa e0 e1 e2 e3 e4 e5
      have HW5 := Lib.hid hw5
      rw [hw5] at HAPP HOWN5 hs5
      clear hw5
      go_wp2_with (at_builtin; refine wpList_append_own_at _ rfl (.tmp 15) (.tmp 18) 31 rfl w.heap.size 46 i0 _ 6 64 Try.underlying31 HI.out.1 HI.out.2.1 HI.out.2.2.1 HI.out.2.2.2 rfl (by decide) (.slice Ar k cr) k xs rfl HOWN5.out ⟨w4.heap.size, 0, none⟩ 1 1 [.int .i64 x.base, .int .i64 x.last, .int .i64 x.prod, .int .i64 x.epoch, .int .i64 x.seq, .slice A2 m c2] rfl rfl (cells_new _ [.int .i64 x.base, .int .i64 x.last, .int .i64 x.prod, .int .i64 x.epoch, .int .i64 x.seq, .slice A2 m c2] _ _ rfl) (by simp [Value.oneCell']) (by unfold maxLen; omega) (by omega) (by rw [hs5]; omega) ?_; intro v2 w9 h1 h2 _ h3)
      have HN2 := Lib.hid (And.intro h1 (HAPP.out v2 w9 h1 h2 h3)); clear h1 h2 h3
      go_wp2_with fail
      go_roundw
      case rel => exact ⟨k + 1, v2, _, rfl, by go_num, by omega, HN2.out.1, HN2.out.2.1, HN2.out.2.2⟩
      case measure => simp [intOf]; omega
    · obtain rfl : k = n := by omega
      have hcps := HCPS.out
      rw [List.take_of_length_le (by rw [HN.out]; exact Nat.le_refl _)] at hcps
      obtain ⟨A9, c9, rfl, h1, h2, h3⟩ := hcps.dep HN.out HOWN.out
      have H9 := Lib.hid (And.intro h1 (And.intro h2 h3)); clear h1 h2 h3 hcps
      go_wp2_with fail
      go_ret
      exact ⟨A9, c9, by rw [HN.out]; rfl, by rw [HN.out]; exact H9.out.1, H9.out.2.1, H9.out.2.2.1, by rw [HN.out]; exact H9.out.2.2.2, HBW.out⟩

end Go.Proofs.Ytnlfdhoabbbheaa

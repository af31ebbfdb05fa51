/- Contracts of wire.Writer. -/
import Derived.Test.YtfblfgnnnbcplaaBlk
import Derived.Test.YtfblfgnnnbcplaaNumB
import Derived.Test.YtfblfgnnnbcplaaClone
import Derived.Deep.RegionHeldLaw
namespace Go.Proofs.Ytfblfgnnnbcplaa
open Go.RowKit

/-- A Writer at block p: v is the slice that it holds, L the bytes, bad whether it is spoilt. -/
structure Wr (w : World) (B p : Nat) (v : Value) (L : List Nat) (bad : Bool) : Prop where
  blk : Blk w p 64 #[v, .bool bad]
  row : w.ownsRow B 5 1 v L.length (u8s L)
  le : B ≤ p
def wrT (p : Nat) (v : Value) : Nat → Prop := fun k => k = p ∨ v.ownBlock = some k
/-- What a writing call leaves. -/
def WrDone (w : World) (B p : Nat) (v : Value) (L : List Nat) (bad : Bool) (w' : World) : Prop := ∃ v', Wr w' B p v' L bad ∧ Chg w w' (wrT p v) ∧ LiesU w v v'
theorem WrDone.trans {w w1 w2 : World} {B p : Nat} {v v1 : Value} {L2 : List Nat} {b2 : Bool} (hc : Chg w w1 (wrT p v)) (hl : LiesU w v v1) (h2 : WrDone w1 B p v1 L2 b2 w2) : WrDone w B p v L2 b2 w2 := by
  obtain ⟨v2, r2, c2, l2⟩ := h2
  refine ⟨v2, r2, hc.trans c2 (fun k hk hq => ?_), hl.trans l2 hc.size⟩
  rcases hq with hq | hq
  · exact .inl hq
  · rcases hl with hl | ⟨g, g1, g2⟩
    · exact .inr (by rw [← hl]; exact hq)
    · rw [g1] at hq; cases hq; omega
theorem Wr.below {w w' : World} {B p : Nat} {v : Value} {L : List Nat} {bad : Bool} (h : Wr w B p v L bad) (hc : Chg w w' (wrT p v)) : Below B w w' :=
  hc.below (by have := h.blk.lt; have := h.le; omega) fun k hk => by
    rcases hk with rfl | hk
    · exact h.le
    · exact (h.row.lt k hk).1
theorem Wr.chg {w w' : World} {B p : Nat} {v : Value} {L : List Nat} {bad : Bool} {P : Nat → Prop} (h : Wr w B p v L bad) (hc : Chg w w' P) (hp : ¬ P p) (hr : ∀ k, v.ownBlock = some k → ¬ P k) : Wr w' B p v L bad :=
  ⟨hc.blk h.blk hp, hc.own h.row hr, h.le⟩
theorem Wr.keep {w w' : World} {B p : Nat} {v : Value} {L : List Nat} {bad : Bool} (h : Wr w B p v L bad) (hb : Below w.heap.size w w') : Wr w' B p v L bad :=
  h.chg (chg_of (P := fun _ => False) hb) id fun _ _ => id
theorem Wr.alloc {w : World} {B p : Nat} {v : Value} {L : List Nat} {bad : Bool} (h : Wr w B p v L bad) (o : Obj) : Wr (w.alloc o) B p v L bad := h.keep ((Below.refl _ _).alloc (Nat.le_refl _) _)
theorem Wr.drew {w : World} {B p : Nat} {v : Value} {L : List Nat} {bad : Bool} (h : Wr w B p v L bad) : Wr w.drew B p v L bad := ⟨h.blk, h.row, h.le⟩
theorem writerByte : 64 ≠ 5 := by decide

/-- Behind an append and the store of the new slice. -/
theorem Wr.stored {w w1 : World} {B p : Nat} {v v' : Value} {L L' : List Nat} {bad : Bool} (h : Wr w B p v L bad) (hown : w1.ownsRow B 5 1 v' L'.length (u8s L')) (hg : w.grownBy w1 v.ownBlock) (hl : Lies w v v') :
    Blk w1 p 64 #[v, .bool bad] ∧ WrDone w B p v L' bad (w1.setCell ⟨p, 0, none⟩ v') := by
  have hb1 : Blk w1 p 64 #[v, .bool bad] := (Chg.grown hg).blk h.blk (h.blk.not_row writerByte h.row)
  refine ⟨hb1, v', ⟨hb1.set 0 v', (Chg.setCell w1 p 0 v').own hown fun k hk e => ?_, h.le⟩, ?_, hl.up⟩
  · subst e
    exact hb1.not_row writerByte hown hk
  · exact ((Chg.grown hg).mono fun k _ hk => .inr hk).trans (Chg.setCell w1 p 0 v') fun k _ hk => .inl hk

theorem Wr.appended {w w1 : World} {B p : Nat} {v v' : Value} {L M : List Nat} {m : Nat} {bad : Bool} (h : Wr w B p v L bad) (hM : M.length = m) (hown : w1.ownsRow B 5 1 v' (L.length + m) (u8s L ++ u8s M)) (hg : w.grownBy w1 v.ownBlock) (hl : Lies w v v') :
    ∃ A k c, v' = .slice A k c ∧ Blk w1 p 64 #[v, .bool bad] ∧ WrDone w B p v (L ++ M) bad (w1.setCell ⟨p, 0, none⟩ v') := by
  rw [← u8s_append, ← hM, ← List.length_append] at hown
  obtain ⟨h1, h2⟩ := h.stored hown hg hl
  obtain ⟨A, c, e, _, _⟩ := own_at hown
  exact ⟨A, _, c, e, h1, h2⟩
theorem undrew {w w' : World} (h : Below w.drew.heap.size w.drew w') : Below w.heap.size w w' := ⟨h.os, h.tape, h.output, h.size, h.block⟩

def WrPost (w : World) (B p : Nat) (v : Value) (L : List Nat) (bad : Bool) (e : Ending) (w' : World) : Prop := e = .returned (.pointer (some ⟨p, 0, none⟩)) ∧ WrDone w B p v L bad w'

set_option maxRecDepth 20000 in
set_option maxHeartbeats 800000 in
theorem wire.num_any (B p : Nat) (v : Value) (L : List Nat) (bad : Bool) (n : Int) (w : World) (h : Wr w B p v L bad) (hL : L.length ≤ 70368744177664) (h1 : -9223372036854775808 ≤ n) (h2 : n ≤ 9223372036854775807) :
    Calls Try.prog 27 #[.pointer (some ⟨p, 0, none⟩), .int .i64 n] w (WrPost w B p v (L ++ num.put n) bad) := by
  obtain ⟨i0, hi, hz0, hz1, hz2⟩ := info_parts infoByte
  have hpb := num.put_bd n
  have hc0 := h.blk.cell 0 (v := v) rfl
  have hf0 := h.blk.frozen 0
  have H := Lib.hid h; clear h
  go_enter Try.func27, Try.ntmps27
  go_wp2
  go_region_law
    (first
      | (refine step_app2 _ rfl (.tmp 11) (.tmp 13) 23 rfl B 5 i0 _ 1 1 Try.underlying23 hi hz0 hz1 hz2 rfl (by decide) v L.length (u8s L) rfl H1.out.row A1 (num.put n).length c1 (byteAt (num.put n)) rfl (by rw [Nat.mul_one]; exact HAT1.out) (fun j _ => byteAt_one _ j) (by unfold maxLen; omega) (by omega) (by have := H1.out.blk.lt; have := H1.out.le; omega) ?_; intro v' w2 hown2 hg2 hl2; rw [byteAt_cells_n _ _ rfl] at hown2; obtain ⟨A2, k2, c2, rfl, hb2, hd2⟩ := H1.out.appended rfl hown2 hg2 hl2; have hc2 := hb2.cell 0 (v := v) rfl; have hf2 := hb2.frozen 0; have HD2 := Lib.hid hd2; clear hd2 hg2 hl2 hown2 hb2)
      | (go_simp; go_at_call 12; refine (num.put_any n _ h1 h2).mono ?_; rintro e w1 ⟨⟨v1, rfl, hown1⟩, hb1⟩; obtain ⟨A1, c1, rfl, hc1', hl1, hat1⟩ := own_bytes hown1; have hk1 : Wr w1 B p v L bad := H.out.drew.keep hb1; have hc1 := hk1.blk.cell 0 (v := v) rfl; have hf1 := hk1.blk.frozen 0; have H1 := Lib.hid hk1; clear hk1; have HAT1 := Lib.hid hat1; clear hat1; have HB1 := Lib.hid hb1; clear hb1 hown1))
  all_goals
    go_wp2
    go_ret
    exact ⟨rfl, WrDone.trans (v1 := v) (chg_of (undrew HB1.out)) (LiesU.refl _ _) HD2.out⟩

set_option maxRecDepth 20000 in
set_option maxHeartbeats 800000 in
theorem wire.bytes_any (B p : Nat) (v : Value) (L : List Nat) (bad : Bool) (X : Option Addr) (m c : Nat) (M : List Nat) (w : World) (h : Wr w B p v L bad) (hL : L.length + m ≤ 70368744177664) (hM : M.length = m) (hat : At w X m (byteAt M)) (hx : 0 < m → ∀ b off, X = some ⟨b, off, none⟩ → v.ownBlock ≠ some b) :
    Calls Try.prog 40 #[.pointer (some ⟨p, 0, none⟩), .slice X m c] w (WrPost w B p v (L ++ num.put m ++ M) bad) := by
  obtain ⟨i0, hi, hz0, hz1, hz2⟩ := info_parts infoByte
  have hpb := num.put_bd (m : Int)
  have H := Lib.hid h; clear h
  have HAT := Lib.hid hat; clear hat
  have HX := Lib.hid hx; clear hx
  have HM := Lib.hid hM; clear hM
  go_enter Try.func40, Try.ntmps40
  go_wp2_with fail
  refine (wire.num_any B p v L bad m w H.out (by omega) (by omega) (by omega)).mono ?_
  rintro e w1 ⟨rfl, v1, hw1, hc1, hl1⟩
  have hat1 : At w1 X m (byteAt M) := hc1.at' HAT.out fun hm b off e => by
    have hne := HAT.out.not_blk hm H.out.blk (fun j u hj => by
      rcases j with _ | _ | j
      · simp at hj; subst hj; unfold byteAt; rcases H.out.row.2 with ⟨rfl, _⟩ | ⟨g, cap, cur, rfl, _⟩ <;> simp
      · simp at hj; subst hj; unfold byteAt; simp
      · simp at hj) b off e
    rintro (hh | hh)
    · exact hne hh
    · exact HX.out hm b off e hh
  have hcell := hw1.blk.cell 0 (v := v1) rfl
  have hfr := hw1.blk.frozen 0
  have H1 := Lib.hid hw1; clear hw1
  have HAT1 := Lib.hid hat1; clear hat1
  have HC1 := Lib.hid hc1; clear hc1
  have HL1 := Lib.hid hl1; clear hl1
  go_wp2_with (at_builtin; refine wpList_app2 _ rfl (.tmp 14) (.tmp 15) 23 rfl B 5 i0 _ 1 1 Try.underlying23 hi hz0 hz1 hz2 rfl (by decide) _ (L ++ num.put m).length (u8s (L ++ num.put m)) rfl H1.out.row X m c (byteAt M) rfl (by rw [Nat.mul_one]; exact HAT1.out) (fun j _ => byteAt_one _ j) (by rw [List.length_append]; unfold maxLen; omega) (by rw [List.length_append]; omega) (by have := H1.out.blk.lt; have := H1.out.le; omega) ?_; intro v' w2 hown2 hg2 hl2; rw [byteAt_cells_n _ _ HM.out] at hown2; obtain ⟨A2, k2, c2, rfl, hb2, hd2⟩ := H1.out.appended HM.out hown2 hg2 hl2; have hc2 := hb2.cell 0 (v := v1) rfl; have hf2 := hb2.frozen 0; have HD2 := Lib.hid hd2; clear hd2 hg2 hl2 hown2 hb2)
  go_ret
  exact ⟨rfl, WrDone.trans HC1.out HL1.out HD2.out⟩
end Go.Proofs.Ytfblfgnnnbcplaa

/- A wire.Writer: how it lies, what a writing call leaves. -/
import Derived.Test.YtkkpbnhagobhmaaBlk
import Derived.Test.YtkkpbnhagobhmaaByte
namespace Go.Proofs.Ytkkpbnhagobhmaa
open Go.RowKit

/-- A Writer at block p: v is the slice that it holds, L the bytes, bad whether it is spoilt. -/
structure Wr (w : World) (B p : Nat) (v : Value) (L : List Nat) (bad : Bool) : Prop where
  blk : Blk w p 96 #[v, .bool bad]
  row : w.ownsRow B 5 1 v L.length (u8s L)
  le : B ≤ p
def wrT (p : Nat) (v : Value) : Nat → Prop := fun k => k = p ∨ v.ownBlock = some k
/-- What a writing call leaves. -/
def WrDone (w : World) (B p : Nat) (v : Value) (L : List Nat) (bad : Bool) (w' : World) : Prop := ∃ v', Wr w' B p v' L bad ∧ Chg w w' (wrT p v) ∧ LiesU w v v'
theorem WrDone.trans {w w1 w2 : World} {B p : Nat} {v v1 : Value} {L2 : List Nat} {b2 : Bool} (hc : Chg w w1 (wrT p v)) (hl : LiesU w v v1) (h2 : WrDone w1 B p v1 L2 b2 w2) : WrDone w B p v L2 b2 w2 := by
  obtain ⟨v2, r2, c2, l2⟩ := h2
  refine ⟨v2, r2, hc.trans c2 (fun k hk hq => ?_), hl.trans l2 hc.size⟩
  rcases hq with hq | hq
  · exact .inl hq
  · rcases hl with hl | ⟨g, g1, g2⟩
    · exact .inr (by rw [← hl]; exact hq)
    · rw [g1] at hq; cases hq; omega
theorem Wr.below {w w' : World} {B p : Nat} {v : Value} {L : List Nat} {bad : Bool} (h : Wr w B p v L bad) (hc : Chg w w' (wrT p v)) : Below B w w' :=
  hc.below (by have := h.blk.lt; have := h.le; omega) fun k hk => by
    rcases hk with rfl | hk
    · exact h.le
    · exact (h.row.lt k hk).1
theorem Wr.chg {w w' : World} {B p : Nat} {v : Value} {L : List Nat} {bad : Bool} {P : Nat → Prop} (h : Wr w B p v L bad) (hc : Chg w w' P) (hp : ¬ P p) (hr : ∀ k, v.ownBlock = some k → ¬ P k) : Wr w' B p v L bad :=
  ⟨hc.blk h.blk hp, hc.own h.row hr, h.le⟩
theorem Wr.keep {w w' : World} {B p : Nat} {v : Value} {L : List Nat} {bad : Bool} (h : Wr w B p v L bad) (hb : Below w.heap.size w w') : Wr w' B p v L bad :=
  h.chg (chg_of (P := fun _ => False) hb) id fun _ _ => id
theorem Wr.alloc {w : World} {B p : Nat} {v : Value} {L : List Nat} {bad : Bool} (h : Wr w B p v L bad) (o : Obj) : Wr (w.alloc o) B p v L bad := h.keep ((Below.refl _ _).alloc (Nat.le_refl _) _)
theorem Wr.drew {w : World} {B p : Nat} {v : Value} {L : List Nat} {bad : Bool} (h : Wr w B p v L bad) : Wr w.drew B p v L bad := ⟨h.blk, h.row, h.le⟩
theorem Wr.new (w : World) : Wr (w.alloc (.cells #[.slice none 0 0, .bool false] 96)) w.heap.size w.heap.size (.slice none 0 0) [] false :=
  ⟨Blk.new w _ _, World.ownsRow_nil _ _ _ _, Nat.le_refl _⟩
theorem writerByte : 96 ≠ 5 := by decide

/-- Behind an append and the store of the new slice. -/
theorem Wr.stored {w w1 : World} {B p : Nat} {v v' : Value} {L L' : List Nat} {bad : Bool} (h : Wr w B p v L bad) (hown : w1.ownsRow B 5 1 v' L'.length (u8s L')) (hg : w.grownBy w1 v.ownBlock) (hl : Lies w v v') :
    Blk w1 p 96 #[v, .bool bad] ∧ WrDone w B p v L' bad (w1.setCell ⟨p, 0, none⟩ v') := by
  have hb1 : Blk w1 p 96 #[v, .bool bad] := (Chg.grown hg).blk h.blk (h.blk.not_row writerByte h.row)
  refine ⟨hb1, v', ⟨hb1.set 0 v', (Chg.setCell w1 p 0 v').own hown fun k hk e => ?_, h.le⟩, ?_, hl.up⟩
  · subst e
    exact hb1.not_row writerByte hown hk
  · exact ((Chg.grown hg).mono fun k _ hk => .inr hk).trans (Chg.setCell w1 p 0 v') fun k _ hk => .inl hk

theorem Wr.appended {w w1 : World} {B p : Nat} {v v' : Value} {L M : List Nat} {m : Nat} {bad : Bool} (h : Wr w B p v L bad) (hM : M.length = m) (hown : w1.ownsRow B 5 1 v' (L.length + m) (u8s L ++ u8s M)) (hg : w.grownBy w1 v.ownBlock) (hl : Lies w v v') :
    ∃ A k c, v' = .slice A k c ∧ Blk w1 p 96 #[v, .bool bad] ∧ WrDone w B p v (L ++ M) bad (w1.setCell ⟨p, 0, none⟩ v') := by
  rw [← u8s_append, ← hM, ← List.length_append] at hown
  obtain ⟨h1, h2⟩ := h.stored hown hg hl
  obtain ⟨A, c, e, _, _⟩ := own_at hown
  exact ⟨A, _, c, e, h1, h2⟩
theorem undrew {w w' : World} (h : Below w.drew.heap.size w.drew w') : Below w.heap.size w w' := ⟨h.os, h.tape, h.output, h.size, h.block⟩

def WrPost (w : World) (B p : Nat) (v : Value) (L : List Nat) (bad : Bool) (e : Ending) (w' : World) : Prop := e = .returned (.pointer (some ⟨p, 0, none⟩)) ∧ WrDone w B p v L bad w'

end Go.Proofs.Ytkkpbnhagobhmaa

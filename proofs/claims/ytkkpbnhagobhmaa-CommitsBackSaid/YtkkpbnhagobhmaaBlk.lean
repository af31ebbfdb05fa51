/- A block of cells known whole; which blocks a call may have turned. No function of the program is named. -/
import Derived.Test.YtkkpbnhagobhmaaApp2
import Derived.RangeFuncBox
namespace Go.Proofs.Ytkkpbnhagobhmaa
open Go.RowKit

/-- Block p holds just these cells. -/
def Blk (w : World) (p : Nat) (T : TypeId) (cs : Array Value) : Prop := w.heap[p]? = some (.cells cs T (0, 0))
theorem Blk.lt {w : World} {p : Nat} {T : TypeId} {cs : Array Value} (h : Blk w p T cs) : p < w.heap.size := (Array.getElem?_eq_some_iff.1 h).1
theorem Blk.cell {w : World} {p : Nat} {T : TypeId} {cs : Array Value} (h : Blk w p T cs) (j : Nat) {v : Value} (hj : cs[j]? = some v) : w.cell? ⟨p, j, none⟩ = some v := by
  simp [World.cell?, show w.heap[p]? = _ from h, hj]
theorem Blk.frozen {w : World} {p : Nat} {T : TypeId} {cs : Array Value} (h : Blk w p T cs) (j : Nat) : w.frozen? ⟨p, j, none⟩ = false := by
  simp [World.frozen?, show w.heap[p]? = _ from h]
theorem Blk.new (w : World) (T : TypeId) (cs : Array Value) : Blk (w.alloc (.cells cs T)) w.heap.size T cs := World.alloc_heap_new w _
theorem Blk.set {w : World} {p : Nat} {T : TypeId} {cs : Array Value} (h : Blk w p T cs) (j : Nat) (v : Value) : Blk (w.setCell ⟨p, j, none⟩ v) p T (cs.setIfInBounds j v) := by
  obtain ⟨hlt, hk⟩ := Array.getElem?_eq_some_iff.1 h
  show (w.heap.modify p _)[p]? = _
  rw [Array.getElem?_eq_getElem (by rw [Array.size_modify]; exact hlt), Array.getElem_modify_self, hk]
  rfl
theorem Blk.drew {w : World} {p : Nat} {T : TypeId} {cs : Array Value} (h : Blk w p T cs) (k : Nat) : Blk (w.drewN k) p T cs := h
theorem Blk.not_row {w : World} {p : Nat} {T : TypeId} {cs : Array Value} (h : Blk w p T cs) {e : TypeId} (hte : T ≠ e) {base size k : Nat} {v : Value} {xs : List Value} (hr : w.ownsRow base e size v k xs) : v.ownBlock ≠ some p := by
  rcases hr.2 with ⟨rfl, _⟩ | ⟨g, cap, cur, rfl, _, hgb, _⟩
  · simp [Value.ownBlock]
  · intro e'
    obtain rfl : g = p := by simpa [Value.ownBlock] using e'
    have := (show w.heap[g]? = _ from h).symm.trans hgb
    simp at this
    exact hte this.2

/-- Only blocks of P were turned, and new ones laid. -/
structure Chg (w w' : World) (P : Nat → Prop) : Prop where
  os : w'.os = w.os
  tape : w'.tape = w.tape
  output : w'.output = w.output
  size : w.heap.size ≤ w'.heap.size
  block : ∀ k, k < w.heap.size → ¬ P k → w'.heap[k]? = w.heap[k]?
theorem Chg.refl (w : World) (P : Nat → Prop) : Chg w w P := ⟨rfl, rfl, rfl, Nat.le_refl _, fun _ _ _ => rfl⟩
theorem Chg.trans {a b c : World} {P Q : Nat → Prop} (h : Chg a b P) (g : Chg b c Q) (hq : ∀ k, k < a.heap.size → Q k → P k) : Chg a c P :=
  ⟨g.os.trans h.os, g.tape.trans h.tape, g.output.trans h.output, Nat.le_trans h.size g.size, fun k hk hp => (g.block k (Nat.lt_of_lt_of_le hk h.size) fun hh => hp (hq k hk hh)).trans (h.block k hk hp)⟩
theorem Chg.mono {a b : World} {P Q : Nat → Prop} (h : Chg a b P) (hq : ∀ k, k < a.heap.size → P k → Q k) : Chg a b Q := ⟨h.os, h.tape, h.output, h.size, fun k hk hp => h.block k hk fun hh => hp (hq k hk hh)⟩
theorem Chg.below {a b : World} {P : Nat → Prop} {B : Nat} (h : Chg a b P) (hB : B ≤ a.heap.size) (hp : ∀ k, P k → B ≤ k) : Below B a b :=
  ⟨h.os, h.tape, h.output, h.size, fun k hk => h.block k (by omega) fun hh => by have := hp k hh; omega⟩
theorem chg_of {a b : World} {P : Nat → Prop} (h : Below a.heap.size a b) : Chg a b P := ⟨h.os, h.tape, h.output, h.size, fun k hk _ => h.block k hk⟩
theorem Chg.grown {a b : World} {row : Option Nat} (h : a.grownBy b row) : Chg a b (fun k => row = some k) := ⟨h.os, h.tape, h.output, h.size, fun k hk hp => h.block k hk fun e => hp e.symm⟩
theorem Chg.setCell (w : World) (b j : Nat) (v : Value) : Chg w (w.setCell ⟨b, j, none⟩ v) (fun k => k = b) :=
  ⟨rfl, rfl, rfl, by simp, fun k _ hk => Below.heap_setCell _ _ _ k (fun e => hk (by rw [e]))⟩
theorem Chg.alloc (w : World) (o : Obj) (P : Nat → Prop) : Chg w (w.alloc o) P := chg_of ((Below.refl _ _).alloc (Nat.le_refl _) _)
theorem Chg.drew {a b : World} {P : Nat → Prop} (h : Chg a b P) : Chg a b.drew P := ⟨h.os, h.tape, h.output, h.size, h.block⟩
theorem Chg.drewN {a b : World} {P : Nat → Prop} (h : Chg a b P) (n : Nat) : Chg a (b.drewN n) P := ⟨h.os, h.tape, h.output, h.size, h.block⟩
theorem Chg.blk {w w' : World} {P : Nat → Prop} {p : Nat} {T : TypeId} {cs : Array Value} (h : Chg w w' P) (hb : Blk w p T cs) (hp : ¬ P p) : Blk w' p T cs := (h.block p hb.lt hp).trans hb
theorem Chg.at' {w w' : World} {P : Nat → Prop} {A : Option Addr} {n : Nat} {V : Nat → Value} (h : Chg w w' P) (ha : At w A n V) (hp : 0 < n → ∀ b off, A = some ⟨b, off, none⟩ → ¬ P b) : At w' A n V := fun hn => by
  obtain ⟨b, off, hA, hb, hc⟩ := ha hn
  exact ⟨b, off, hA, Nat.lt_of_lt_of_le hb h.size, fun j hj => (World.cell?_of_block (h.block b hb (hp hn b off hA))).trans (hc j hj)⟩
theorem Chg.own {w w' : World} {P : Nat → Prop} {base : Nat} {e : TypeId} {size : Nat} {v : Value} {n : Nat} {xs : List Value} (h : Chg w w' P) (hr : w.ownsRow base e size v n xs) (hp : ∀ k, v.ownBlock = some k → ¬ P k) : w'.ownsRow base e size v n xs := by
  refine ⟨hr.1, ?_⟩
  rcases hr.2 with h2 | ⟨g, cap, cur, h1, h3, h4, h5⟩
  · exact .inl h2
  · refine .inr ⟨g, cap, cur, h1, h3, (h.block g (Array.getElem?_eq_some_iff.1 h4).1 (hp g ?_)).trans h4, h5⟩
    rw [h1]; rfl
/-- A slice of numbers lies in no block whose first cells are others. -/
theorem At.not_blk {w : World} {A : Option Addr} {n : Nat} {V : Nat → Value} (h : At w A n V) (hn : 0 < n) {p : Nat} {T : TypeId} {cs : Array Value} (hb : Blk w p T cs) (hne : ∀ (j : Nat) (u : Value), cs[j]? = some u → u ≠ V 0) : ∀ b off, A = some ⟨b, off, none⟩ → b ≠ p := by
  rintro b off rfl rfl
  obtain ⟨b', off', h1, _, hc⟩ := h hn
  cases h1
  have h0 := hc 0 hn
  simp only [World.cell?, show w.heap[b]? = _ from hb] at h0
  exact hne _ _ h0 rfl
/-- The slice lies where it lay, or in a block laid since. -/
def LiesU (w : World) (v v' : Value) : Prop := v'.ownBlock = v.ownBlock ∨ ∃ g, v'.ownBlock = some g ∧ w.heap.size ≤ g
theorem Lies.up {w : World} {v v' : Value} (h : Lies w v v') : LiesU w v v' := by
  rcases h with h | h
  · exact .inl h
  · exact .inr ⟨_, h, Nat.le_refl _⟩
theorem LiesU.trans {w w1 : World} {v v1 v2 : Value} (h : LiesU w v v1) (g : LiesU w1 v1 v2) (hs : w.heap.size ≤ w1.heap.size) : LiesU w v v2 := by
  rcases g with g | ⟨k, g1, g2⟩
  · rcases h with h | ⟨k, h1, h2⟩
    · exact .inl (g.trans h)
    · exact .inr ⟨k, g.trans h1, h2⟩
  · exact .inr ⟨k, g1, Nat.le_trans hs g2⟩
theorem LiesU.refl (w : World) (v : Value) : LiesU w v v := .inl rfl
end Go.Proofs.Ytkkpbnhagobhmaa

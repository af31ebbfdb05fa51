/- The walk of a map of keys (keymap.All) as the law gathers it (cordwainlaw12.keys). -/
import Derived.Test.YtbbekgliaedigaaPfB
namespace Go.Proofs.Ytbbekgliaedigaa
open Go.RowKit
set_option maxRecDepth 20000
attribute [local go_sem] Oper.semAt_some

/-- What a walk of keys keeps: the map's own blocks, texts and bytes. -/
def KTy (T : TypeId) : Prop := T = 28 ∨ T = 120 ∨ T = 9 ∨ T = 5
def KKp (b : Nat) (A B : World) : Prop := A.heap.size ≤ B.heap.size ∧ (∀ (k : Nat) (cs : Array Value) (T : TypeId) (fr : Nat × Nat), A.heap[k]? = some (.cells cs T fr) → KTy T → B.heap[k]? = some (.cells cs T fr)) ∧ (b < A.heap.size → B.heap[b]? = A.heap[b]?)
theorem KKp.trans {b : Nat} {A B C : World} (h : KKp b A B) (g : KKp b B C) : KKp b A C := ⟨Nat.le_trans h.1 g.1, fun k cs T fr hk ht => g.2.1 k cs T fr (h.2.1 k cs T fr hk ht) ht, fun hb => (g.2.2 (Nat.lt_of_lt_of_le hb h.1)).trans (h.2.2 hb)⟩
theorem KKp.below {b : Nat} {A B : World} (h : Below A.heap.size A B) : KKp b A B := ⟨h.size, fun k _ _ _ hk _ => (h.block k (heap_in hk)).trans hk, fun hb => h.block b hb⟩
theorem KKp.put {b : Nat} {W : World} {l : Nat} {o o' : Obj} (hl : W.heap[l]? = some o) (ho : o.isCells = false) (hb : l ≠ b) : KKp b W (W.putObj l o') := by
  refine ⟨by simp, fun k cs T fr hk _ => ?_, fun _ => World.putObj_heap_other (Ne.symm hb)⟩
  by_cases e : k = l
  · subst e
    rw [hl] at hk
    cases hk
    cases ho
  · rw [World.putObj_heap_other e]
    exact hk
theorem KKp.chg {b : Nat} {A B : World} {P : Nat → Prop} (h : Chg A B P) (hb : ¬ P b) (hp : ∀ k, P k → ∃ (cs : Array Value) (T : TypeId) (fr : Nat × Nat), A.heap[k]? = some (.cells cs T fr) ∧ ¬ KTy T) : KKp b A B :=
  ⟨h.size, fun k cs T fr hk ht => (h.block k (heap_in hk) fun hh => by
    obtain ⟨cs', T', fr', h1, h2⟩ := hp k hh
    rw [hk] at h1
    simp at h1
    exact h2 (h1.2.1 ▸ ht)).trans hk, fun hlt => h.block b hlt hb⟩
theorem KKp.own {b : Nat} {A B : World} (h : KKp b A B) {base s n : Nat} {e : TypeId} {v : Value} {xs : List Value} (hr : A.ownsRow base e s v n xs) (ht : KTy e) : B.ownsRow base e s v n xs := by
  refine ⟨hr.1, ?_⟩
  rcases hr.2 with h2 | ⟨g, cap, cur, h1, h3, h4, h5⟩
  · exact .inl h2
  · exact .inr ⟨g, cap, cur, h1, h3, h.2.1 _ _ _ _ h4 ht, h5⟩

/-- A value of the walk: a key, what it has, and where a copy of the key lies. -/
abbrev KX := (List Nat × Int) × (Option Addr × Nat)
def ky.encs (x : KX) : Array Value := #[.slice x.2.1 x.1.1.length x.2.2, .int .i64 x.1.2]
/-- Its key lies in a block of bytes (what a conversion lays is marked: no row of one's own). -/
def ky.R (x : KX) (W : World) : Prop := 0 < x.1.1.length → ∃ (g : Nat) (cs : Array Value) (fr : Nat × Nat), x.2.1 = some ⟨g, 0, none⟩ ∧ W.heap[g]? = some (.cells cs 5 fr) ∧ ∀ j, j < x.1.1.length → cs[j]? = some (byteAt x.1.1 j)
theorem KKp.keyR {b : Nat} {A B : World} (h : KKp b A B) {x : KX} (hr : ky.R x A) : ky.R x B := fun hn => by
  obtain ⟨g, cs, fr, h1, h2, h3⟩ := hr hn
  exact ⟨g, cs, fr, h1, h.2.1 _ _ _ _ h2 (.inr (.inr (.inr rfl))), h3⟩
def ky.S (S : List (List Nat × Int)) (xs : List KX) (_ : World) : Prop := xs.map Prod.fst = S
def ky.Sp (S : List (List Nat × Int)) (pre : List KX) (_ : World) : Prop := ∃ rest, pre.map Prod.fst ++ rest = S
def ky.Nx (S : List (List Nat × Int)) (pre : List KX) (x : KX) : Prop := ∃ rest, pre.map Prod.fst ++ x.1 :: rest = S
def KX.pair (x : KX) : PItm := ⟨x.2.1, x.1.1.length, x.2.2, x.1.1, none, 0, 0, [], x.1.2⟩
theorem ky.R_own (B : Nat) : OwnFrom B ky.R := by
  rintro x X Y row hr hg hrr hn
  obtain ⟨g, cs, fr, h1, h2, h3⟩ := hr hn
  exact ⟨g, cs, fr, h1, (grown_cells hg (fun r e => (hrr r e).2) ⟨_, h2, rfl⟩).trans h2, h3⟩

/-- What the rounds of keys keep. -/
structure ky.I (w : World) (most : Int) (pre : List KX) (W : World) : Prop where
  mo : Boxed W w.heap.size 3 (.int .i64 most)
  row : ∃ v, Boxed W (w.heap.size + 1) 33 v ∧ W.ownsRow (w.heap.size + 1 + 1) 122 3 v pre.length (pf.row (pre.map KX.pair))
  bytes : ∀ x ∈ pre, ky.R x W
  le : (pre.length : Int) ≤ most
  below : Below w.heap.size w W
theorem ky.I_own (w : World) (most : Int) {B : Nat} (hB : w.heap.size ≤ B) : OwnFrom B (ky.I w most) := by
  rintro pre X Y row h hg hr
  have hb : ∀ {B' : Nat} {t : TypeId} {v : Value}, Boxed X B' t v → Boxed Y B' t v := fun {B'} {t} {v} hv => (grown_cells hg (fun r e => (hr r e).2) ⟨_, hv, rfl⟩).trans hv
  obtain ⟨v, h1, h2⟩ := h.row
  refine ⟨hb h.mo, ⟨v, hb h1, h2.1, ?_⟩, fun x hx => ky.R_own B x X Y row (h.bytes x hx) hg hr, h.le, (ownFrom_below (β := Unit) (Nat.le_refl _) hB) () X Y row h.below hg hr⟩
  rcases h2.2 with h3 | ⟨g, cap, cur, e1, e3, e4, e5⟩
  · exact .inl h3
  · exact .inr ⟨g, cap, cur, e1, e3, (grown_cells hg (fun r e => (hr r e).2) ⟨_, e4, rfl⟩).trans e4, e5⟩
theorem ky.I_kp {b : Nat} {W w2 : World} {q base n : Nat} {v : Value} {xs : List Value} {o : Obj} (hv : Boxed W q 33 v) (hr : W.ownsRow base 122 3 v n xs) (hbq : b < q) (hbb : b < base) (hg : (W.alloc o).grownBy w2 v.ownBlock) (u : Value) : KKp b W (w2.setCell ⟨q, 0, none⟩ u) := by
  have hch : Chg W (w2.setCell ⟨q, 0, none⟩ u) (fun k => v.ownBlock = some k ∨ k = q) := (((Chg.alloc W o _).trans (Chg.grown hg) fun _ _ h => h).mono fun _ _ h => .inl h).trans (Chg.setCell _ _ _ _) fun _ _ h => .inr h
  refine KKp.chg hch (fun hk => ?_) fun k hk => ?_
  · rcases hk with hk | hk
    · have := (hr.lt b hk).1; omega
    · omega
  · rcases hk with hk | rfl
    · rcases hr.2 with ⟨rfl, _⟩ | ⟨g, cap, cur, rfl, _, h4, _⟩
      · cases hk
      · obtain rfl : g = k := by simpa [Value.ownBlock] using hk
        exact ⟨_, _, _, h4, by unfold KTy; decide⟩
    · exact ⟨_, _, _, hv, by unfold KTy; decide⟩
end Go.Proofs.Ytbbekgliaedigaa

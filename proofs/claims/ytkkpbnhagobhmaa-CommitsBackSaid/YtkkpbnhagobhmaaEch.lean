/- A loop over an iterator whose values lead to memory; what leans on blocks. No function of the program is named. -/
import Derived.Laws.ResultCell
import Derived.Scope
import Derived.Test.YtkkpbnhagobhmaaBlk
import Derived.RangeFuncBox
import Derived.RangeFuncNested
import Derived.RangeFuncWrites
import Derived.RangeFuncBound
import Derived.Test.YtkkpbnhagobhmaaProg
import Derived.RangeFuncLeaves
import Derived.Shelf.Abstract
import Derived.OwnWalkIn
import Derived.TacticsInMore
import Derived.LoopNIn
import Derived.LoopIn
import Derived.Maps.AppendAt
import Derived.Maps.OwnIn
import Derived.RangeFuncCalls
import Derived.Test.YtkkpbnhagobhmaaClone
import Derived.BigRegionIn
namespace Go.Proofs.Ytkkpbnhagobhmaa
open Go.RowKit

theorem heap_in {W : World} {k : Nat} {o : Obj} (h : W.heap[k]? = some o) : k < W.heap.size := (Array.getElem?_eq_some_iff.1 h).1
theorem grown_by {W W' : World} (h : Below W.heap.size W W') : W.grownBy W' none := ⟨h.os, h.tape, h.output, h.size, fun k hk _ => h.block k hk⟩
/-- A block of cells. -/
def CellsB (W : World) (k : Nat) : Prop := ∃ o, W.heap[k]? = some o ∧ o.isCells = true
theorem CellsB.of_cell {W : World} {b j : Nat} {v : Value} (h : W.cell? ⟨b, j, none⟩ = some v) : CellsB W b := by
  unfold World.cell? at h
  cases ho : W.heap[b]? with
  | none => simp [ho] at h
  | some o =>
    refine ⟨o, ho, ?_⟩
    cases o <;> first | rfl | (simp [ho] at h)
theorem CellsB.of_blk {W : World} {p : Nat} {T : TypeId} {cs : Array Value} (h : Blk W p T cs) : CellsB W p := ⟨_, h, rfl⟩
/-- P leans on blocks of cells for which Z is so, and on nothing else. -/
def Dep (Z : Nat → Prop) (W : World) (P : World → Prop) : Prop := ∃ S : Nat → Prop, (∀ k, S k → Z k ∧ CellsB W k) ∧ ∀ W', (∀ k, S k → W'.heap[k]? = W.heap[k]?) → W.heap.size ≤ W'.heap.size → P W'
theorem Dep.now {Z : Nat → Prop} {W : World} {P : World → Prop} (h : Dep Z W P) : P W := by
  obtain ⟨S, _, h2⟩ := h
  exact h2 W (fun _ _ => rfl) (Nat.le_refl _)
theorem Dep.move {Z Z' : Nat → Prop} {W W' : World} {P : World → Prop} (h : Dep Z W P) (hm : ∀ k o, Z k → W.heap[k]? = some o → o.isCells = true → W'.heap[k]? = some o ∧ Z' k) (hs : W.heap.size ≤ W'.heap.size) : Dep Z' W' P := by
  obtain ⟨S, h1, h2⟩ := h
  refine ⟨S, fun k hk => ?_, fun V hv hz => h2 V (fun k hk => ?_) (Nat.le_trans hs hz)⟩
  · obtain ⟨hz, o, ho, hc⟩ := h1 k hk
    obtain ⟨h3, h4⟩ := hm k o hz ho hc
    exact ⟨h4, o, h3, hc⟩
  · obtain ⟨hz, o, ho, hc⟩ := h1 k hk
    rw [hv k hk, (hm k o hz ho hc).1, ho]
theorem Dep.weak {Z Z' : Nat → Prop} {W : World} {P : World → Prop} (h : Dep Z W P) (hm : ∀ k, Z k → k < W.heap.size → Z' k) : Dep Z' W P := h.move (fun k _ hz ho _ => ⟨ho, hm k hz (heap_in ho)⟩) (Nat.le_refl _)
theorem Dep.both {Z : Nat → Prop} {W : World} {P Q : World → Prop} (h : Dep Z W P) (g : Dep Z W Q) : Dep Z W (fun V => P V ∧ Q V) := by
  obtain ⟨S, h1, h2⟩ := h
  obtain ⟨T, g1, g2⟩ := g
  exact ⟨fun k => S k ∨ T k, fun k hk => hk.elim (h1 k) (g1 k), fun V hv hz => ⟨h2 V (fun k hk => hv k (.inl hk)) hz, g2 V (fun k hk => hv k (.inr hk)) hz⟩⟩
theorem Dep.imp {Z : Nat → Prop} {W : World} {P Q : World → Prop} (h : Dep Z W P) (g : ∀ V, P V → Q V) : Dep Z W Q := by
  obtain ⟨S, h1, h2⟩ := h
  exact ⟨S, h1, fun V hv hz => g V (h2 V hv hz)⟩
/-- What is so whatever becomes of the world. -/
theorem Dep.always {Z : Nat → Prop} {W : World} {P : World → Prop} (h : ∀ V, P V) : Dep Z W P := ⟨fun _ => False, fun _ h => h.elim, fun V _ _ => h V⟩
/-- A slice's cells lean on their block. -/
theorem Dep.at' {Z : Nat → Prop} {W : World} {A : Option Addr} {n : Nat} {V : Nat → Value} (h : At W A n V) (hz : 0 < n → ∀ b off, A = some ⟨b, off, none⟩ → Z b) : Dep Z W (fun W' => At W' A n V) := by
  by_cases hn : 0 < n
  · obtain ⟨b, off, hA, hb, hc⟩ := h hn
    refine ⟨fun k => k = b, fun k hk => ?_, fun W' hv hs _ => ⟨b, off, hA, Nat.lt_of_lt_of_le hb hs, fun j hj => (World.cell?_of_block (hv b rfl)).trans (hc j hj)⟩⟩
    have hk : k = b := hk
    subst hk
    exact ⟨hz hn _ off hA, .of_cell (hc 0 hn)⟩
  · exact .always fun _ h => absurd h hn
/-- A block of cells leans on itself. -/
theorem Dep.blk {Z : Nat → Prop} {W : World} {p : Nat} {T : TypeId} {cs : Array Value} (h : Blk W p T cs) (hz : Z p) : Dep Z W (fun W' => Blk W' p T cs) :=
  ⟨fun k => k = p, fun k hk => by
    have hk : k = p := hk
    subst hk
    exact ⟨hz, .of_blk h⟩, fun W' hv _ => (hv p rfl).trans h⟩
/-- Where nothing below is turned. -/
theorem Dep.below {Z : Nat → Prop} {W W' : World} {P : World → Prop} (h : Dep Z W P) (hb : Below W.heap.size W W') : Dep Z W' P := h.move (fun k _ hz ho _ => ⟨(hb.block k (heap_in ho)).trans ho, hz⟩) hb.size

/-- The block of what lies in the box at b. -/
def boxOf (W : World) (b : Nat) : Option Nat := (W.cell? ⟨b, 0, none⟩).bind Value.ownBlock
theorem boxOf_same {W W' : World} {b : Nat} (h : W'.heap[b]? = W.heap[b]?) : boxOf W' b = boxOf W b := by
  unfold boxOf
  rw [World.cell?_of_block h]
/-- The boxes are blocks of cells, and what they hold lies in the heap. -/
def InB (Bs : List Nat) (W : World) : Prop := ∀ b ∈ Bs, CellsB W b ∧ ∀ k, boxOf W b = some k → k < W.heap.size
/-- Neither a box nor what a box holds. -/
def Safe (Bs : List Nat) (W : World) (k : Nat) : Prop := k ∉ Bs ∧ ∀ b ∈ Bs, boxOf W b ≠ some k
/-- What a round keeps that gathers in the boxes Bs: every block of cells but these, and but what they hold. -/
def Kept (Bs : List Nat) (A B : World) : Prop :=
  A.heap.size ≤ B.heap.size ∧ (∀ k o, A.heap[k]? = some o → o.isCells = true → Safe Bs A k → B.heap[k]? = some o) ∧ (∀ b ∈ Bs, ∀ k, boxOf B b = some k → (∃ c ∈ Bs, boxOf A c = some k) ∨ A.heap.size ≤ k) ∧ (InB Bs A → InB Bs B)
theorem Kept.safe {Bs : List Nat} {A B : World} (h : Kept Bs A B) {k : Nat} (hk : k < A.heap.size) (hs : Safe Bs A k) : Safe Bs B k := by
  refine ⟨hs.1, fun b hb e => ?_⟩
  rcases h.2.2.1 b hb k e with ⟨c, hc, he⟩ | hge
  · exact hs.2 c hc he
  · omega
theorem Kept.refl (Bs : List Nat) (A : World) : Kept Bs A A := ⟨Nat.le_refl _, fun _ _ h _ _ => h, fun b hb _ e => .inl ⟨b, hb, e⟩, id⟩
theorem Kept.trans {Bs : List Nat} {A B C : World} (h : Kept Bs A B) (g : Kept Bs B C) : Kept Bs A C := by
  refine ⟨Nat.le_trans h.1 g.1, fun k o hk hc hs => g.2.1 k o (h.2.1 k o hk hc hs) hc (h.safe (heap_in hk) hs), fun b hb k e => ?_, fun hi => g.2.2.2 (h.2.2.2 hi)⟩
  rcases g.2.2.1 b hb k e with ⟨c, hc, he⟩ | hge
  · exact h.2.2.1 c hc k he
  · exact .inr (Nat.le_trans h.1 hge)
theorem Dep.kept {Bs : List Nat} {A B : World} {P : World → Prop} (h : Dep (Safe Bs A) A P) (hk : Kept Bs A B) : Dep (Safe Bs B) B P :=
  h.move (fun k o hz ho hc => ⟨hk.2.1 k o ho hc hz, hk.safe (heap_in ho) hz⟩) hk.1
/-- Growth of what is no block of cells, or of nothing. -/
theorem grown_cells {A B : World} {row : Option Nat} (hg : A.grownBy B row) (hr : ∀ r, row = some r → ∃ o : Obj, A.heap[r]? = some o ∧ o.isCells = false) {k : Nat} (hc : CellsB A k) : B.heap[k]? = A.heap[k]? := by
  obtain ⟨o, ho, hoc⟩ := hc
  refine hg.block k (heap_in ho) fun e => ?_
  obtain ⟨o', ho', hoc'⟩ := hr k e.symm
  rw [ho] at ho'
  cases ho'
  rw [hoc] at hoc'
  cases hoc'
theorem InB.grown {Bs : List Nat} {A B : World} {row : Option Nat} (h : InB Bs A) (hg : A.grownBy B row) (hr : ∀ r, row = some r → ∃ o : Obj, A.heap[r]? = some o ∧ o.isCells = false) : InB Bs B := fun b hb => by
  obtain ⟨hc, hk⟩ := h b hb
  have e := grown_cells hg hr hc
  refine ⟨?_, fun k hk' => Nat.lt_of_lt_of_le (hk k (by rw [← boxOf_same e]; exact hk')) hg.size⟩
  obtain ⟨o, ho, hoc⟩ := hc
  exact ⟨o, e.trans ho, hoc⟩
theorem Dep.grown {Bs : List Nat} {A B : World} {P : World → Prop} {row : Option Nat} (h : Dep (Safe Bs A) A P) (hi : InB Bs A) (hg : A.grownBy B row) (hr : ∀ r, row = some r → ∃ o : Obj, A.heap[r]? = some o ∧ o.isCells = false) : Dep (Safe Bs B) B P :=
  h.move (fun k o hz ho hc => ⟨(grown_cells hg hr ⟨o, ho, hc⟩).trans ho, hz.1, fun b hb e => hz.2 b hb (by rw [← boxOf_same (grown_cells hg hr (hi b hb).1)]; exact e)⟩) hg.size
theorem Kept.grown {Bs : List Nat} {A B : World} {row : Option Nat} (hi : InB Bs A) (hg : A.grownBy B row) (hr : ∀ r, row = some r → ∃ o : Obj, A.heap[r]? = some o ∧ o.isCells = false) : Kept Bs A B :=
  ⟨hg.size, fun k o hk hc _ => (grown_cells hg hr ⟨o, hk, hc⟩).trans hk, fun b hb k e => .inl ⟨b, hb, by rw [← boxOf_same (grown_cells hg hr (hi b hb).1)]; exact e⟩, fun hi => hi.grown hg hr⟩
/-- The loop's record is written over. -/
theorem Kept.put {Bs : List Nat} {W : World} {l : Nat} {o o' : Obj} (hl : W.heap[l]? = some o) (ho : o.isCells = false) (hb : ∀ b ∈ Bs, b < l) : Kept Bs W (W.putObj l o') := by
  have hg := grownBy_putObj' W l o'
  have hr : ∀ r, some l = some r → ∃ o : Obj, W.heap[r]? = some o ∧ o.isCells = false := fun r e => by cases e; exact ⟨o, hl, ho⟩
  refine ⟨hg.size, fun k x hk hc _ => (grown_cells hg hr ⟨x, hk, hc⟩).trans hk, fun b hbb k e => .inl ⟨b, hbb, ?_⟩, fun hi => hi.grown hg hr⟩
  rw [← boxOf_same (World.putObj_heap_other (show b ≠ l by have := hb b hbb; omega))]
  exact e
/-- A new block is safe, and what is below stays safe. -/
theorem Safe.new {Bs : List Nat} {W : World} (hi : InB Bs W) {k : Nat} (hk : W.heap.size ≤ k) : Safe Bs W k := by
  refine ⟨fun hb => ?_, fun b hb e => ?_⟩
  · obtain ⟨⟨o, ho, _⟩, _⟩ := hi k hb
    have := heap_in ho
    omega
  · have := (hi b hb).2 k e
    omega
theorem Safe.below {Bs : List Nat} {W W' : World} (hi : InB Bs W) (hb : Below W.heap.size W W') {k : Nat} (h : Safe Bs W k) : Safe Bs W' k := by
  refine ⟨h.1, fun b hbb e => h.2 b hbb ?_⟩
  obtain ⟨⟨o, ho, _⟩, _⟩ := hi b hbb
  rw [← boxOf_same (hb.block b (heap_in ho))]
  exact e
theorem InB.below {Bs : List Nat} {W W' : World} (h : InB Bs W) (hb : Below W.heap.size W W') : InB Bs W' := h.grown (grown_by hb) (fun r e => by cases e)
theorem Dep.belowS {Bs : List Nat} {W W' : World} {P : World → Prop} (h : Dep (Safe Bs W) W P) (hi : InB Bs W) (hb : Below W.heap.size W W') : Dep (Safe Bs W') W' P := h.grown hi (grown_by hb) (fun r e => by cases e)

variable {F : Fence} {n : Nat} {P : Program}

/-- How a body is left, by the jump that it leaves behind. -/
def leftBy (B : Nat) (W : World) (R : Option Code → World → Prop) : Exit → Act → World → Prop
  | .normal, _, V => KeepsFrom B W V ∧ R none V
  | .ret, _, V => KeepsFrom B W V ∧ R (some .ret) V
  | .exit id, _, V => KeepsFrom B W V ∧ R (some (.exit id)) V
  | .goto t, _, V => KeepsFrom B W V ∧ R (some (.goto t)) V
  | .panic _, _, _ => False
  | .outgrown, _, _ => False

/-- What a round leaves: the jump, the world behind the body, the loop's record behind it. -/
def RoundLeft (mk : LoopState → Option Code → Loop) (l D : Nat) (R : Option Code → World → Prop) (e : Ending) (V : World) : Prop :=
  ∃ (j : Option Code) (U : World), R j U ∧ e = .returned (.bool j.isNone) ∧ V = U.putObj l (.loop (mk (if j.isNone then .ready else .done) j)) ∧ U.heap[l]? = some (.loop (mk .busy none)) ∧ V.heap[l]? = some (.loop (mk (if j.isNone then .ready else .done) j)) ∧ V.heap[D]? = some (.deferred (some []))

/-- One round. -/
theorem each_round {B l D fn : Nat} {tmps : Array Value} {ps : Array Tmp} {assign body : Code} {mk : LoopState → Option Code → Loop} (hmk : mk = fun st pe => { state := st, pending := pe, fn, tmps, params := ps, assign, body, defers := D })
    (hBD : B ≤ D) (hDl : D < l) (hfn : F.fn fn) {xs : Array Value} (hps : xs.size = ps.size) {W : World} (hl : W.heap[l]? = some (.loop (mk .ready none))) (hd : W.heap[D]? = some (.deferred (some []))) {a₁ : Act}
    (hassign : ∀ K : Act → World → Prop, K a₁ W → assign.wpIn (F.inRound l) n P (Exit.then K (fun _ _ _ => False)) { tmps := (ps.zip xs).foldl (fun t (p, v) => t.setIfInBounds p v) tmps, defers := [] } W)
    {R : Option Code → World → Prop} (hbody : body.wpIn (F.inRound l) n P (leftBy B (W.putObj l (.loop (mk .busy none))) R) a₁ (W.putObj l (.loop (mk .busy none)))) :
    YieldAt F n P l xs W (RoundLeft mk l D R) := by
  have hlt : l < W.heap.size := (Array.getElem?_eq_some_iff.1 hl).1
  have hl2 : (W.putObj l (.loop (mk .busy none))).heap[l]? = some (.loop (mk .busy none)) := World.putObj_heap_same hlt
  have hd2 : (W.putObj l (.loop (mk .busy none))).heap[D]? = some (.deferred (some [])) := (World.putObj_heap_other (by omega)).trans hd
  have hend : ∀ (j : Option Code) (U : World), KeepsFrom B (W.putObj l (.loop (mk .busy none))) U → R j U →
      ∃ v V, (Instr.endRound l j).run P U = .ok v V ∧ RoundLeft mk l D R (.returned v) V := fun j U hk hr => by
    have hu := hk.same l _ (by omega) hl2 rfl
    have hrun := run_endRound (P := P) j hu
    have hul : l < U.heap.size := (Array.getElem?_eq_some_iff.1 hu).1
    refine ⟨_, _, hrun, j, U, hr, rfl, ?_, hu, ?_, (World.putObj_heap_other (by omega)).trans (hk.same D _ hBD hd2 rfl)⟩
    · rw [hmk]
    · rw [hmk]
      exact World.putObj_heap_same hul
  have hy := run_yield (P := P) (args := xs) hl (by rw [hmk]; exact hps)
  rw [hmk] at hy
  refine ⟨fn, _, assign, body, hy, roundIn_of_wpIn hfn (hassign _ ⟨_, run_beginRound hl (by rw [hmk]), ?_⟩)⟩
  have e : ({ mk .ready none with state := .busy } : Loop) = mk .busy none := by rw [hmk]
  rw [e]
  refine wpIn_mono hbody ?_
  intro ex a3 V hp
  cases ex with
  | normal => exact hend none V hp.1 hp.2
  | ret => exact hend (some .ret) V hp.1 hp.2
  | exit id => exact hend (some (.exit id)) V hp.1 hp.2
  | goto t => exact hend (some (.goto t)) V hp.1 hp.2
  | panic c => exact hp.elim
  | outgrown => exact hp.elim

/-- An iterator's word: whatever J the rounds keep, each round is told R of the value that it gets; at the end S, or Sp, of what came. -/
def Hands {α : Type} (F : Fence) (n : Nat) (P : Program) (gf : Nat) (lb : Array Value) (encs : α → Array Value) (Kp : World → World → Prop) (R : α → World → Prop) (S Sp : List α → World → Prop) (Nx : List α → α → Prop) (w : World) : Prop :=
  ∀ (l : Nat) (J Jx : List α → World → Prop) (W : World), Below w.heap.size w W → AbidesFrom W.heap.size J → AbidesFrom W.heap.size Jx →
    (∀ pre x V, J pre V → R x V → Nx pre x → YieldAt F (n - 1) P l (encs x) V fun e V' =>
      (e = .returned (.bool true) ∧ J (pre ++ [x]) V' ∧ Kp V V') ∨ (e = .returned (.bool false) ∧ Jx (pre ++ [x]) V' ∧ Kp V V')) →
    J [] W → CallsIn F n P gf (#[.func (.yield l) #[] #[]] ++ lb) W fun e V => (∃ v, e = .returned v) ∧ ((∃ xs, S xs V ∧ J xs V) ∨ (∃ pre, Sp pre V ∧ Jx pre V))

/-- What a round's body owes: what it keeps, and the word of the loop, by the jump. -/
def eachLeft {α : Type} (Kp : World → World → Prop) (I : List α → World → Prop) (Ix : Code → List α → World → Prop) (xs : List α) (W : World) : Option Code → World → Prop
  | none, V => Kp W V ∧ I xs V
  | some c, V => Kp W V ∧ Ix c xs V

set_option maxHeartbeats 1000000 in
/-- **The loop.** -/
theorem for_each {α : Type} {g : Operand} {ps : Array Tmp} {assign body : Code} {Q : Exit → Act → World → Prop} {a : Act} {w : World} (hro : F.round = none) (h1 : 1 ≤ n) {gf : Nat} {lb : Array Value}
    (hg : a.eval g = .func (.func gf) #[] lb) (hFg : F.fn gf) (eg : ∀ args w, (callFunc gf args).run P w = .ok (.enter gf args) w)
    {encs : α → Array Value} {Kp : World → World → Prop} {R : α → World → Prop} {S Sp : List α → World → Prop} {Nx : List α → α → Prop} {w0 : World} (hseq : Hands F (n - 1) P gf lb encs Kp R S Sp Nx w0) (hb0 : Below w0.heap.size w0 w)
    (hKt : ∀ {A B C : World}, Kp A B → Kp B C → Kp A C) (hKb : ∀ (W : World) (l : Nat) (o o' : Obj), w.heap.size ≤ l → W.heap[l]? = some o → o.isCells = false → o.isWalk = false → Kp W (W.putObj l o'))
    (hps : ∀ x, (encs x).size = ps.size) (I : List α → World → Prop) (Ix : Code → List α → World → Prop) (hI : OwnFrom w.heap.size I) (hIx : ∀ c, OwnFrom w.heap.size (Ix c)) (hR : OwnFrom w.heap.size R) (hS : OwnFrom w.heap.size S) (hSp : OwnFrom w.heap.size Sp)
    (h0 : I [] w) (a₁ : α → Act)
    (hassign : ∀ (l : Nat) (x : α) (W : World) (K : Act → World → Prop), K (a₁ x) W → assign.wpIn (F.inRound l) (n - 1 - 1) P (Exit.then K (fun _ _ _ => False)) { tmps := (ps.zip (encs x)).foldl (fun t (p, v) => t.setIfInBounds p v) a.tmps, defers := [] } W)
    (hbody : ∀ (l : Nat) (pre : List α) (x : α) (W : World), I pre W → R x W → Nx pre x → body.wpIn (F.inRound l) (n - 1 - 1) P (leftBy w.heap.size W (eachLeft Kp I Ix (pre ++ [x]) W)) (a₁ x) W)
    (hdone : ∀ (D : Nat) (xs : List α) (W : World), w.heap.size ≤ D → S xs W → I xs W → W.heap[D]? = some (.deferred (some [])) → Q .normal { a with defers := { target := .collected D, args := #[] } :: a.defers } W)
    (hstop : ∀ (D : Nat) (c : Code) (pre : List α) (W : World), w.heap.size ≤ D → Sp pre W → Ix c pre W → W.heap[D]? = some (.deferred (some [])) → c.wpIn F n P Q { a with defers := { target := .collected D, args := #[] } :: a.defers } W) :
    (Code.rangeFunc g ps assign body).wpIn F n P Q a w := by
  refine wpIn_rangeFunc fun fn hfn => ?_
  rw [hro]
  obtain ⟨mk, hmk⟩ : ∃ mk : LoopState → Option Code → Loop, mk = fun st pe => { state := st, pending := pe, fn, tmps := a.tmps, params := ps, assign, body, defers := w.heap.size } := ⟨_, rfl⟩
  obtain ⟨V, hV⟩ : ∃ V, V = (w.alloc (.deferred (some []))).alloc (.loop (mk .ready none)) := ⟨_, rfl⟩
  have hVd : V.heap[w.heap.size]? = some (.deferred (some [])) := by rw [hV]; exact (Below.heap_alloc _ _ _ (by simp)).trans (World.alloc_heap_new w _)
  have hVl : V.heap[w.heap.size + 1]? = some (.loop (mk .ready none)) := by
    have h := World.alloc_heap_new (w.alloc (.deferred (some []))) (.loop (mk .ready none))
    rw [World.size_alloc] at h
    rw [hV]; exact h
  have hVs : V.heap.size = w.heap.size + 2 := by rw [hV]; simp
  have hVI : I [] V := by rw [hV]; exact hI.alloc _ (hI.alloc _ h0)
  have hVb : Below w0.heap.size w0 V := by rw [hV]; exact hb0.trans (((Below.refl _ w).alloc hb0.size _).alloc (by have := hb0.size; simp; omega) _)
  have hst : ∀ (st : LoopState) (pe : Option Code) (A B : World) (row : Option Nat), A.grownBy B row → (∀ r, row = some r → V.heap.size ≤ r ∧ ∃ o : Obj, A.heap[r]? = some o ∧ o.isWalk = true) →
      A.heap[w.heap.size + 1]? = some (.loop (mk st pe)) → A.heap[w.heap.size]? = some (.deferred (some [])) → B.heap[w.heap.size + 1]? = some (.loop (mk st pe)) ∧ B.heap[w.heap.size]? = some (.deferred (some [])) :=
    fun st pe A B row hg hr hl hd => ⟨(grownBy_keeps hg (fun r e => (hr r e).2) hl rfl).trans hl, (grownBy_keeps hg (fun r e => (hr r e).2) hd rfl).trans hd⟩
  have hcl : ∀ (A : World) (row : Option Nat), (∀ r, row = some r → V.heap.size ≤ r ∧ ∃ o : Obj, A.heap[r]? = some o ∧ o.isWalk = true) → ∀ r, row = some r → w.heap.size ≤ r ∧ ∃ o : Obj, A.heap[r]? = some o ∧ o.isCells = false :=
    fun A row hr r e => by
      obtain ⟨h2, o, ho, hw⟩ := hr r e
      exact ⟨by omega, o, ho, Obj.not_cells_of_walk hw⟩
  have hcall := hseq (w.heap.size + 1) (fun pre W => I pre W ∧ W.heap[w.heap.size + 1]? = some (.loop (mk .ready none)) ∧ W.heap[w.heap.size]? = some (.deferred (some [])))
    (fun pre W => ∃ c, Ix c pre W ∧ W.heap[w.heap.size + 1]? = some (.loop (mk .done (some c))) ∧ W.heap[w.heap.size]? = some (.deferred (some []))) V hVb
    (fun s A B row h hg' hr => ⟨hI s A B row h.1 hg' (hcl A row hr), hst _ _ A B row hg' hr h.2.1 h.2.2⟩)
    (fun s A B row h hg' hr => by
      obtain ⟨c, hc, hl, hd⟩ := h
      exact ⟨c, hIx c s A B row hc hg' (hcl A row hr), hst _ _ A B row hg' hr hl hd⟩)
    (fun pre x W h hr hlt => by
      obtain ⟨hi, hl, hd⟩ := h
      have hb := hbody (w.heap.size + 1) pre x (W.putObj (w.heap.size + 1) (.loop (mk .busy none))) (hI.putObj _ hi (by omega) hl rfl) (hR.putObj _ hr (by omega) hl rfl) hlt
      have hy := each_round (l := w.heap.size + 1) (D := w.heap.size) hmk (Nat.le_refl _) (by omega) hfn (hps x) hl hd (hassign _ x W) hb
      refine YieldAt.mono hy ?_
      rintro e V' ⟨j, U, hj, rfl, rfl, hu, hl', hd'⟩
      have hk1 : Kp W (W.putObj (w.heap.size + 1) (.loop (mk .busy none))) := hKb _ _ _ _ (by omega) hl rfl rfl
      cases j with
      | none => exact .inl ⟨rfl, ⟨hI.putObj _ hj.2 (by omega) hu rfl, hl', hd'⟩, hKt (hKt hk1 hj.1) (hKb _ _ _ _ (by omega) hu rfl rfl)⟩
      | some c => exact .inr ⟨rfl, ⟨c, (hIx c).putObj _ hj.2 (by omega) hu rfl, hl', hd'⟩, hKt (hKt hk1 hj.1) (hKb _ _ _ _ (by omega) hu rfl rfl)⟩)
    ⟨hVI, hVl, hVd⟩
  refine ⟨w.heap.size + 1, [{ target := .collected w.heap.size, args := #[] }], V, { target := .fn (.func gf) lb, args := #[.func (.yield (w.heap.size + 1)) #[] #[]] }, V, gf, #[.func (.yield (w.heap.size + 1)) #[] #[]] ++ lb, V, ?_, ?_, ?_, ?_, fun _ => h1, ?_⟩
  · rw [hV, hmk]; exact run_enterLoop_outer _ _ _ _ _
  · simp only [resolve, hg]
    simp [go_sem]
  · intro f' hf'
    simp [Target.leads] at hf'
    subst hf'
    exact hFg
  · simp [invoke, go_sem, eg]
  · refine hcall.mono ?_
    rintro e W ⟨⟨v, rfl⟩, (⟨xs, hs, hi, hl, hd⟩ | ⟨pre, hs, c, hi, hl, hd⟩)⟩
    · have hrun := run_endLoop (P := P) hl (by rw [hmk]; simp)
      rw [hmk] at hrun
      exact ⟨none, _, hrun, hdone _ xs _ (Nat.le_refl _) (hS.putObj _ hs (by omega) hl rfl) (hI.putObj _ hi (by omega) hl rfl) ((World.putObj_heap_other (by omega)).trans hd)⟩
    · have hrun := run_endLoop (P := P) hl (by rw [hmk]; simp)
      rw [hmk] at hrun
      exact ⟨some c, _, hrun, hstop _ c pre _ (Nat.le_refl _) (hSp.putObj _ hs (by omega) hl rfl) ((hIx c).putObj _ hi (by omega) hl rfl) ((World.putObj_heap_other (by omega)).trans hd)⟩

variable {F : Fence} {n : Nat} {P : Program}

/-- One round, whose value is put into a box first. -/
theorem each_roundB {B l D fn : Nat} {tmps : Array Value} {ps : Array Tmp} {assign body : Code} {mk : LoopState → Option Code → Loop} (hmk : mk = fun st pe => { state := st, pending := pe, fn, tmps, params := ps, assign, body, defers := D })
    (hBD : B ≤ D) (hDl : D < l) (hfn : F.fn fn) {xs : Array Value} (hps : xs.size = ps.size) {W : World} (hl : W.heap[l]? = some (.loop (mk .ready none))) (hd : W.heap[D]? = some (.deferred (some []))) {o : Obj} {a₁ : Act}
    (hassign : ∀ K : Act → World → Prop, K a₁ (W.alloc o) → assign.wpIn (F.inRound l) n P (Exit.then K (fun _ _ _ => False)) { tmps := (ps.zip xs).foldl (fun t (p, v) => t.setIfInBounds p v) tmps, defers := [] } W)
    {R : Option Code → World → Prop} (hbody : body.wpIn (F.inRound l) n P (leftBy B ((W.alloc o).putObj l (.loop (mk .busy none))) R) a₁ ((W.alloc o).putObj l (.loop (mk .busy none)))) :
    YieldAt F n P l xs W (RoundLeft mk l D R) := by
  have hl0 := hl
  have hlt0 : l < W.heap.size := (Array.getElem?_eq_some_iff.1 hl).1
  have hlt : l < (W.alloc o).heap.size := by simp; omega
  have hl1 : (W.alloc o).heap[l]? = some (.loop (mk .ready none)) := (Below.heap_alloc _ _ _ hlt0).trans hl
  have hd1 : (W.alloc o).heap[D]? = some (.deferred (some [])) := (Below.heap_alloc _ _ _ (by omega)).trans hd
  have hl2 : ((W.alloc o).putObj l (.loop (mk .busy none))).heap[l]? = some (.loop (mk .busy none)) := World.putObj_heap_same hlt
  have hd2 : ((W.alloc o).putObj l (.loop (mk .busy none))).heap[D]? = some (.deferred (some [])) := (World.putObj_heap_other (by omega)).trans hd1
  have hend : ∀ (j : Option Code) (U : World), KeepsFrom B ((W.alloc o).putObj l (.loop (mk .busy none))) U → R j U →
      ∃ v V, (Instr.endRound l j).run P U = .ok v V ∧ RoundLeft mk l D R (.returned v) V := fun j U hk hr => by
    have hu := hk.same l _ (by omega) hl2 rfl
    have hrun := run_endRound (P := P) j hu
    have hul : l < U.heap.size := (Array.getElem?_eq_some_iff.1 hu).1
    refine ⟨_, _, hrun, j, U, hr, rfl, ?_, hu, ?_, (World.putObj_heap_other (by omega)).trans (hk.same D _ hBD hd2 rfl)⟩
    · rw [hmk]
    · rw [hmk]
      exact World.putObj_heap_same hul
  have hy := run_yield (P := P) (args := xs) hl (by rw [hmk]; exact hps)
  rw [hmk] at hy
  refine ⟨fn, _, assign, body, hy, roundIn_of_wpIn hfn (hassign _ ⟨_, run_beginRound hl1 (by rw [hmk]), ?_⟩)⟩
  have e : ({ mk .ready none with state := .busy } : Loop) = mk .busy none := by rw [hmk]
  rw [e]
  refine wpIn_mono hbody ?_
  intro ex a3 V hp
  cases ex with
  | normal => exact hend none V hp.1 hp.2
  | ret => exact hend (some .ret) V hp.1 hp.2
  | exit id => exact hend (some (.exit id)) V hp.1 hp.2
  | goto t => exact hend (some (.goto t)) V hp.1 hp.2
  | panic c => exact hp.elim
  | outgrown => exact hp.elim

set_option maxHeartbeats 1000000 in
/-- **The loop**, whose values are put into boxes of their own. -/
theorem for_eachB {α : Type} {g : Operand} {ps : Array Tmp} {assign body : Code} {Q : Exit → Act → World → Prop} {a : Act} {w : World} (hro : F.round = none) (h1 : 1 ≤ n) {gf : Nat} {lb : Array Value}
    (hg : a.eval g = .func (.func gf) #[] lb) (hFg : F.fn gf) (eg : ∀ args w, (callFunc gf args).run P w = .ok (.enter gf args) w)
    {encs : α → Array Value} {Kp : World → World → Prop} {R : α → World → Prop} {S Sp : List α → World → Prop} {Nx : List α → α → Prop} {w0 : World} (hseq : Hands F (n - 1) P gf lb encs Kp R S Sp Nx w0) (hb0 : Below w0.heap.size w0 w)
    (hKt : ∀ {A B C : World}, Kp A B → Kp B C → Kp A C) (hKa : ∀ (W : World) (o : Obj), w.heap.size ≤ W.heap.size → Kp W (W.alloc o)) (hKb : ∀ (W : World) (l : Nat) (o o' : Obj), w.heap.size ≤ l → W.heap[l]? = some o → o.isCells = false → o.isWalk = false → Kp W (W.putObj l o'))
    (hps : ∀ x, (encs x).size = ps.size) (I : List α → World → Prop) (Ix : Code → List α → World → Prop) (hI : OwnFrom w.heap.size I) (hIx : ∀ c, OwnFrom w.heap.size (Ix c)) (hR : OwnFrom w.heap.size R) (hS : OwnFrom w.heap.size S) (hSp : OwnFrom w.heap.size Sp)
    (h0 : I [] w) (T : TypeId) (cs : α → Array Value) (a₁ : α → Nat → Act)
    (hassign : ∀ (l : Nat) (x : α) (W : World) (K : Act → World → Prop), K (a₁ x W.heap.size) (W.alloc (.cells (cs x) T)) → assign.wpIn (F.inRound l) (n - 1 - 1) P (Exit.then K (fun _ _ _ => False)) { tmps := (ps.zip (encs x)).foldl (fun t (p, v) => t.setIfInBounds p v) a.tmps, defers := [] } W)
    (hbody : ∀ (l : Nat) (pre : List α) (x : α) (g : Nat) (W : World), w.heap.size + 1 < g → g < W.heap.size → Blk W g T (cs x) → I pre W → R x W → Nx pre x → body.wpIn (F.inRound l) (n - 1 - 1) P (leftBy w.heap.size W (eachLeft Kp I Ix (pre ++ [x]) W)) (a₁ x g) W)
    (hdone : ∀ (D : Nat) (xs : List α) (W : World), w.heap.size ≤ D → S xs W → I xs W → W.heap[D]? = some (.deferred (some [])) → Q .normal { a with defers := { target := .collected D, args := #[] } :: a.defers } W)
    (hstop : ∀ (D : Nat) (c : Code) (pre : List α) (W : World), w.heap.size ≤ D → Sp pre W → Ix c pre W → W.heap[D]? = some (.deferred (some [])) → c.wpIn F n P Q { a with defers := { target := .collected D, args := #[] } :: a.defers } W) :
    (Code.rangeFunc g ps assign body).wpIn F n P Q a w := by
  refine wpIn_rangeFunc fun fn hfn => ?_
  rw [hro]
  obtain ⟨mk, hmk⟩ : ∃ mk : LoopState → Option Code → Loop, mk = fun st pe => { state := st, pending := pe, fn, tmps := a.tmps, params := ps, assign, body, defers := w.heap.size } := ⟨_, rfl⟩
  obtain ⟨V, hV⟩ : ∃ V, V = (w.alloc (.deferred (some []))).alloc (.loop (mk .ready none)) := ⟨_, rfl⟩
  have hVd : V.heap[w.heap.size]? = some (.deferred (some [])) := by rw [hV]; exact (Below.heap_alloc _ _ _ (by simp)).trans (World.alloc_heap_new w _)
  have hVl : V.heap[w.heap.size + 1]? = some (.loop (mk .ready none)) := by
    have h := World.alloc_heap_new (w.alloc (.deferred (some []))) (.loop (mk .ready none))
    rw [World.size_alloc] at h
    rw [hV]; exact h
  have hVs : V.heap.size = w.heap.size + 2 := by rw [hV]; simp
  have hVI : I [] V := by rw [hV]; exact hI.alloc _ (hI.alloc _ h0)
  have hVb : Below w0.heap.size w0 V := by rw [hV]; exact hb0.trans (((Below.refl _ w).alloc hb0.size _).alloc (by have := hb0.size; simp; omega) _)
  have hst : ∀ (st : LoopState) (pe : Option Code) (A B : World) (row : Option Nat), A.grownBy B row → (∀ r, row = some r → V.heap.size ≤ r ∧ ∃ o : Obj, A.heap[r]? = some o ∧ o.isWalk = true) →
      A.heap[w.heap.size + 1]? = some (.loop (mk st pe)) → A.heap[w.heap.size]? = some (.deferred (some [])) → B.heap[w.heap.size + 1]? = some (.loop (mk st pe)) ∧ B.heap[w.heap.size]? = some (.deferred (some [])) :=
    fun st pe A B row hg hr hl hd => ⟨(grownBy_keeps hg (fun r e => (hr r e).2) hl rfl).trans hl, (grownBy_keeps hg (fun r e => (hr r e).2) hd rfl).trans hd⟩
  have hcl : ∀ (A : World) (row : Option Nat), (∀ r, row = some r → V.heap.size ≤ r ∧ ∃ o : Obj, A.heap[r]? = some o ∧ o.isWalk = true) → ∀ r, row = some r → w.heap.size ≤ r ∧ ∃ o : Obj, A.heap[r]? = some o ∧ o.isCells = false :=
    fun A row hr r e => by
      obtain ⟨h2, o, ho, hw⟩ := hr r e
      exact ⟨by omega, o, ho, Obj.not_cells_of_walk hw⟩
  have hcall := hseq (w.heap.size + 1) (fun pre W => I pre W ∧ W.heap[w.heap.size + 1]? = some (.loop (mk .ready none)) ∧ W.heap[w.heap.size]? = some (.deferred (some [])))
    (fun pre W => ∃ c, Ix c pre W ∧ W.heap[w.heap.size + 1]? = some (.loop (mk .done (some c))) ∧ W.heap[w.heap.size]? = some (.deferred (some []))) V hVb
    (fun s A B row h hg' hr => ⟨hI s A B row h.1 hg' (hcl A row hr), hst _ _ A B row hg' hr h.2.1 h.2.2⟩)
    (fun s A B row h hg' hr => by
      obtain ⟨c, hc, hl, hd⟩ := h
      exact ⟨c, hIx c s A B row hc hg' (hcl A row hr), hst _ _ A B row hg' hr hl hd⟩)
    (fun pre x W h hr hlt => by
      obtain ⟨hi, hl, hd⟩ := h
      have hlW : w.heap.size + 1 < W.heap.size := (Array.getElem?_eq_some_iff.1 hl).1
      have hla : (W.alloc (.cells (cs x) T)).heap[w.heap.size + 1]? = some (.loop (mk .ready none)) := (Below.heap_alloc _ _ _ hlW).trans hl
      have hblk : Blk ((W.alloc (.cells (cs x) T)).putObj (w.heap.size + 1) (.loop (mk .busy none))) W.heap.size T (cs x) := (World.putObj_heap_other (by omega)).trans (Blk.new W T (cs x))
      have hb := hbody (w.heap.size + 1) pre x W.heap.size ((W.alloc (.cells (cs x) T)).putObj (w.heap.size + 1) (.loop (mk .busy none))) hlW (by simp) hblk (hI.putObj _ (hI.alloc _ hi) (by omega) hla rfl) (hR.putObj _ (hR.alloc _ hr) (by omega) hla rfl) hlt
      have hy := each_roundB (l := w.heap.size + 1) (D := w.heap.size) hmk (Nat.le_refl _) (by omega) hfn (hps x) hl hd (hassign _ x W) hb
      refine YieldAt.mono hy ?_
      rintro e V' ⟨j, U, hj, rfl, rfl, hu, hl', hd'⟩
      have hk1 : Kp W ((W.alloc (.cells (cs x) T)).putObj (w.heap.size + 1) (.loop (mk .busy none))) := hKt (hKa _ _ (by omega)) (hKb _ _ _ _ (by omega) hla rfl rfl)
      cases j with
      | none => exact .inl ⟨rfl, ⟨hI.putObj _ hj.2 (by omega) hu rfl, hl', hd'⟩, hKt (hKt hk1 hj.1) (hKb _ _ _ _ (by omega) hu rfl rfl)⟩
      | some c => exact .inr ⟨rfl, ⟨c, (hIx c).putObj _ hj.2 (by omega) hu rfl, hl', hd'⟩, hKt (hKt hk1 hj.1) (hKb _ _ _ _ (by omega) hu rfl rfl)⟩)
    ⟨hVI, hVl, hVd⟩
  refine ⟨w.heap.size + 1, [{ target := .collected w.heap.size, args := #[] }], V, { target := .fn (.func gf) lb, args := #[.func (.yield (w.heap.size + 1)) #[] #[]] }, V, gf, #[.func (.yield (w.heap.size + 1)) #[] #[]] ++ lb, V, ?_, ?_, ?_, ?_, fun _ => h1, ?_⟩
  · rw [hV, hmk]; exact run_enterLoop_outer _ _ _ _ _
  · simp only [resolve, hg]
    simp [go_sem]
  · intro f' hf'
    simp [Target.leads] at hf'
    subst hf'
    exact hFg
  · simp [invoke, go_sem, eg]
  · refine hcall.mono ?_
    rintro e W ⟨⟨v, rfl⟩, (⟨xs, hs, hi, hl, hd⟩ | ⟨pre, hs, c, hi, hl, hd⟩)⟩
    · have hrun := run_endLoop (P := P) hl (by rw [hmk]; simp)
      rw [hmk] at hrun
      exact ⟨none, _, hrun, hdone _ xs _ (Nat.le_refl _) (hS.putObj _ hs (by omega) hl rfl) (hI.putObj _ hi (by omega) hl rfl) ((World.putObj_heap_other (by omega)).trans hd)⟩
    · have hrun := run_endLoop (P := P) hl (by rw [hmk]; simp)
      rw [hmk] at hrun
      exact ⟨some c, _, hrun, hstop _ c pre _ (Nat.le_refl _) (hSp.putObj _ hs (by omega) hl rfl) ((hIx c).putObj _ hi (by omega) hl rfl) ((World.putObj_heap_other (by omega)).trans hd)⟩
theorem Kept.alloc {Bs : List Nat} {W : World} (o : Obj) (hb : ∀ b ∈ Bs, b < W.heap.size) : Kept Bs W (W.alloc o) := by
  have hbl : Below W.heap.size W (W.alloc o) := (Below.refl _ _).alloc (Nat.le_refl _) _
  exact ⟨hbl.size, fun k x hk _ _ => (hbl.block k (heap_in hk)).trans hk, fun b hbb k e => .inl ⟨b, hbb, by rw [← boxOf_same (hbl.block b (hb b hbb))]; exact e⟩, fun hi => hi.below hbl⟩


/-- Only blocks of cells were turned: what else there is stands. -/
theorem keeps_chg {B : Nat} {W V : World} {P : Nat → Prop} (h : Chg W V P) (hp : ∀ k, P k → CellsB W k) : KeepsFrom B W V :=
  ⟨h.size, fun k o _ hk ho => (h.block k (heap_in hk) fun hh => by
    obtain ⟨o', h1, h2⟩ := hp k hh
    rw [hk] at h1
    cases h1
    rw [ho] at h2
    cases h2).trans hk⟩
theorem Kept.boxes {Bs : List Nat} {W V : World} {P : Nat → Prop} (h : Chg W V P) (hp : ∀ k, P k → k ∈ Bs ∨ ∃ b ∈ Bs, boxOf W b = some k)
    (hb : ∀ b ∈ Bs, CellsB V b ∧ ∀ k, boxOf V b = some k → k < V.heap.size ∧ ((∃ c ∈ Bs, boxOf W c = some k) ∨ W.heap.size ≤ k)) : Kept Bs W V :=
  ⟨h.size, fun k o hk _ hs => (h.block k (heap_in hk) fun hh => by
    rcases hp k hh with hm | ⟨b, hbb, he⟩
    · exact hs.1 hm
    · exact hs.2 b hbb he).trans hk, fun b hbb k e => ((hb b hbb).2 k e).2, fun _ b hbb => ⟨(hb b hbb).1, fun k e => ((hb b hbb).2 k e).1⟩⟩
theorem boxOf_boxed {W : World} {b : Nat} {t : TypeId} {v : Value} (h : Boxed W b t v) : boxOf W b = v.ownBlock := by
  unfold boxOf
  rw [h.cell]
  rfl
theorem CellsB.of_boxed {W : World} {b : Nat} {t : TypeId} {v : Value} (h : Boxed W b t v) : CellsB W b := ⟨_, h, rfl⟩

theorem flat_get {α : Type} (f : α → List Value) (n : Nat) (hf : ∀ x, (f x).length = n) : ∀ (l : List α) (i k : Nat) (x : α), l[i]? = some x → k < n → ((l.map f).flatten).getD (i * n + k) undef = (f x).getD k undef
  | [], i, k, x, h, _ => by cases h
  | y :: l, 0, k, x, h, hk => by
    obtain rfl : y = x := by simpa using h
    rw [List.map_cons, List.flatten_cons, Nat.zero_mul, Nat.zero_add]
    simp only [List.getD]
    rw [List.getElem?_append_left (by rw [hf]; exact hk)]
  | y :: l, i + 1, k, x, h, hk => by
    have h2 : l[i]? = some x := by simpa using h
    rw [List.map_cons, List.flatten_cons, ← flat_get f n hf l i k x h2 hk]
    simp only [List.getD]
    rw [List.getElem?_append_right (by rw [hf, Nat.succ_mul]; omega), hf, show (i + 1) * n + k - n = i * n + k by rw [Nat.succ_mul]; omega]
theorem flat_len {α : Type} (f : α → List Value) (n : Nat) (hf : ∀ x, (f x).length = n) (l : List α) : ((l.map f).flatten).length = l.length * n := by
  induction l with
  | nil => simp
  | cons y l ih => rw [List.map_cons, List.flatten_cons, List.length_append, ih, hf, List.length_cons, Nat.succ_mul]; omega
theorem Dep.put {W : World} {P : World → Prop} {D : Nat} {o o' : Obj} (h : Dep (fun _ => True) W P) (hD : W.heap[D]? = some o) (ho : o.isCells = false) : P (W.putObj D o') :=
  (h.move (Z' := fun _ => True) (fun k x _ hk hc => ⟨(grown_cells (grownBy_putObj' W D o') (fun r e => by cases e; exact ⟨o, hD, ho⟩) ⟨x, hk, hc⟩).trans hk, trivial⟩) (grownBy_putObj' W D o').size).now
theorem Dep.any {Z : Nat → Prop} {W : World} {P : World → Prop} (h : Dep Z W P) : Dep (fun _ => True) W P := h.weak fun _ _ _ => trivial
/-- Rows of unlike elements lie apart. -/
theorem rows_apart {W : World} {b1 b2 s1 s2 n1 n2 : Nat} {e1 e2 : TypeId} {v1 v2 : Value} {xs1 xs2 : List Value} (h1 : W.ownsRow b1 e1 s1 v1 n1 xs1) (h2 : W.ownsRow b2 e2 s2 v2 n2 xs2) (hne : e1 ≠ e2) {k : Nat} (hk : v1.ownBlock = some k) : v2.ownBlock ≠ some k := fun hh => by
  rcases h1.2 with ⟨rfl, _⟩ | ⟨g, cap, cur, rfl, _, hg, _⟩
  · cases hk
  · rcases h2.2 with ⟨rfl, _⟩ | ⟨g', cap', cur', rfl, _, hg', _⟩
    · cases hh
    · obtain rfl : g = k := by simpa [Value.ownBlock] using hk
      obtain rfl : g' = g := by simpa [Value.ownBlock] using hh
      rw [hg] at hg'
      simp at hg'
      exact hne hg'.2
theorem own_cells {W : World} {b s n : Nat} {e : TypeId} {v : Value} {xs : List Value} (h : W.ownsRow b e s v n xs) {k : Nat} (hk : v.ownBlock = some k) : CellsB W k := by
  rcases h.2 with ⟨rfl, _⟩ | ⟨g, cap, cur, rfl, _, hg, _⟩
  · cases hk
  · obtain rfl : g = k := by simpa [Value.ownBlock] using hk
    exact ⟨_, hg, rfl⟩

/-- The cells of a new block. -/
theorem cells_new (w : World) (cs : List Value) (t : TypeId) (n : Nat) (hn : n = w.heap.size) : ∀ j u, cs[j]? = some u → (w.alloc (.cells cs.toArray t)).cell? ((⟨n, 0, none⟩ : Addr).add j) = some u := by
  subst hn
  intro j u hj
  rw [add_none, Nat.zero_add]
  have h := World.alloc_heap_new w (.cells cs.toArray t)
  unfold World.cell?
  rw [h]
  simpa using hj
theorem own_apart {W : World} {b1 b2 s1 s2 n1 n2 : Nat} {e1 e2 : TypeId} {v1 v2 : Value} {xs1 xs2 : List Value} (h1 : W.ownsRow b1 e1 s1 v1 n1 xs1) (h2 : W.ownsRow b2 e2 s2 v2 n2 xs2) (hne : e1 ≠ e2) : v1.ownBlock = none ∨ v1.ownBlock ≠ v2.ownBlock := by
  rcases h1.2 with ⟨rfl, _⟩ | ⟨g, cap, cur, rfl, _, hg, _⟩
  · exact .inl rfl
  · exact .inr fun e => rows_apart h1 h2 hne (k := g) rfl (by rw [← e]; rfl)
theorem results_tmps2 {fn : Func} {t u : Tmp} (h : fn.results = #[.tmp t, .tmp u]) (tmps : Array Value) (P : Program) (w : World) :
    (results fn tmps).run P w = .ok (.tuple #[tmps.getD t undef, tmps.getD u undef]) w := by
  simp [results, h, go_sem]
theorem stepR_scope' {P : Program} {b : Frame} {a : Act} {k : List Item} {cs : List Frame} {w : World} {c : Code} : step P (lone (b.atR a (.code (.scope c) :: k)) cs w) = .next (lone (b.atR a (.code c :: .inScope c :: k)) cs w) :=
  step_lone_go (by simp [stepG, stepG.exec, Frame.atR])
theorem stepR_inScope' {P : Program} {b : Frame} {a : Act} {k : List Item} {cs : List Frame} {w : World} {c : Code} : step P (lone (b.atR a (.inScope c :: k)) cs w) = .next (lone (b.atR a k) cs w) :=
  step_lone_go (by simp [stepG, stepG.exec, Frame.atR])
/-- A scope whose labels nothing jumps to, within a fence. -/
theorem wpIn_scope' {F : Fence} {n : Nat} {P : Program} {Q : Exit → Act → World → Prop} {a : Act} {w : World} {c : Code} (h : c.wpIn F n P (Exit.noGoto Q) a w) : (Code.scope c).wpIn F n P Q a w := by
  intro b k cs hro hb hr
  have h0 : (lone (b.atR a (.code (.scope c) :: k)) cs w).fenced P F := fenced_calm hb hr rfl
  obtain ⟨e, a₁, w₁, hq, harr⟩ := h b (.inScope c :: k) cs hro hb hr
  cases e with
  | normal => exact ⟨.normal, a₁, w₁, hq, .head h0 stepR_scope' (StepsIn.trans harr (.one (fenced_calm hb hr rfl) stepR_inScope'))⟩
  | exit id =>
    have hx : exitTo id (.inScope c :: k) = exitTo id k := by simp [exitTo]
    exact ⟨.exit id, a₁, w₁, hq, fun k' hk => .head h0 stepR_scope' (harr.1 k' (by rw [hx]; exact hk)),
      fun hr' hk => let ⟨k₁, h1, h2⟩ := harr.2 hr' (by rw [hx]; exact hk); ⟨k₁, h1, .head h0 stepR_scope' h2⟩⟩
  | goto l => exact hq.elim
  | ret => exact ⟨_, a₁, w₁, hq, .of_steps (.one h0 stepR_scope') harr⟩
  | panic ch => exact ⟨_, a₁, w₁, hq, .of_steps (.one h0 stepR_scope') harr⟩
  | outgrown => exact ⟨_, a₁, w₁, hq, .of_steps (.one h0 stepR_scope') harr⟩

theorem loadVar_int {a : Addr} {w : World} {v : Value} (h : w.cell? a = some v) : (loadVar 3 a).run Try.prog w = .ok v w := by
  unfold loadVar isAgg
  simp [go_sem, h]
theorem loadVar_bool {a : Addr} {w : World} {v : Value} (h : w.cell? a = some v) : (loadVar 4 a).run Try.prog w = .ok v w := by
  unfold loadVar isAgg
  simp [go_sem, h]
theorem results_cells2 {P : Program} {fn : Func} {p u : Tmp} {tp tu : TypeId} (h : fn.results = #[.cell p tp, .cell u tu]) (tmps : Array Value) (w : World) (ap au : Addr) (hp : tmps.getD p undef = .pointer (some ap)) (hu : tmps.getD u undef = .pointer (some au)) {vp vu : Value}
    (h1 : (loadVar tp ap).run P w = .ok vp w) (h2 : (loadVar tu au).run P w = .ok vu w) : (results fn tmps).run P w = .ok (.tuple #[vp, vu]) w := by
  simp only [Array.getD_eq_getD_getElem?] at hp hu
  simp [results, h, hp, hu, asAddr, h1, h2]
end Go.Proofs.Ytkkpbnhagobhmaa

/- The law package's found: the batches of a walk, and where they begin. -/
import Derived.Laws.ResultCell
import Derived.Scope
import Derived.Test.YtchdolcnhopmjaaBlk
import Derived.RangeFuncBox
import Derived.RangeFuncNested
import Derived.RangeFuncWrites
import Derived.RangeFuncBound
import Derived.Test.YtchdolcnhopmjaaProg
import Derived.Test.YtchdolcnhopmjaaBrA
import Derived.RangeFuncLeaves
import Derived.Shelf.Abstract
import Derived.OwnWalkIn
import Derived.TacticsInMore
import Derived.LoopNIn
import Derived.LoopIn
import Derived.Maps.AppendAt
import Derived.Maps.OwnIn
import Derived.RangeFuncCalls
import Derived.Test.YtchdolcnhopmjaaClone
import Derived.BigRegionIn
namespace Go.Proofs.Ytchdolcnhopmjaa
open Go.RowKit

theorem heap_in {W : World} {k : Nat} {o : Obj} (h : W.heap[k]? = some o) : k < W.heap.size := (Array.getElem?_eq_some_iff.1 h).1
theorem grown_by {W W' : World} (h : Below W.heap.size W W') : W.grownBy W' none := ⟨h.os, h.tape, h.output, h.size, fun k hk _ => h.block k hk⟩
/-- A block of cells. -/
def CellsB (W : World) (k : Nat) : Prop := ∃ o, W.heap[k]? = some o ∧ o.isCells = true
theorem CellsB.of_cell {W : World} {b j : Nat} {v : Value} (h : W.cell? ⟨b, j, none⟩ = some v) : CellsB W b := by
  unfold World.cell? at h
  cases ho : W.heap[b]? with
  | none => simp [ho] at h
  | some o =>
    refine ⟨o, ho, ?_⟩
    cases o <;> first | rfl | (simp [ho] at h)
theorem CellsB.of_blk {W : World} {p : Nat} {T : TypeId} {cs : Array Value} (h : Blk W p T cs) : CellsB W p := ⟨_, h, rfl⟩
/-- P leans on blocks of cells for which Z is so, and on nothing else. -/
def Dep (Z : Nat → Prop) (W : World) (P : World → Prop) : Prop := ∃ S : Nat → Prop, (∀ k, S k → Z k ∧ CellsB W k) ∧ ∀ W', (∀ k, S k → W'.heap[k]? = W.heap[k]?) → W.heap.size ≤ W'.heap.size → P W'
theorem Dep.now {Z : Nat → Prop} {W : World} {P : World → Prop} (h : Dep Z W P) : P W := by
  obtain ⟨S, _, h2⟩ := h
  exact h2 W (fun _ _ => rfl) (Nat.le_refl _)
theorem Dep.move {Z Z' : Nat → Prop} {W W' : World} {P : World → Prop} (h : Dep Z W P) (hm : ∀ k o, Z k → W.heap[k]? = some o → o.isCells = true → W'.heap[k]? = some o ∧ Z' k) (hs : W.heap.size ≤ W'.heap.size) : Dep Z' W' P := by
  obtain ⟨S, h1, h2⟩ := h
  refine ⟨S, fun k hk => ?_, fun V hv hz => h2 V (fun k hk => ?_) (Nat.le_trans hs hz)⟩
  · obtain ⟨hz, o, ho, hc⟩ := h1 k hk
    obtain ⟨h3, h4⟩ := hm k o hz ho hc
    exact ⟨h4, o, h3, hc⟩
  · obtain ⟨hz, o, ho, hc⟩ := h1 k hk
    rw [hv k hk, (hm k o hz ho hc).1, ho]
theorem Dep.weak {Z Z' : Nat → Prop} {W : World} {P : World → Prop} (h : Dep Z W P) (hm : ∀ k, Z k → k < W.heap.size → Z' k) : Dep Z' W P := h.move (fun k _ hz ho _ => ⟨ho, hm k hz (heap_in ho)⟩) (Nat.le_refl _)
theorem Dep.both {Z : Nat → Prop} {W : World} {P Q : World → Prop} (h : Dep Z W P) (g : Dep Z W Q) : Dep Z W (fun V => P V ∧ Q V) := by
  obtain ⟨S, h1, h2⟩ := h
  obtain ⟨T, g1, g2⟩ := g
  exact ⟨fun k => S k ∨ T k, fun k hk => hk.elim (h1 k) (g1 k), fun V hv hz => ⟨h2 V (fun k hk => hv k (.inl hk)) hz, g2 V (fun k hk => hv k (.inr hk)) hz⟩⟩
theorem Dep.imp {Z : Nat → Prop} {W : World} {P Q : World → Prop} (h : Dep Z W P) (g : ∀ V, P V → Q V) : Dep Z W Q := by
  obtain ⟨S, h1, h2⟩ := h
  exact ⟨S, h1, fun V hv hz => g V (h2 V hv hz)⟩
/-- What is so whatever becomes of the world. -/
theorem Dep.always {Z : Nat → Prop} {W : World} {P : World → Prop} (h : ∀ V, P V) : Dep Z W P := ⟨fun _ => False, fun _ h => h.elim, fun V _ _ => h V⟩
/-- A slice's cells lean on their block. -/
theorem Dep.at' {Z : Nat → Prop} {W : World} {A : Option Addr} {n : Nat} {V : Nat → Value} (h : At W A n V) (hz : 0 < n → ∀ b off, A = some ⟨b, off, none⟩ → Z b) : Dep Z W (fun W' => At W' A n V) := by
  by_cases hn : 0 < n
  · obtain ⟨b, off, hA, hb, hc⟩ := h hn
    refine ⟨fun k => k = b, fun k hk => ?_, fun W' hv hs _ => ⟨b, off, hA, Nat.lt_of_lt_of_le hb hs, fun j hj => (World.cell?_of_block (hv b rfl)).trans (hc j hj)⟩⟩
    have hk : k = b := hk
    subst hk
    exact ⟨hz hn _ off hA, .of_cell (hc 0 hn)⟩
  · exact .always fun _ h => absurd h hn
/-- A block of cells leans on itself. -/
theorem Dep.blk {Z : Nat → Prop} {W : World} {p : Nat} {T : TypeId} {cs : Array Value} (h : Blk W p T cs) (hz : Z p) : Dep Z W (fun W' => Blk W' p T cs) :=
  ⟨fun k => k = p, fun k hk => by
    have hk : k = p := hk
    subst hk
    exact ⟨hz, .of_blk h⟩, fun W' hv _ => (hv p rfl).trans h⟩
/-- Where nothing below is turned. -/
theorem Dep.below {Z : Nat → Prop} {W W' : World} {P : World → Prop} (h : Dep Z W P) (hb : Below W.heap.size W W') : Dep Z W' P := h.move (fun k _ hz ho _ => ⟨(hb.block k (heap_in ho)).trans ho, hz⟩) hb.size

/-- The block of what lies in the box at b. -/
def boxOf (W : World) (b : Nat) : Option Nat := (W.cell? ⟨b, 0, none⟩).bind Value.ownBlock
theorem boxOf_same {W W' : World} {b : Nat} (h : W'.heap[b]? = W.heap[b]?) : boxOf W' b = boxOf W b := by
  unfold boxOf
  rw [World.cell?_of_block h]
/-- The boxes are blocks of cells, and what they hold lies in the heap. -/
def InB (Bs : List Nat) (W : World) : Prop := ∀ b ∈ Bs, CellsB W b ∧ ∀ k, boxOf W b = some k → k < W.heap.size
/-- Neither a box nor what a box holds. -/
def Safe (Bs : List Nat) (W : World) (k : Nat) : Prop := k ∉ Bs ∧ ∀ b ∈ Bs, boxOf W b ≠ some k
/-- What a round keeps that gathers in the boxes Bs: every block of cells but these, and but what they hold. -/
def Kept (Bs : List Nat) (A B : World) : Prop :=
  A.heap.size ≤ B.heap.size ∧ (∀ k o, A.heap[k]? = some o → o.isCells = true → Safe Bs A k → B.heap[k]? = some o) ∧ (∀ b ∈ Bs, ∀ k, boxOf B b = some k → (∃ c ∈ Bs, boxOf A c = some k) ∨ A.heap.size ≤ k) ∧ (InB Bs A → InB Bs B)
theorem Kept.safe {Bs : List Nat} {A B : World} (h : Kept Bs A B) {k : Nat} (hk : k < A.heap.size) (hs : Safe Bs A k) : Safe Bs B k := by
  refine ⟨hs.1, fun b hb e => ?_⟩
  rcases h.2.2.1 b hb k e with ⟨c, hc, he⟩ | hge
  · exact hs.2 c hc he
  · omega
theorem Kept.refl (Bs : List Nat) (A : World) : Kept Bs A A := ⟨Nat.le_refl _, fun _ _ h _ _ => h, fun b hb _ e => .inl ⟨b, hb, e⟩, id⟩
theorem Kept.trans {Bs : List Nat} {A B C : World} (h : Kept Bs A B) (g : Kept Bs B C) : Kept Bs A C := by
  refine ⟨Nat.le_trans h.1 g.1, fun k o hk hc hs => g.2.1 k o (h.2.1 k o hk hc hs) hc (h.safe (heap_in hk) hs), fun b hb k e => ?_, fun hi => g.2.2.2 (h.2.2.2 hi)⟩
  rcases g.2.2.1 b hb k e with ⟨c, hc, he⟩ | hge
  · exact h.2.2.1 c hc k he
  · exact .inr (Nat.le_trans h.1 hge)
theorem Dep.kept {Bs : List Nat} {A B : World} {P : World → Prop} (h : Dep (Safe Bs A) A P) (hk : Kept Bs A B) : Dep (Safe Bs B) B P :=
  h.move (fun k o hz ho hc => ⟨hk.2.1 k o ho hc hz, hk.safe (heap_in ho) hz⟩) hk.1
/-- Growth of what is no block of cells, or of nothing. -/
theorem grown_cells {A B : World} {row : Option Nat} (hg : A.grownBy B row) (hr : ∀ r, row = some r → ∃ o : Obj, A.heap[r]? = some o ∧ o.isCells = false) {k : Nat} (hc : CellsB A k) : B.heap[k]? = A.heap[k]? := by
  obtain ⟨o, ho, hoc⟩ := hc
  refine hg.block k (heap_in ho) fun e => ?_
  obtain ⟨o', ho', hoc'⟩ := hr k e.symm
  rw [ho] at ho'
  cases ho'
  rw [hoc] at hoc'
  cases hoc'
theorem InB.grown {Bs : List Nat} {A B : World} {row : Option Nat} (h : InB Bs A) (hg : A.grownBy B row) (hr : ∀ r, row = some r → ∃ o : Obj, A.heap[r]? = some o ∧ o.isCells = false) : InB Bs B := fun b hb => by
  obtain ⟨hc, hk⟩ := h b hb
  have e := grown_cells hg hr hc
  refine ⟨?_, fun k hk' => Nat.lt_of_lt_of_le (hk k (by rw [← boxOf_same e]; exact hk')) hg.size⟩
  obtain ⟨o, ho, hoc⟩ := hc
  exact ⟨o, e.trans ho, hoc⟩
theorem Dep.grown {Bs : List Nat} {A B : World} {P : World → Prop} {row : Option Nat} (h : Dep (Safe Bs A) A P) (hi : InB Bs A) (hg : A.grownBy B row) (hr : ∀ r, row = some r → ∃ o : Obj, A.heap[r]? = some o ∧ o.isCells = false) : Dep (Safe Bs B) B P :=
  h.move (fun k o hz ho hc => ⟨(grown_cells hg hr ⟨o, ho, hc⟩).trans ho, hz.1, fun b hb e => hz.2 b hb (by rw [← boxOf_same (grown_cells hg hr (hi b hb).1)]; exact e)⟩) hg.size
theorem Kept.grown {Bs : List Nat} {A B : World} {row : Option Nat} (hi : InB Bs A) (hg : A.grownBy B row) (hr : ∀ r, row = some r → ∃ o : Obj, A.heap[r]? = some o ∧ o.isCells = false) : Kept Bs A B :=
  ⟨hg.size, fun k o hk hc _ => (grown_cells hg hr ⟨o, hk, hc⟩).trans hk, fun b hb k e => .inl ⟨b, hb, by rw [← boxOf_same (grown_cells hg hr (hi b hb).1)]; exact e⟩, fun hi => hi.grown hg hr⟩
/-- The loop's record is written over. -/
theorem Kept.put {Bs : List Nat} {W : World} {l : Nat} {o o' : Obj} (hl : W.heap[l]? = some o) (ho : o.isCells = false) (hb : ∀ b ∈ Bs, b < l) : Kept Bs W (W.putObj l o') := by
  have hg := grownBy_putObj' W l o'
  have hr : ∀ r, some l = some r → ∃ o : Obj, W.heap[r]? = some o ∧ o.isCells = false := fun r e => by cases e; exact ⟨o, hl, ho⟩
  refine ⟨hg.size, fun k x hk hc _ => (grown_cells hg hr ⟨x, hk, hc⟩).trans hk, fun b hbb k e => .inl ⟨b, hbb, ?_⟩, fun hi => hi.grown hg hr⟩
  rw [← boxOf_same (World.putObj_heap_other (show b ≠ l by have := hb b hbb; omega))]
  exact e
/-- A new block is safe, and what is below stays safe. -/
theorem Safe.new {Bs : List Nat} {W : World} (hi : InB Bs W) {k : Nat} (hk : W.heap.size ≤ k) : Safe Bs W k := by
  refine ⟨fun hb => ?_, fun b hb e => ?_⟩
  · obtain ⟨⟨o, ho, _⟩, _⟩ := hi k hb
    have := heap_in ho
    omega
  · have := (hi b hb).2 k e
    omega
theorem Safe.below {Bs : List Nat} {W W' : World} (hi : InB Bs W) (hb : Below W.heap.size W W') {k : Nat} (h : Safe Bs W k) : Safe Bs W' k := by
  refine ⟨h.1, fun b hbb e => h.2 b hbb ?_⟩
  obtain ⟨⟨o, ho, _⟩, _⟩ := hi b hbb
  rw [← boxOf_same (hb.block b (heap_in ho))]
  exact e
theorem InB.below {Bs : List Nat} {W W' : World} (h : InB Bs W) (hb : Below W.heap.size W W') : InB Bs W' := h.grown (grown_by hb) (fun r e => by cases e)
theorem Dep.belowS {Bs : List Nat} {W W' : World} {P : World → Prop} (h : Dep (Safe Bs W) W P) (hi : InB Bs W) (hb : Below W.heap.size W W') : Dep (Safe Bs W') W' P := h.grown hi (grown_by hb) (fun r e => by cases e)

variable {F : Fence} {n : Nat} {P : Program}

/-- How a body is left, by the jump that it leaves behind. -/
def leftBy (B : Nat) (W : World) (R : Option Code → World → Prop) : Exit → Act → World → Prop
  | .normal, _, V => KeepsFrom B W V ∧ R none V
  | .ret, _, V => KeepsFrom B W V ∧ R (some .ret) V
  | .exit id, _, V => KeepsFrom B W V ∧ R (some (.exit id)) V
  | .goto t, _, V => KeepsFrom B W V ∧ R (some (.goto t)) V
  | .panic _, _, _ => False
  | .outgrown, _, _ => False

/-- What a round leaves: the jump, the world behind the body, the loop's record behind it. -/
def RoundLeft (mk : LoopState → Option Code → Loop) (l D : Nat) (R : Option Code → World → Prop) (e : Ending) (V : World) : Prop :=
  ∃ (j : Option Code) (U : World), R j U ∧ e = .returned (.bool j.isNone) ∧ V = U.putObj l (.loop (mk (if j.isNone then .ready else .done) j)) ∧ U.heap[l]? = some (.loop (mk .busy none)) ∧ V.heap[l]? = some (.loop (mk (if j.isNone then .ready else .done) j)) ∧ V.heap[D]? = some (.deferred (some []))

/-- One round. -/
theorem each_round {B l D fn : Nat} {tmps : Array Value} {ps : Array Tmp} {assign body : Code} {mk : LoopState → Option Code → Loop} (hmk : mk = fun st pe => { state := st, pending := pe, fn, tmps, params := ps, assign, body, defers := D })
    (hBD : B ≤ D) (hDl : D < l) (hfn : F.fn fn) {xs : Array Value} (hps : xs.size = ps.size) {W : World} (hl : W.heap[l]? = some (.loop (mk .ready none))) (hd : W.heap[D]? = some (.deferred (some []))) {a₁ : Act}
    (hassign : ∀ K : Act → World → Prop, K a₁ W → assign.wpIn (F.inRound l) n P (Exit.then K (fun _ _ _ => False)) { tmps := (ps.zip xs).foldl (fun t (p, v) => t.setIfInBounds p v) tmps, defers := [] } W)
    {R : Option Code → World → Prop} (hbody : body.wpIn (F.inRound l) n P (leftBy B (W.putObj l (.loop (mk .busy none))) R) a₁ (W.putObj l (.loop (mk .busy none)))) :
    YieldAt F n P l xs W (RoundLeft mk l D R) := by
  have hlt : l < W.heap.size := (Array.getElem?_eq_some_iff.1 hl).1
  have hl2 : (W.putObj l (.loop (mk .busy none))).heap[l]? = some (.loop (mk .busy none)) := World.putObj_heap_same hlt
  have hd2 : (W.putObj l (.loop (mk .busy none))).heap[D]? = some (.deferred (some [])) := (World.putObj_heap_other (by omega)).trans hd
  have hend : ∀ (j : Option Code) (U : World), KeepsFrom B (W.putObj l (.loop (mk .busy none))) U → R j U →
      ∃ v V, (Instr.endRound l j).run P U = .ok v V ∧ RoundLeft mk l D R (.returned v) V := fun j U hk hr => by
    have hu := hk.same l _ (by omega) hl2 rfl
    have hrun := run_endRound (P := P) j hu
    have hul : l < U.heap.size := (Array.getElem?_eq_some_iff.1 hu).1
    refine ⟨_, _, hrun, j, U, hr, rfl, ?_, hu, ?_, (World.putObj_heap_other (by omega)).trans (hk.same D _ hBD hd2 rfl)⟩
    · rw [hmk]
    · rw [hmk]
      exact World.putObj_heap_same hul
  have hy := run_yield (P := P) (args := xs) hl (by rw [hmk]; exact hps)
  rw [hmk] at hy
  refine ⟨fn, _, assign, body, hy, roundIn_of_wpIn hfn (hassign _ ⟨_, run_beginRound hl (by rw [hmk]), ?_⟩)⟩
  have e : ({ mk .ready none with state := .busy } : Loop) = mk .busy none := by rw [hmk]
  rw [e]
  refine wpIn_mono hbody ?_
  intro ex a3 V hp
  cases ex with
  | normal => exact hend none V hp.1 hp.2
  | ret => exact hend (some .ret) V hp.1 hp.2
  | exit id => exact hend (some (.exit id)) V hp.1 hp.2
  | goto t => exact hend (some (.goto t)) V hp.1 hp.2
  | panic c => exact hp.elim
  | outgrown => exact hp.elim

/-- An iterator's word: whatever J the rounds keep, each round is told R of the value that it gets; at the end S, or Sp, of what came. -/
def Hands {α : Type} (F : Fence) (n : Nat) (P : Program) (gf : Nat) (lb : Array Value) (encs : α → Array Value) (Kp : World → World → Prop) (R : α → World → Prop) (S Sp : List α → World → Prop) (N : Nat) (w : World) : Prop :=
  ∀ (l : Nat) (J Jx : List α → World → Prop) (W : World), Below w.heap.size w W → AbidesFrom W.heap.size J → AbidesFrom W.heap.size Jx →
    (∀ pre x V, J pre V → R x V → pre.length < N → YieldAt F (n - 1) P l (encs x) V fun e V' =>
      (e = .returned (.bool true) ∧ J (pre ++ [x]) V' ∧ Kp V V') ∨ (e = .returned (.bool false) ∧ Jx (pre ++ [x]) V' ∧ Kp V V')) →
    J [] W → CallsIn F n P gf (#[.func (.yield l) #[] #[]] ++ lb) W fun e V => (∃ v, e = .returned v) ∧ ((∃ xs, S xs V ∧ J xs V) ∨ (∃ pre, Sp pre V ∧ Jx pre V))

/-- What a round's body owes: what it keeps, and the word of the loop, by the jump. -/
def eachLeft {α : Type} (Kp : World → World → Prop) (I : List α → World → Prop) (Ix : Code → List α → World → Prop) (xs : List α) (W : World) : Option Code → World → Prop
  | none, V => Kp W V ∧ I xs V
  | some c, V => Kp W V ∧ Ix c xs V

set_option maxHeartbeats 1000000 in
/-- **The loop.** -/
theorem for_each {α : Type} {g : Operand} {ps : Array Tmp} {assign body : Code} {Q : Exit → Act → World → Prop} {a : Act} {w : World} (hro : F.round = none) (h1 : 1 ≤ n) {gf : Nat} {lb : Array Value}
    (hg : a.eval g = .func (.func gf) #[] lb) (hFg : F.fn gf) (eg : ∀ args w, (callFunc gf args).run P w = .ok (.enter gf args) w)
    {encs : α → Array Value} {Kp : World → World → Prop} {R : α → World → Prop} {S Sp : List α → World → Prop} {N : Nat} {w0 : World} (hseq : Hands F (n - 1) P gf lb encs Kp R S Sp N w0) (hb0 : Below w0.heap.size w0 w)
    (hKt : ∀ {A B C : World}, Kp A B → Kp B C → Kp A C) (hKb : ∀ (W : World) (l : Nat) (o o' : Obj), w.heap.size ≤ l → W.heap[l]? = some o → o.isCells = false → o.isWalk = false → Kp W (W.putObj l o'))
    (hps : ∀ x, (encs x).size = ps.size) (I : List α → World → Prop) (Ix : Code → List α → World → Prop) (hI : OwnFrom w.heap.size I) (hIx : ∀ c, OwnFrom w.heap.size (Ix c)) (hR : OwnFrom w.heap.size R) (hS : OwnFrom w.heap.size S) (hSp : OwnFrom w.heap.size Sp)
    (h0 : I [] w) (a₁ : α → Act)
    (hassign : ∀ (l : Nat) (x : α) (W : World) (K : Act → World → Prop), K (a₁ x) W → assign.wpIn (F.inRound l) (n - 1 - 1) P (Exit.then K (fun _ _ _ => False)) { tmps := (ps.zip (encs x)).foldl (fun t (p, v) => t.setIfInBounds p v) a.tmps, defers := [] } W)
    (hbody : ∀ (l : Nat) (pre : List α) (x : α) (W : World), I pre W → R x W → pre.length < N → body.wpIn (F.inRound l) (n - 1 - 1) P (leftBy w.heap.size W (eachLeft Kp I Ix (pre ++ [x]) W)) (a₁ x) W)
    (hdone : ∀ (D : Nat) (xs : List α) (W : World), w.heap.size ≤ D → S xs W → I xs W → W.heap[D]? = some (.deferred (some [])) → Q .normal { a with defers := { target := .collected D, args := #[] } :: a.defers } W)
    (hstop : ∀ (D : Nat) (c : Code) (pre : List α) (W : World), w.heap.size ≤ D → Sp pre W → Ix c pre W → W.heap[D]? = some (.deferred (some [])) → c.wpIn F n P Q { a with defers := { target := .collected D, args := #[] } :: a.defers } W) :
    (Code.rangeFunc g ps assign body).wpIn F n P Q a w := by
  refine wpIn_rangeFunc fun fn hfn => ?_
  rw [hro]
  obtain ⟨mk, hmk⟩ : ∃ mk : LoopState → Option Code → Loop, mk = fun st pe => { state := st, pending := pe, fn, tmps := a.tmps, params := ps, assign, body, defers := w.heap.size } := ⟨_, rfl⟩
  obtain ⟨V, hV⟩ : ∃ V, V = (w.alloc (.deferred (some []))).alloc (.loop (mk .ready none)) := ⟨_, rfl⟩
  have hVd : V.heap[w.heap.size]? = some (.deferred (some [])) := by rw [hV]; exact (Below.heap_alloc _ _ _ (by simp)).trans (World.alloc_heap_new w _)
  have hVl : V.heap[w.heap.size + 1]? = some (.loop (mk .ready none)) := by
    have h := World.alloc_heap_new (w.alloc (.deferred (some []))) (.loop (mk .ready none))
    rw [World.size_alloc] at h
    rw [hV]; exact h
  have hVs : V.heap.size = w.heap.size + 2 := by rw [hV]; simp
  have hVI : I [] V := by rw [hV]; exact hI.alloc _ (hI.alloc _ h0)
  have hVb : Below w0.heap.size w0 V := by rw [hV]; exact hb0.trans (((Below.refl _ w).alloc hb0.size _).alloc (by have := hb0.size; simp; omega) _)
  have hst : ∀ (st : LoopState) (pe : Option Code) (A B : World) (row : Option Nat), A.grownBy B row → (∀ r, row = some r → V.heap.size ≤ r ∧ ∃ o : Obj, A.heap[r]? = some o ∧ o.isWalk = true) →
      A.heap[w.heap.size + 1]? = some (.loop (mk st pe)) → A.heap[w.heap.size]? = some (.deferred (some [])) → B.heap[w.heap.size + 1]? = some (.loop (mk st pe)) ∧ B.heap[w.heap.size]? = some (.deferred (some [])) :=
    fun st pe A B row hg hr hl hd => ⟨(grownBy_keeps hg (fun r e => (hr r e).2) hl rfl).trans hl, (grownBy_keeps hg (fun r e => (hr r e).2) hd rfl).trans hd⟩
  have hcl : ∀ (A : World) (row : Option Nat), (∀ r, row = some r → V.heap.size ≤ r ∧ ∃ o : Obj, A.heap[r]? = some o ∧ o.isWalk = true) → ∀ r, row = some r → w.heap.size ≤ r ∧ ∃ o : Obj, A.heap[r]? = some o ∧ o.isCells = false :=
    fun A row hr r e => by
      obtain ⟨h2, o, ho, hw⟩ := hr r e
      exact ⟨by omega, o, ho, Obj.not_cells_of_walk hw⟩
  have hcall := hseq (w.heap.size + 1) (fun pre W => I pre W ∧ W.heap[w.heap.size + 1]? = some (.loop (mk .ready none)) ∧ W.heap[w.heap.size]? = some (.deferred (some [])))
    (fun pre W => ∃ c, Ix c pre W ∧ W.heap[w.heap.size + 1]? = some (.loop (mk .done (some c))) ∧ W.heap[w.heap.size]? = some (.deferred (some []))) V hVb
    (fun s A B row h hg' hr => ⟨hI s A B row h.1 hg' (hcl A row hr), hst _ _ A B row hg' hr h.2.1 h.2.2⟩)
    (fun s A B row h hg' hr => by
      obtain ⟨c, hc, hl, hd⟩ := h
      exact ⟨c, hIx c s A B row hc hg' (hcl A row hr), hst _ _ A B row hg' hr hl hd⟩)
    (fun pre x W h hr hlt => by
      obtain ⟨hi, hl, hd⟩ := h
      have hb := hbody (w.heap.size + 1) pre x (W.putObj (w.heap.size + 1) (.loop (mk .busy none))) (hI.putObj _ hi (by omega) hl rfl) (hR.putObj _ hr (by omega) hl rfl) hlt
      have hy := each_round (l := w.heap.size + 1) (D := w.heap.size) hmk (Nat.le_refl _) (by omega) hfn (hps x) hl hd (hassign _ x W) hb
      refine YieldAt.mono hy ?_
      rintro e V' ⟨j, U, hj, rfl, rfl, hu, hl', hd'⟩
      have hk1 : Kp W (W.putObj (w.heap.size + 1) (.loop (mk .busy none))) := hKb _ _ _ _ (by omega) hl rfl rfl
      cases j with
      | none => exact .inl ⟨rfl, ⟨hI.putObj _ hj.2 (by omega) hu rfl, hl', hd'⟩, hKt (hKt hk1 hj.1) (hKb _ _ _ _ (by omega) hu rfl rfl)⟩
      | some c => exact .inr ⟨rfl, ⟨c, (hIx c).putObj _ hj.2 (by omega) hu rfl, hl', hd'⟩, hKt (hKt hk1 hj.1) (hKb _ _ _ _ (by omega) hu rfl rfl)⟩)
    ⟨hVI, hVl, hVd⟩
  refine ⟨w.heap.size + 1, [{ target := .collected w.heap.size, args := #[] }], V, { target := .fn (.func gf) lb, args := #[.func (.yield (w.heap.size + 1)) #[] #[]] }, V, gf, #[.func (.yield (w.heap.size + 1)) #[] #[]] ++ lb, V, ?_, ?_, ?_, ?_, fun _ => h1, ?_⟩
  · rw [hV, hmk]; exact run_enterLoop_outer _ _ _ _ _
  · simp only [resolve, hg]
    simp [go_sem]
  · intro f' hf'
    simp [Target.leads] at hf'
    subst hf'
    exact hFg
  · simp [invoke, go_sem, eg]
  · refine hcall.mono ?_
    rintro e W ⟨⟨v, rfl⟩, (⟨xs, hs, hi, hl, hd⟩ | ⟨pre, hs, c, hi, hl, hd⟩)⟩
    · have hrun := run_endLoop (P := P) hl (by rw [hmk]; simp)
      rw [hmk] at hrun
      exact ⟨none, _, hrun, hdone _ xs _ (Nat.le_refl _) (hS.putObj _ hs (by omega) hl rfl) (hI.putObj _ hi (by omega) hl rfl) ((World.putObj_heap_other (by omega)).trans hd)⟩
    · have hrun := run_endLoop (P := P) hl (by rw [hmk]; simp)
      rw [hmk] at hrun
      exact ⟨some c, _, hrun, hstop _ c pre _ (Nat.le_refl _) (hSp.putObj _ hs (by omega) hl rfl) ((hIx c).putObj _ hi (by omega) hl rfl) ((World.putObj_heap_other (by omega)).trans hd)⟩

variable {F : Fence} {n : Nat} {P : Program}

/-- One round, whose value is put into a box first. -/
theorem each_roundB {B l D fn : Nat} {tmps : Array Value} {ps : Array Tmp} {assign body : Code} {mk : LoopState → Option Code → Loop} (hmk : mk = fun st pe => { state := st, pending := pe, fn, tmps, params := ps, assign, body, defers := D })
    (hBD : B ≤ D) (hDl : D < l) (hfn : F.fn fn) {xs : Array Value} (hps : xs.size = ps.size) {W : World} (hl : W.heap[l]? = some (.loop (mk .ready none))) (hd : W.heap[D]? = some (.deferred (some []))) {o : Obj} {a₁ : Act}
    (hassign : ∀ K : Act → World → Prop, K a₁ (W.alloc o) → assign.wpIn (F.inRound l) n P (Exit.then K (fun _ _ _ => False)) { tmps := (ps.zip xs).foldl (fun t (p, v) => t.setIfInBounds p v) tmps, defers := [] } W)
    {R : Option Code → World → Prop} (hbody : body.wpIn (F.inRound l) n P (leftBy B ((W.alloc o).putObj l (.loop (mk .busy none))) R) a₁ ((W.alloc o).putObj l (.loop (mk .busy none)))) :
    YieldAt F n P l xs W (RoundLeft mk l D R) := by
  have hl0 := hl
  have hlt0 : l < W.heap.size := (Array.getElem?_eq_some_iff.1 hl).1
  have hlt : l < (W.alloc o).heap.size := by simp; omega
  have hl1 : (W.alloc o).heap[l]? = some (.loop (mk .ready none)) := (Below.heap_alloc _ _ _ hlt0).trans hl
  have hd1 : (W.alloc o).heap[D]? = some (.deferred (some [])) := (Below.heap_alloc _ _ _ (by omega)).trans hd
  have hl2 : ((W.alloc o).putObj l (.loop (mk .busy none))).heap[l]? = some (.loop (mk .busy none)) := World.putObj_heap_same hlt
  have hd2 : ((W.alloc o).putObj l (.loop (mk .busy none))).heap[D]? = some (.deferred (some [])) := (World.putObj_heap_other (by omega)).trans hd1
  have hend : ∀ (j : Option Code) (U : World), KeepsFrom B ((W.alloc o).putObj l (.loop (mk .busy none))) U → R j U →
      ∃ v V, (Instr.endRound l j).run P U = .ok v V ∧ RoundLeft mk l D R (.returned v) V := fun j U hk hr => by
    have hu := hk.same l _ (by omega) hl2 rfl
    have hrun := run_endRound (P := P) j hu
    have hul : l < U.heap.size := (Array.getElem?_eq_some_iff.1 hu).1
    refine ⟨_, _, hrun, j, U, hr, rfl, ?_, hu, ?_, (World.putObj_heap_other (by omega)).trans (hk.same D _ hBD hd2 rfl)⟩
    · rw [hmk]
    · rw [hmk]
      exact World.putObj_heap_same hul
  have hy := run_yield (P := P) (args := xs) hl (by rw [hmk]; exact hps)
  rw [hmk] at hy
  refine ⟨fn, _, assign, body, hy, roundIn_of_wpIn hfn (hassign _ ⟨_, run_beginRound hl1 (by rw [hmk]), ?_⟩)⟩
  have e : ({ mk .ready none with state := .busy } : Loop) = mk .busy none := by rw [hmk]
  rw [e]
  refine wpIn_mono hbody ?_
  intro ex a3 V hp
  cases ex with
  | normal => exact hend none V hp.1 hp.2
  | ret => exact hend (some .ret) V hp.1 hp.2
  | exit id => exact hend (some (.exit id)) V hp.1 hp.2
  | goto t => exact hend (some (.goto t)) V hp.1 hp.2
  | panic c => exact hp.elim
  | outgrown => exact hp.elim

set_option maxHeartbeats 1000000 in
/-- **The loop**, whose values are put into boxes of their own. -/
theorem for_eachB {α : Type} {g : Operand} {ps : Array Tmp} {assign body : Code} {Q : Exit → Act → World → Prop} {a : Act} {w : World} (hro : F.round = none) (h1 : 1 ≤ n) {gf : Nat} {lb : Array Value}
    (hg : a.eval g = .func (.func gf) #[] lb) (hFg : F.fn gf) (eg : ∀ args w, (callFunc gf args).run P w = .ok (.enter gf args) w)
    {encs : α → Array Value} {Kp : World → World → Prop} {R : α → World → Prop} {S Sp : List α → World → Prop} {N : Nat} {w0 : World} (hseq : Hands F (n - 1) P gf lb encs Kp R S Sp N w0) (hb0 : Below w0.heap.size w0 w)
    (hKt : ∀ {A B C : World}, Kp A B → Kp B C → Kp A C) (hKa : ∀ (W : World) (o : Obj), w.heap.size ≤ W.heap.size → Kp W (W.alloc o)) (hKb : ∀ (W : World) (l : Nat) (o o' : Obj), w.heap.size ≤ l → W.heap[l]? = some o → o.isCells = false → o.isWalk = false → Kp W (W.putObj l o'))
    (hps : ∀ x, (encs x).size = ps.size) (I : List α → World → Prop) (Ix : Code → List α → World → Prop) (hI : OwnFrom w.heap.size I) (hIx : ∀ c, OwnFrom w.heap.size (Ix c)) (hR : OwnFrom w.heap.size R) (hS : OwnFrom w.heap.size S) (hSp : OwnFrom w.heap.size Sp)
    (h0 : I [] w) (T : TypeId) (cs : α → Array Value) (a₁ : α → Nat → Act)
    (hassign : ∀ (l : Nat) (x : α) (W : World) (K : Act → World → Prop), K (a₁ x W.heap.size) (W.alloc (.cells (cs x) T)) → assign.wpIn (F.inRound l) (n - 1 - 1) P (Exit.then K (fun _ _ _ => False)) { tmps := (ps.zip (encs x)).foldl (fun t (p, v) => t.setIfInBounds p v) a.tmps, defers := [] } W)
    (hbody : ∀ (l : Nat) (pre : List α) (x : α) (g : Nat) (W : World), w.heap.size + 1 < g → g < W.heap.size → Blk W g T (cs x) → I pre W → R x W → pre.length < N → body.wpIn (F.inRound l) (n - 1 - 1) P (leftBy w.heap.size W (eachLeft Kp I Ix (pre ++ [x]) W)) (a₁ x g) W)
    (hdone : ∀ (D : Nat) (xs : List α) (W : World), w.heap.size ≤ D → S xs W → I xs W → W.heap[D]? = some (.deferred (some [])) → Q .normal { a with defers := { target := .collected D, args := #[] } :: a.defers } W)
    (hstop : ∀ (D : Nat) (c : Code) (pre : List α) (W : World), w.heap.size ≤ D → Sp pre W → Ix c pre W → W.heap[D]? = some (.deferred (some [])) → c.wpIn F n P Q { a with defers := { target := .collected D, args := #[] } :: a.defers } W) :
    (Code.rangeFunc g ps assign body).wpIn F n P Q a w := by
  refine wpIn_rangeFunc fun fn hfn => ?_
  rw [hro]
  obtain ⟨mk, hmk⟩ : ∃ mk : LoopState → Option Code → Loop, mk = fun st pe => { state := st, pending := pe, fn, tmps := a.tmps, params := ps, assign, body, defers := w.heap.size } := ⟨_, rfl⟩
  obtain ⟨V, hV⟩ : ∃ V, V = (w.alloc (.deferred (some []))).alloc (.loop (mk .ready none)) := ⟨_, rfl⟩
  have hVd : V.heap[w.heap.size]? = some (.deferred (some [])) := by rw [hV]; exact (Below.heap_alloc _ _ _ (by simp)).trans (World.alloc_heap_new w _)
  have hVl : V.heap[w.heap.size + 1]? = some (.loop (mk .ready none)) := by
    have h := World.alloc_heap_new (w.alloc (.deferred (some []))) (.loop (mk .ready none))
    rw [World.size_alloc] at h
    rw [hV]; exact h
  have hVs : V.heap.size = w.heap.size + 2 := by rw [hV]; simp
  have hVI : I [] V := by rw [hV]; exact hI.alloc _ (hI.alloc _ h0)
  have hVb : Below w0.heap.size w0 V := by rw [hV]; exact hb0.trans (((Below.refl _ w).alloc hb0.size _).alloc (by have := hb0.size; simp; omega) _)
  have hst : ∀ (st : LoopState) (pe : Option Code) (A B : World) (row : Option Nat), A.grownBy B row → (∀ r, row = some r → V.heap.size ≤ r ∧ ∃ o : Obj, A.heap[r]? = some o ∧ o.isWalk = true) →
      A.heap[w.heap.size + 1]? = some (.loop (mk st pe)) → A.heap[w.heap.size]? = some (.deferred (some [])) → B.heap[w.heap.size + 1]? = some (.loop (mk st pe)) ∧ B.heap[w.heap.size]? = some (.deferred (some [])) :=
    fun st pe A B row hg hr hl hd => ⟨(grownBy_keeps hg (fun r e => (hr r e).2) hl rfl).trans hl, (grownBy_keeps hg (fun r e => (hr r e).2) hd rfl).trans hd⟩
  have hcl : ∀ (A : World) (row : Option Nat), (∀ r, row = some r → V.heap.size ≤ r ∧ ∃ o : Obj, A.heap[r]? = some o ∧ o.isWalk = true) → ∀ r, row = some r → w.heap.size ≤ r ∧ ∃ o : Obj, A.heap[r]? = some o ∧ o.isCells = false :=
    fun A row hr r e => by
      obtain ⟨h2, o, ho, hw⟩ := hr r e
      exact ⟨by omega, o, ho, Obj.not_cells_of_walk hw⟩
  have hcall := hseq (w.heap.size + 1) (fun pre W => I pre W ∧ W.heap[w.heap.size + 1]? = some (.loop (mk .ready none)) ∧ W.heap[w.heap.size]? = some (.deferred (some [])))
    (fun pre W => ∃ c, Ix c pre W ∧ W.heap[w.heap.size + 1]? = some (.loop (mk .done (some c))) ∧ W.heap[w.heap.size]? = some (.deferred (some []))) V hVb
    (fun s A B row h hg' hr => ⟨hI s A B row h.1 hg' (hcl A row hr), hst _ _ A B row hg' hr h.2.1 h.2.2⟩)
    (fun s A B row h hg' hr => by
      obtain ⟨c, hc, hl, hd⟩ := h
      exact ⟨c, hIx c s A B row hc hg' (hcl A row hr), hst _ _ A B row hg' hr hl hd⟩)
    (fun pre x W h hr hlt => by
      obtain ⟨hi, hl, hd⟩ := h
      have hlW : w.heap.size + 1 < W.heap.size := (Array.getElem?_eq_some_iff.1 hl).1
      have hla : (W.alloc (.cells (cs x) T)).heap[w.heap.size + 1]? = some (.loop (mk .ready none)) := (Below.heap_alloc _ _ _ hlW).trans hl
      have hblk : Blk ((W.alloc (.cells (cs x) T)).putObj (w.heap.size + 1) (.loop (mk .busy none))) W.heap.size T (cs x) := (World.putObj_heap_other (by omega)).trans (Blk.new W T (cs x))
      have hb := hbody (w.heap.size + 1) pre x W.heap.size ((W.alloc (.cells (cs x) T)).putObj (w.heap.size + 1) (.loop (mk .busy none))) hlW (by simp) hblk (hI.putObj _ (hI.alloc _ hi) (by omega) hla rfl) (hR.putObj _ (hR.alloc _ hr) (by omega) hla rfl) hlt
      have hy := each_roundB (l := w.heap.size + 1) (D := w.heap.size) hmk (Nat.le_refl _) (by omega) hfn (hps x) hl hd (hassign _ x W) hb
      refine YieldAt.mono hy ?_
      rintro e V' ⟨j, U, hj, rfl, rfl, hu, hl', hd'⟩
      have hk1 : Kp W ((W.alloc (.cells (cs x) T)).putObj (w.heap.size + 1) (.loop (mk .busy none))) := hKt (hKa _ _ (by omega)) (hKb _ _ _ _ (by omega) hla rfl rfl)
      cases j with
      | none => exact .inl ⟨rfl, ⟨hI.putObj _ hj.2 (by omega) hu rfl, hl', hd'⟩, hKt (hKt hk1 hj.1) (hKb _ _ _ _ (by omega) hu rfl rfl)⟩
      | some c => exact .inr ⟨rfl, ⟨c, (hIx c).putObj _ hj.2 (by omega) hu rfl, hl', hd'⟩, hKt (hKt hk1 hj.1) (hKb _ _ _ _ (by omega) hu rfl rfl)⟩)
    ⟨hVI, hVl, hVd⟩
  refine ⟨w.heap.size + 1, [{ target := .collected w.heap.size, args := #[] }], V, { target := .fn (.func gf) lb, args := #[.func (.yield (w.heap.size + 1)) #[] #[]] }, V, gf, #[.func (.yield (w.heap.size + 1)) #[] #[]] ++ lb, V, ?_, ?_, ?_, ?_, fun _ => h1, ?_⟩
  · rw [hV, hmk]; exact run_enterLoop_outer _ _ _ _ _
  · simp only [resolve, hg]
    simp [go_sem]
  · intro f' hf'
    simp [Target.leads] at hf'
    subst hf'
    exact hFg
  · simp [invoke, go_sem, eg]
  · refine hcall.mono ?_
    rintro e W ⟨⟨v, rfl⟩, (⟨xs, hs, hi, hl, hd⟩ | ⟨pre, hs, c, hi, hl, hd⟩)⟩
    · have hrun := run_endLoop (P := P) hl (by rw [hmk]; simp)
      rw [hmk] at hrun
      exact ⟨none, _, hrun, hdone _ xs _ (Nat.le_refl _) (hS.putObj _ hs (by omega) hl rfl) (hI.putObj _ hi (by omega) hl rfl) ((World.putObj_heap_other (by omega)).trans hd)⟩
    · have hrun := run_endLoop (P := P) hl (by rw [hmk]; simp)
      rw [hmk] at hrun
      exact ⟨some c, _, hrun, hstop _ c pre _ (Nat.le_refl _) (hSp.putObj _ hs (by omega) hl rfl) ((hIx c).putObj _ hi (by omega) hl rfl) ((World.putObj_heap_other (by omega)).trans hd)⟩
theorem Kept.alloc {Bs : List Nat} {W : World} (o : Obj) (hb : ∀ b ∈ Bs, b < W.heap.size) : Kept Bs W (W.alloc o) := by
  have hbl : Below W.heap.size W (W.alloc o) := (Below.refl _ _).alloc (Nat.le_refl _) _
  exact ⟨hbl.size, fun k x hk _ _ => (hbl.block k (heap_in hk)).trans hk, fun b hbb k e => .inl ⟨b, hbb, by rw [← boxOf_same (hbl.block b (hb b hbb))]; exact e⟩, fun hi => hi.below hbl⟩

/-- The batches from at on, with rising offsets; and where each begins. -/
def dec.walkG (o : Option (Bat × Nat)) (at' : Nat) (ahead : Int) (k : Nat → Int → List (Nat × Bat)) : List (Nat × Bat) :=
  match o with
  | none => []
  | some (b, u) => if b.base ≤ ahead then [] else (at', b) :: k (at' + u) b.last
def dec.walkF : Nat → List Nat → Nat → Int → List (Nat × Bat)
  | 0, _, _, _ => []
  | g + 1, L, at', ahead => dec.walkG (dec.first (L.drop at')) at' ahead (dec.walkF g L)
theorem dec.walkF_succ (g : Nat) (L : List Nat) (at' : Nat) (ahead : Int) : dec.walkF (g + 1) L at' ahead = dec.walkG (dec.first (L.drop at')) at' ahead (dec.walkF g L) := by rw [dec.walkF]
def dec.walk (L : List Nat) : List (Nat × Bat) := dec.walkF L.length L 0 (-1)
theorem dec.walk_none {L : List Nat} {at' g : Nat} {ahead : Int} (h : dec.first (L.drop at') = none) : dec.walkF g L at' ahead = [] := by
  cases g with
  | zero => rfl
  | succ g => rw [dec.walkF_succ, h]; rfl
theorem dec.walk_low {L : List Nat} {at' g u : Nat} {b : Bat} {ahead : Int} (h : dec.first (L.drop at') = some (b, u)) (hl : b.base ≤ ahead) : dec.walkF g L at' ahead = [] := by
  cases g with
  | zero => rfl
  | succ g => rw [dec.walkF_succ, h]; exact if_pos hl
theorem dec.first_nil : dec.first [] = none := by decide
theorem dec.walk_end {L : List Nat} {at' g : Nat} {ahead : Int} (h : L.length ≤ at') : dec.walkF g L at' ahead = [] :=
  dec.walk_none (by rw [List.drop_eq_nil_of_le h]; exact dec.first_nil)
/-- What is so of a batch that is walked. -/
structure dec.Is (L : List Nat) (at' : Nat) (b : Bat) (u : Nat) : Prop where
  first : dec.first (L.drop at') = some (b, u)
  check : b.check = 0
  low : 50 ≤ u
  fits : at' + u ≤ L.length
  bytes : (L.drop at').take u = b.bytes
  size : (u : Int) = b.size
theorem dec.is_of {L : List Nat} (hL : ∀ x ∈ L, x < 256) {at' u : Nat} {b : Bat} (h : dec.first (L.drop at') = some (b, u)) : dec.Is L at' b u := by
  have hb : ∀ x ∈ L.drop at', x < 256 := fun x hx => hL x (List.mem_of_mem_drop hx)
  obtain ⟨h1, h2, h3⟩ := dec.first_back hb h
  obtain ⟨l1, l2, l3⟩ := Bat.summed_le h1
  have hl : u = b.bytes.length := by rw [← h3, List.length_take]; omega
  have hs := Bat.bytes_len b (Bat.flags_of h1)
  rw [List.length_drop] at h2
  exact ⟨h, h1, by omega, by omega, h3, by rw [hl]; exact hs⟩
theorem dec.walk_step {L : List Nat} (hL : ∀ x ∈ L, x < 256) {at' g u : Nat} {b : Bat} {ahead : Int} (h : dec.first (L.drop at') = some (b, u)) (hl : ahead < b.base) (hg : L.length ≤ at' + g) :
    ∃ g', g = g' + 1 ∧ L.length ≤ at' + u + g' ∧ dec.walkF g L at' ahead = (at', b) :: dec.walkF g' L (at' + u) b.last := by
  have hi := dec.is_of hL h
  have h1 := hi.low
  have h2 := hi.fits
  obtain ⟨g', rfl⟩ : ∃ g', g = g' + 1 := ⟨g - 1, by omega⟩
  refine ⟨g', rfl, by omega, ?_⟩
  rw [dec.walkF_succ, h]
  exact if_neg (by omega)
theorem dec.walkF_is {L : List Nat} (hL : ∀ x ∈ L, x < 256) : ∀ (g at' : Nat) (ahead : Int), ∀ x ∈ dec.walkF g L at' ahead, ∃ u, dec.Is L x.1 x.2 u
  | 0, _, _, x, hx => by cases hx
  | g + 1, at', ahead, x, hx => by
    rw [dec.walkF_succ] at hx
    cases h : dec.first (L.drop at') with
    | none => rw [h] at hx; cases hx
    | some y =>
      obtain ⟨b, u⟩ := y
      rw [h] at hx
      unfold dec.walkG at hx
      dsimp only at hx
      split at hx
      · cases hx
      · rcases List.mem_cons.1 hx with rfl | hx
        · exact ⟨u, dec.is_of hL h⟩
        · exact dec.walkF_is hL g _ _ x hx
theorem dec.walk_is {L : List Nat} (hL : ∀ x ∈ L, x < 256) : ∀ x ∈ dec.walk L, ∃ u, dec.Is L x.1 x.2 u := dec.walkF_is hL _ _ _
theorem dec.walkF_len {L : List Nat} (hL : ∀ x ∈ L, x < 256) : ∀ (g at' : Nat) (ahead : Int), 50 * (dec.walkF g L at' ahead).length ≤ L.length - at'
  | 0, _, _ => Nat.zero_le _
  | g + 1, at', ahead => by
    rw [dec.walkF_succ]
    cases h : dec.first (L.drop at') with
    | none => exact Nat.zero_le _
    | some y =>
      obtain ⟨b, u⟩ := y
      unfold dec.walkG
      dsimp only
      split
      · exact Nat.zero_le _
      · have hi := dec.is_of hL h
        have h1 := hi.low
        have h2 := hi.fits
        have ih := dec.walkF_len hL g (at' + u) b.last
        rw [List.length_cons]
        omega
theorem dec.walk_len {L : List Nat} (hL : ∀ x ∈ L, x < 256) : 50 * (dec.walk L).length ≤ L.length := by
  have := dec.walkF_len hL L.length 0 (-1)
  unfold dec.walk
  omega
/-- How many bytes are whole batches. -/
def dec.good (L : List Nat) : Int := match (dec.walk L).getLast? with | none => 0 | some (at', b) => (at' : Int) + b.size

/-- A row of records leans on blocks laid since B0. -/
theorem RowR.dep {V : World} {B0 : Nat} {v : Value} {rs : List Rec} (h : RowR V B0 v rs) : Dep (fun k => B0 ≤ k ∧ k < V.heap.size) V (fun W => RecsV W v rs) := by
  obtain ⟨xs, h1, h2⟩ := h
  refine ⟨fun k => (B0 ≤ k ∧ k < V.heap.size) ∧ CellsB V k, fun k hk => hk, fun W' hv hs => ?_⟩
  have hat : ∀ {A : Option Addr} {n : Nat} {f : Nat → Value}, At V A n f → (0 < n → ∀ b off, A = some ⟨b, off, none⟩ → B0 ≤ b ∧ b < V.heap.size) → At W' A n f := fun {A n f} ha hz hn => by
    obtain ⟨b, off, hA, hb, hc⟩ := ha hn
    exact ⟨b, off, hA, Nat.lt_of_lt_of_le hb hs, fun j hj => (World.cell?_of_block (hv b ⟨hz hn b off hA, .of_cell (hc 0 hn)⟩)).trans (hc j hj)⟩
  obtain ⟨A, c, rfl, hc, ha⟩ := own_at h1
  refine ⟨A, c, _, rfl, hc, own_cap h1, hat ha fun _ b off e => h1.lt b (by rw [e]; rfl), fun i r hr => ?_⟩
  obtain ⟨kv, vv, e, ⟨⟨A1, c1, rfl, k1, k2, k3, k4⟩, k5⟩, ⟨⟨A2, c2, rfl, m1, m2, m3, m4⟩, m5⟩, q1, q2⟩ := h2 i r hr
  exact ⟨_, _, e, ⟨A1, c1, rfl, hat k1 fun _ b off e => by have := k5 b (by rw [e]; rfl); omega, k2, k3, k4⟩, ⟨A2, c2, rfl, hat m1 fun _ b off e => by have := m5 b (by rw [e]; rfl); omega, m2, m3, m4⟩, q1, q2⟩

open Go.RowKit Go.Shelf
attribute [local go_sem] Oper.semAt_some

/-- A batch that is handed over: where it begins, and where its records lie. -/
abbrev WkX := (Nat × Bat) × (Option Addr × Nat)
def wk.encs (x : WkX) : Array Value := #[.int .i64 (x.1.1 : Int), x.1.2.hval x.2.1 x.1.2.recs.length x.2.2]
def wk.R (Bs : List Nat) (L : List Nat) (x : WkX) (V : World) : Prop := InB Bs V ∧ Dep (Safe Bs V) V (fun U => RecsV U (.slice x.2.1 x.1.2.recs.length x.2.2) x.1.2.recs) ∧ ∃ u, dec.Is L x.1.1 x.1.2 u
def wk.S (L : List Nat) (xs : List WkX) (_ : World) : Prop := xs.map Prod.fst = dec.walk L
def wk.Sp (L : List Nat) (pre : List WkX) (_ : World) : Prop := ∃ rest, pre.map Prod.fst ++ rest = dec.walk L
def wk.Post (L : List Nat) (J Jx : List WkX → World → Prop) (e : Ending) (V : World) : Prop := (∃ v, e = .returned v) ∧ ((∃ xs, wk.S L xs V ∧ J xs V) ∨ (∃ pre, wk.Sp L pre V ∧ Jx pre V))
/-- What the iterator leans on: the box of the bytes, and these. -/
def wk.Src (Bp : Nat) (A : Option Addr) (m c : Nat) (L : List Nat) (V : World) : Prop := Blk V Bp 22 #[.slice A m c] ∧ At V A m (byteAt L)

set_option maxRecDepth 100000 in
set_option maxHeartbeats 4000000 in
theorem bat.walk1_in (n : Nat) (hn : 2 ≤ n) (l Bp : Nat) (Bs : List Nat) (A : Option Addr) (m c : Nat) (L : List Nat) (J Jx : List WkX → World → Prop) (W : World) (hL : ∀ x ∈ L, x < 256) (hlen : L.length = m) (hmc : m ≤ c) (hc : c ≤ maxLen) (hm : m ≤ 1000000)
    (hi : InB Bs W) (hsrc : Dep (Safe Bs W) W (wk.Src Bp A m c L)) (hJ : AbidesFrom W.heap.size J)
    (hY : ∀ pre x V, J pre V → wk.R Bs L x V → pre.length < (dec.walk L).length → YieldAt Fence.wide (n - 1) Try.prog l (wk.encs x) V fun e V' =>
      (e = .returned (.bool true) ∧ J (pre ++ [x]) V' ∧ Kept Bs V V') ∨ (e = .returned (.bool false) ∧ Jx (pre ++ [x]) V' ∧ Kept Bs V V')) (h0 : J [] W) :
    CallsIn Fence.wide n Try.prog 49 #[.func (.yield l) #[] #[], .pointer (some ⟨Bp, 0, none⟩)] W (wk.Post L J Jx) := by
  refine callsIn_of_wp Try.func49 rfl trivial ?_ rfl
  simp only [Try.ntmps49, List.size_toArray, List.length_cons, List.length_nil, Nat.reduceAdd, Nat.reduceSub, Array.replicate_succ, Array.replicate_zero, List.push_toArray, List.append_toArray, List.nil_append, List.cons_append]
  have hJn : ∀ pre V V', J pre V → Below V.heap.size V V' → J pre V' := fun pre V V' h hb => hJ pre V V' none h (grown_by hb) fun r e => by cases e
  have HJN := Lib.hid hJn; clear hJn hJ
  have HY := Lib.hid hY; clear hY
  have HL := Lib.hid hL; clear hL
  have HLEN := Lib.hid hlen; clear hlen
  have HI := Lib.hid hi; clear hi
  have HSRC := Lib.hid hsrc; clear hsrc
  have H0 := Lib.hid h0; clear h0
  unfold maxLen at hc
  gi_wp2_with fail
  gi_loopw [3, 4] (fun s3 s4 wr => ∃ (pre : List WkX) (at' g : Nat) (ahead : Int), s3 = .int .i64 ahead ∧ s4 = .int .i64 (at' : Int) ∧ -1 ≤ ahead ∧ ahead ≤ 4611686018427387904 ∧ at' ≤ m ∧ L.length ≤ at' + g ∧ pre.map Prod.fst ++ dec.walkF g L at' ahead = dec.walk L ∧ J pre wr ∧ InB Bs wr ∧ Dep (Safe Bs wr) wr (wk.Src Bp A m c L)) (fun _ s4 _ => m - (intOf s4).toNat)
  case atStart => exact ⟨[], 0, L.length, -1, rfl, rfl, by omega, by omega, by omega, by omega, rfl, H0.out, HI.out, HSRC.out⟩
  case round =>
    obtain ⟨pre, at', g, ahead, rfl, rfl, ha1, ha2, hatm, hfuel, hwalk, hj, hi, hsrc⟩ := hrel
    clear HI HSRC H0
    have HFUEL := Lib.hid hfuel; clear hfuel
    have HWALK := Lib.hid hwalk; clear hwalk
    have HJ := Lib.hid hj; clear hj
    have HI := Lib.hid hi; clear hi
    have HSRC := Lib.hid hsrc; clear hsrc
    have c1 : wr.cell? ⟨Bp, 0, none⟩ = some (.slice A m c) := HSRC.out.now.1.cell 0 rfl
    by_cases hlt : at' < m
    · obtain ⟨b0, off0, hA, hb0, -⟩ := HSRC.out.now.2 (by omega)
      subst hA
      have hdl : (L.drop at').length = m - at' := by rw [List.length_drop, HLEN.out]
      have hfst := bat.first_any (some ⟨b0, off0 + at', none⟩) (c - at') (L.drop at') wr (by
        rw [hdl]
        have h := Piece.drop (some ⟨b0, off0, none⟩) L at' wr (by rw [HLEN.out]; exact HSRC.out.now.2)
        rw [Option.map_some, add_none, hdl] at h
        exact h) (fun x hx => HL.out x (List.mem_of_mem_drop hx)) (by omega) (by unfold maxLen; omega)
      rw [hdl] at hfst
      have HFST := Lib.hid hfst; clear hfst hdl
      have hca : ¬ c = at' := by omega
      gi_wp2_with fail
      refine ⟨trivial, fun _ => by omega, ?_⟩
      refine (callsIn_wide.2 HFST.out).mono ?_
      rintro e w5 ⟨hres, hb5⟩
      clear c1
      have hj5 := HJN.out pre wr w5 HJ.out hb5
      rcases hres with ⟨hnone, rfl⟩ | ⟨b, u, A', c', hyes, hrow, rfl⟩
      · have hend : pre.map Prod.fst = dec.walk L := by
          have h := HWALK.out
          rw [dec.walk_none hnone, List.append_nil] at h
          exact h
        have HEND := Lib.hid hend; clear hend hnone
        have HJ6 := Lib.hid (fun o => HJN.out pre w5 (w5.alloc o) hj5 ((Below.refl _ _).alloc (Nat.le_refl _) _)); clear hj5
        gi_wp2
        refine ⟨fun f hf => (by cases hf), ?_⟩
        gi_wp2
        refine bodyPost_ret (results_none rfl _ _ _) rfl ?_
        exact ⟨⟨_, rfl⟩, .inl ⟨pre, HEND.out, HJ6.out _⟩⟩
      · have his := dec.is_of HL.out hyes
        obtain ⟨hmay, -, -, -⟩ := Bat.check_ok his.check
        obtain ⟨m0, m1, m2, m3, -⟩ := hmay
        have hu1 := his.low
        have hu2 := his.fits
        rw [HLEN.out] at hu2
        have hi5 := HI.out.below hb5
        have hsrc5 := HSRC.out.belowS HI.out hb5
        have hdep5 : Dep (Safe Bs w5) w5 (fun U => RecsV U (.slice A' b.recs.length c') b.recs) := hrow.dep.weak fun k hk _ => (Safe.new HI.out hk.1).below HI.out hb5
        obtain ⟨nv, hnv⟩ : ∃ nv, nv = b.recs.length := ⟨_, rfl⟩
        unfold Bat.hval
        rw [← hnv] at hdep5 ⊢
        have HNV := Lib.hid hnv; clear hnv hrow
        have hua : ∀ o, Below w5.heap.size w5 (w5.alloc o) := fun o => (Below.refl _ _).alloc (Nat.le_refl _) _
        have hj6 := fun o => HJN.out pre w5 (w5.alloc o) hj5 (hua o)
        have HJ6 := Lib.hid hj6; clear hj6 hj5
        by_cases hlow : b.base ≤ ahead
        · have hend : pre.map Prod.fst = dec.walk L := by
            have h := HWALK.out
            rw [dec.walk_low hyes hlow, List.append_nil] at h
            exact h
          have HEND := Lib.hid hend; clear hend hyes his hua hdep5 hsrc5 hi5
          gi_wp2
          refine ⟨fun f hf => (by cases hf), ?_⟩
          gi_wp2
          refine bodyPost_ret (results_none rfl _ _ _) rfl ?_
          exact ⟨⟨_, rfl⟩, .inl ⟨pre, HEND.out, HJ6.out _⟩⟩
        · have hlow2 : ahead < b.base := by omega
          obtain ⟨g', hg', hfuel2, hwk⟩ := dec.walk_step HL.out (g := g) hyes hlow2 HFUEL.out
          have hwalk2 : (pre ++ [((at', b), (A', c'))]).map Prod.fst ++ dec.walkF g' L (at' + u) b.last = dec.walk L := by
            have h := HWALK.out
            rw [hwk] at h
            rw [List.map_append, List.append_assoc]
            exact h
          have hpl : pre.length < (dec.walk L).length := by
            have h := congrArg List.length hwalk2
            rw [List.length_append, List.length_map, List.length_append] at h
            simp only [List.length_cons, List.length_nil] at h
            omega
          have HWALK2 := Lib.hid hwalk2; clear hwalk2 hwk hg'
          have HFUEL2 := Lib.hid hfuel2; clear hfuel2
          obtain ⟨w6, hw6⟩ : ∃ w6, w6 = w5.alloc (.cells #[.int .i64 b.base, .int .i64 b.last, .int .i64 b.prod, .int .i64 b.epoch, .int .i64 b.seq, .slice A' nv c'] 50) := ⟨_, rfl⟩
          have hb6 : Below w5.heap.size w5 w6 := by rw [hw6]; exact hua _
          have hk6 : Blk w6 w5.heap.size 50 #[.int .i64 b.base, .int .i64 b.last, .int .i64 b.prod, .int .i64 b.epoch, .int .i64 b.seq, .slice A' nv c'] := by rw [hw6]; exact Blk.new _ _ _
          have hj6 : J pre w6 := by rw [hw6]; exact HJ6.out _
          have hi6 := hi5.below hb6
          have hsafe : Safe Bs w6 w5.heap.size := (Safe.new hi5 (Nat.le_refl _)).below hi5 hb6
          have hbox6 : Dep (Safe Bs w6) w6 (fun U => Blk U w5.heap.size 50 #[.int .i64 b.base, .int .i64 b.last, .int .i64 b.prod, .int .i64 b.epoch, .int .i64 b.seq, .slice A' nv c']) := Dep.blk hk6 hsafe
          have hdep6 := hdep5.belowS hi5 hb6
          have hsrc6 := hsrc5.belowS hi5 hb6
          have hR6 : wk.R Bs L ((at', b), (A', c')) w6 := ⟨hi6, by rw [HNV.out] at hdep6; exact hdep6, u, his⟩
          have hy := HY.out pre ((at', b), (A', c')) w6 hj6 hR6 hpl
          unfold wk.encs Bat.hval at hy
          dsimp only at hy
          rw [← HNV.out] at hy
          obtain ⟨fn, tmps, assign, body, hyq, hRq⟩ := hy
          have HI6 := Lib.hid hi6; clear hi6 hi5
          have HBOX6 := Lib.hid hbox6; clear hbox6 hsafe
          have HSRC6 := Lib.hid hsrc6; clear hsrc6 hsrc5
          clear hdep5 hdep6 hR6 hj6 HJ6 hua hyes hb5 hb6
          have HIS := Lib.hid his; clear his
          have g0 : w6.cell? ⟨w5.heap.size, 0, none⟩ = some (.int .i64 b.base) := hk6.cell 0 rfl
          have g1 : w6.cell? ⟨w5.heap.size, 1, none⟩ = some (.int .i64 b.last) := hk6.cell 1 rfl
          have g2 : w6.cell? ⟨w5.heap.size, 2, none⟩ = some (.int .i64 b.prod) := hk6.cell 2 rfl
          have g3 : w6.cell? ⟨w5.heap.size, 3, none⟩ = some (.int .i64 b.epoch) := hk6.cell 3 rfl
          have g4 : w6.cell? ⟨w5.heap.size, 4, none⟩ = some (.int .i64 b.seq) := hk6.cell 4 rfl
          have g5 : w6.cell? ⟨w5.heap.size, 5, none⟩ = some (.slice A' nv c') := hk6.cell 5 rfl
          clear hk6
          have HRQ := Lib.hid hRq; clear hRq
          have HW6 := Lib.hid hw6; clear hw6
          gi_wp2_with fail
          rw [← HW6.out, hyq]
          clear g0 g1 g2 g3 g4 g5 HW6 hyq
          gi_wp2_with fail
          refine ⟨fun _ => by omega, HRQ.out.mono ?_⟩
          rintro e W3 (⟨rfl, hJ3, hk3⟩ | ⟨rfl, hJx3, hk3⟩)
          · have hb3 := HBOX6.out.kept hk3
            have hs3 := HSRC6.out.kept hk3
            have hi3 := hk3.2.2.2 HI6.out
            have g1 : W3.cell? ⟨w5.heap.size, 1, none⟩ = some (.int .i64 b.last) := hb3.now.cell 1 rfl
            have HK3 := Lib.hid (And.intro hJ3 (And.intro hi3 hs3)); clear hJ3 hi3 hs3 hb3 hk3
            gi_wp2_with fail
            go_roundw
            case rel => exact ⟨pre ++ [((at', b), (A', c'))], at' + u, g', b.last, rfl, by go_num, by omega, by omega, by omega, HFUEL2.out, HWALK2.out, HK3.out.1, HK3.out.2.1, HK3.out.2.2⟩
            case measure => simp [intOf]; omega
          · clear hk3
            gi_wp2
            refine bodyPost_ret (results_none rfl _ _ _) rfl ?_
            exact ⟨⟨_, rfl⟩, .inr ⟨pre ++ [((at', b), (A', c'))], ⟨_, HWALK2.out⟩, hJx3⟩⟩
    · have hend : pre.map Prod.fst = dec.walk L := by
        have h := HWALK.out
        rw [dec.walk_end (by rw [HLEN.out]; omega), List.append_nil] at h
        exact h
      have HEND := Lib.hid hend; clear hend
      gi_wp2_with fail
      refine bodyPost_ret (results_none rfl _ _ _) rfl ?_
      exact ⟨⟨_, rfl⟩, .inl ⟨pre, HEND.out, HJ.out⟩⟩

attribute [local go_sem] Oper.semAt_some

theorem bat.hands (n : Nat) (hn : 2 ≤ n) (Bp : Nat) (Bs : List Nat) (A : Option Addr) (m c : Nat) (L : List Nat) (w : World) (hL : ∀ x ∈ L, x < 256) (hlen : L.length = m) (hmc : m ≤ c) (hc : c ≤ maxLen) (hm : m ≤ 1000000)
    (hi : InB Bs w) (hsrc : Dep (Safe Bs w) w (wk.Src Bp A m c L)) :
    Hands Fence.wide n Try.prog 49 #[.pointer (some ⟨Bp, 0, none⟩)] wk.encs (Kept Bs) (wk.R Bs L) (wk.S L) (wk.Sp L) (dec.walk L).length w :=
  fun l J Jx W hW hJ _ hY h0 => bat.walk1_in n hn l Bp Bs A m c L J Jx W hL hlen hmc hc hm (hi.below hW) (hsrc.belowS hi hW) hJ hY h0

theorem bat.walk_any (A : Option Addr) (m c : Nat) (w : World) :
    Calls Try.prog 39 #[.slice A m c] w fun e w' => e = .returned (.func (.func 49) #[] #[.pointer (some ⟨w.heap.size, 0, none⟩)]) ∧ w' = w.alloc (.cells #[.slice A m c] 22) := by
  go_enter Try.func39, Try.ntmps39
  go_wp2
  go_ret
  exact ⟨rfl, rfl⟩
/-- Only blocks of cells were turned: what else there is stands. -/
theorem keeps_chg {B : Nat} {W V : World} {P : Nat → Prop} (h : Chg W V P) (hp : ∀ k, P k → CellsB W k) : KeepsFrom B W V :=
  ⟨h.size, fun k o _ hk ho => (h.block k (heap_in hk) fun hh => by
    obtain ⟨o', h1, h2⟩ := hp k hh
    rw [hk] at h1
    cases h1
    rw [ho] at h2
    cases h2).trans hk⟩
theorem Kept.boxes {Bs : List Nat} {W V : World} {P : Nat → Prop} (h : Chg W V P) (hp : ∀ k, P k → k ∈ Bs ∨ ∃ b ∈ Bs, boxOf W b = some k)
    (hb : ∀ b ∈ Bs, CellsB V b ∧ ∀ k, boxOf V b = some k → k < V.heap.size ∧ ((∃ c ∈ Bs, boxOf W c = some k) ∨ W.heap.size ≤ k)) : Kept Bs W V :=
  ⟨h.size, fun k o hk _ hs => (h.block k (heap_in hk) fun hh => by
    rcases hp k hh with hm | ⟨b, hbb, he⟩
    · exact hs.1 hm
    · exact hs.2 b hbb he).trans hk, fun b hbb k e => ((hb b hbb).2 k e).2, fun _ b hbb => ⟨(hb b hbb).1, fun k e => ((hb b hbb).2 k e).1⟩⟩
theorem boxOf_boxed {W : World} {b : Nat} {t : TypeId} {v : Value} (h : Boxed W b t v) : boxOf W b = v.ownBlock := by
  unfold boxOf
  rw [h.cell]
  rfl
theorem CellsB.of_boxed {W : World} {b : Nat} {t : TypeId} {v : Value} (h : Boxed W b t v) : CellsB W b := ⟨_, h, rfl⟩

/-- Where the batches that came end. -/
def wk.fin (pre : List WkX) : Int := match pre.getLast? with | none => 0 | some x => (x.1.1 : Int) + x.1.2.size
theorem wk.fin_snoc (pre : List WkX) (x : WkX) : wk.fin (pre ++ [x]) = (x.1.1 : Int) + x.1.2.size := by
  unfold wk.fin
  simp
theorem wk.fin_good {L : List Nat} {xs : List WkX} (h : xs.map Prod.fst = dec.walk L) : wk.fin xs = dec.good L := by
  unfold wk.fin dec.good
  rw [← h, List.getLast?_map]
  cases xs.getLast? <;> rfl

/-- The cells of a batch that is handed over. -/
def wk.cells (x : WkX) : Array Value := #[.int .i64 x.1.2.base, .int .i64 x.1.2.last, .int .i64 x.1.2.prod, .int .i64 x.1.2.epoch, .int .i64 x.1.2.seq, .slice x.2.1 x.1.2.recs.length x.2.2]
theorem wk.R_own (B : Nat) (Bs : List Nat) (L : List Nat) : OwnFrom B (wk.R Bs L) := fun _ _ _ _ h hg hr => ⟨h.1.grown hg fun r e => (hr r e).2, h.2.1.grown h.1 hg fun r e => (hr r e).2, h.2.2⟩

attribute [local go_sem] Oper.semAt_some

theorem flat_get {α : Type} (f : α → List Value) (n : Nat) (hf : ∀ x, (f x).length = n) : ∀ (l : List α) (i k : Nat) (x : α), l[i]? = some x → k < n → ((l.map f).flatten).getD (i * n + k) undef = (f x).getD k undef
  | [], i, k, x, h, _ => by cases h
  | y :: l, 0, k, x, h, hk => by
    obtain rfl : y = x := by simpa using h
    rw [List.map_cons, List.flatten_cons, Nat.zero_mul, Nat.zero_add]
    simp only [List.getD]
    rw [List.getElem?_append_left (by rw [hf]; exact hk)]
  | y :: l, i + 1, k, x, h, hk => by
    have h2 : l[i]? = some x := by simpa using h
    rw [List.map_cons, List.flatten_cons, ← flat_get f n hf l i k x h2 hk]
    simp only [List.getD]
    rw [List.getElem?_append_right (by rw [hf, Nat.succ_mul]; omega), hf, show (i + 1) * n + k - n = i * n + k by rw [Nat.succ_mul]; omega]
theorem flat_len {α : Type} (f : α → List Value) (n : Nat) (hf : ∀ x, (f x).length = n) (l : List α) : ((l.map f).flatten).length = l.length * n := by
  induction l with
  | nil => simp
  | cons y l ih => rw [List.map_cons, List.flatten_cons, List.length_append, ih, hf, List.length_cons, Nat.succ_mul]; omega
theorem Dep.put {W : World} {P : World → Prop} {D : Nat} {o o' : Obj} (h : Dep (fun _ => True) W P) (hD : W.heap[D]? = some o) (ho : o.isCells = false) : P (W.putObj D o') :=
  (h.move (Z' := fun _ => True) (fun k x _ hk hc => ⟨(grown_cells (grownBy_putObj' W D o') (fun r e => by cases e; exact ⟨o, hD, ho⟩) ⟨x, hk, hc⟩).trans hk, trivial⟩) (grownBy_putObj' W D o').size).now
theorem Dep.any {Z : Nat → Prop} {W : World} {P : World → Prop} (h : Dep Z W P) : Dep (fun _ => True) W P := h.weak fun _ _ _ => trivial
/-- Rows of unlike elements lie apart. -/
theorem rows_apart {W : World} {b1 b2 s1 s2 n1 n2 : Nat} {e1 e2 : TypeId} {v1 v2 : Value} {xs1 xs2 : List Value} (h1 : W.ownsRow b1 e1 s1 v1 n1 xs1) (h2 : W.ownsRow b2 e2 s2 v2 n2 xs2) (hne : e1 ≠ e2) {k : Nat} (hk : v1.ownBlock = some k) : v2.ownBlock ≠ some k := fun hh => by
  rcases h1.2 with ⟨rfl, _⟩ | ⟨g, cap, cur, rfl, _, hg, _⟩
  · cases hk
  · rcases h2.2 with ⟨rfl, _⟩ | ⟨g', cap', cur', rfl, _, hg', _⟩
    · cases hh
    · obtain rfl : g = k := by simpa [Value.ownBlock] using hk
      obtain rfl : g' = g := by simpa [Value.ownBlock] using hh
      rw [hg] at hg'
      simp at hg'
      exact hne hg'.2
theorem own_cells {W : World} {b s n : Nat} {e : TypeId} {v : Value} {xs : List Value} (h : W.ownsRow b e s v n xs) {k : Nat} (hk : v.ownBlock = some k) : CellsB W k := by
  rcases h.2 with ⟨rfl, _⟩ | ⟨g, cap, cur, rfl, _, hg, _⟩
  · cases hk
  · obtain rfl : g = k := by simpa [Value.ownBlock] using hk
    exact ⟨_, hg, rfl⟩

def wk.cell6 (x : WkX) : List Value := (wk.cells x).toList
def wk.ats (pre : List WkX) : List Value := pre.map fun x => .int .i64 (x.1.1 : Int)
def wk.row (pre : List WkX) : List Value := (pre.map wk.cell6).flatten
theorem wk.row_snoc (pre : List WkX) (x : WkX) : wk.row (pre ++ [x]) = wk.row pre ++ wk.cell6 x := by unfold wk.row; simp
theorem wk.ats_snoc (pre : List WkX) (x : WkX) : wk.ats (pre ++ [x]) = wk.ats pre ++ [.int .i64 (x.1.1 : Int)] := by unfold wk.ats; simp
/-- The cells of a new block. -/
theorem cells_new (w : World) (cs : List Value) (t : TypeId) (n : Nat) (hn : n = w.heap.size) : ∀ j u, cs[j]? = some u → (w.alloc (.cells cs.toArray t)).cell? ((⟨n, 0, none⟩ : Addr).add j) = some u := by
  subst hn
  intro j u hj
  rw [add_none, Nat.zero_add]
  have h := World.alloc_heap_new w (.cells cs.toArray t)
  unfold World.cell?
  rw [h]
  simpa using hj
theorem own_apart {W : World} {b1 b2 s1 s2 n1 n2 : Nat} {e1 e2 : TypeId} {v1 v2 : Value} {xs1 xs2 : List Value} (h1 : W.ownsRow b1 e1 s1 v1 n1 xs1) (h2 : W.ownsRow b2 e2 s2 v2 n2 xs2) (hne : e1 ≠ e2) : v1.ownBlock = none ∨ v1.ownBlock ≠ v2.ownBlock := by
  rcases h1.2 with ⟨rfl, _⟩ | ⟨g, cap, cur, rfl, _, hg, _⟩
  · exact .inl rfl
  · exact .inr fun e => rows_apart h1 h2 hne (k := g) rfl (by rw [← e]; rfl)
theorem results_tmps2 {fn : Func} {t u : Tmp} (h : fn.results = #[.tmp t, .tmp u]) (tmps : Array Value) (P : Program) (w : World) :
    (results fn tmps).run P w = .ok (.tuple #[tmps.getD t undef, tmps.getD u undef]) w := by
  simp [results, h, go_sem]
theorem stepR_scope' {P : Program} {b : Frame} {a : Act} {k : List Item} {cs : List Frame} {w : World} {c : Code} : step P (lone (b.atR a (.code (.scope c) :: k)) cs w) = .next (lone (b.atR a (.code c :: .inScope c :: k)) cs w) :=
  step_lone_go (by simp [stepG, stepG.exec, Frame.atR])
theorem stepR_inScope' {P : Program} {b : Frame} {a : Act} {k : List Item} {cs : List Frame} {w : World} {c : Code} : step P (lone (b.atR a (.inScope c :: k)) cs w) = .next (lone (b.atR a k) cs w) :=
  step_lone_go (by simp [stepG, stepG.exec, Frame.atR])
/-- A scope whose labels nothing jumps to, within a fence. -/
theorem wpIn_scope' {F : Fence} {n : Nat} {P : Program} {Q : Exit → Act → World → Prop} {a : Act} {w : World} {c : Code} (h : c.wpIn F n P (Exit.noGoto Q) a w) : (Code.scope c).wpIn F n P Q a w := by
  intro b k cs hro hb hr
  have h0 : (lone (b.atR a (.code (.scope c) :: k)) cs w).fenced P F := fenced_calm hb hr rfl
  obtain ⟨e, a₁, w₁, hq, harr⟩ := h b (.inScope c :: k) cs hro hb hr
  cases e with
  | normal => exact ⟨.normal, a₁, w₁, hq, .head h0 stepR_scope' (StepsIn.trans harr (.one (fenced_calm hb hr rfl) stepR_inScope'))⟩
  | exit id =>
    have hx : exitTo id (.inScope c :: k) = exitTo id k := by simp [exitTo]
    exact ⟨.exit id, a₁, w₁, hq, fun k' hk => .head h0 stepR_scope' (harr.1 k' (by rw [hx]; exact hk)),
      fun hr' hk => let ⟨k₁, h1, h2⟩ := harr.2 hr' (by rw [hx]; exact hk); ⟨k₁, h1, .head h0 stepR_scope' h2⟩⟩
  | goto l => exact hq.elim
  | ret => exact ⟨_, a₁, w₁, hq, .of_steps (.one h0 stepR_scope') harr⟩
  | panic ch => exact ⟨_, a₁, w₁, hq, .of_steps (.one h0 stepR_scope') harr⟩
  | outgrown => exact ⟨_, a₁, w₁, hq, .of_steps (.one h0 stepR_scope') harr⟩

theorem loadVar_int {a : Addr} {w : World} {v : Value} (h : w.cell? a = some v) : (loadVar 3 a).run Try.prog w = .ok v w := by
  unfold loadVar isAgg
  simp [go_sem, h]
theorem loadVar_bool {a : Addr} {w : World} {v : Value} (h : w.cell? a = some v) : (loadVar 4 a).run Try.prog w = .ok v w := by
  unfold loadVar isAgg
  simp [go_sem, h]
theorem results_cells2 {P : Program} {fn : Func} {p u : Tmp} {tp tu : TypeId} (h : fn.results = #[.cell p tp, .cell u tu]) (tmps : Array Value) (w : World) (ap au : Addr) (hp : tmps.getD p undef = .pointer (some ap)) (hu : tmps.getD u undef = .pointer (some au)) {vp vu : Value}
    (h1 : (loadVar tp ap).run P w = .ok vp w) (h2 : (loadVar tu au).run P w = .ok vu w) : (results fn tmps).run P w = .ok (.tuple #[vp, vu]) w := by
  simp only [Array.getD_eq_getD_getElem?] at hp hu
  simp [results, h, hp, hu, asAddr, h1, h2]
end Go.Proofs.Ytchdolcnhopmjaa

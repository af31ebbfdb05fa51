/- A region that draws its order, in a round. -/
import Derived.Sort.BigQuietIn
import Derived.OwnWalkIn
import Derived.Test.YtnlfdhoabbbheaaPlan
import Derived.Test.YtnlfdhoabbbheaaPlanE
import Derived.RangeFuncCalls
namespace Go.Proofs.Ytnlfdhoabbbheaa
section
open Go

section
variable {F : Fence} {n : Nat} {P : Program} {ops : Array Oper} {Q : Exit → Act → World → Prop}

/-- No operation defers. -/
def noDefer (ops : Array Oper) : Bool := ops.all fun o => match o.op with | .defer _ => false | _ => true
theorem noDefer_spec (h : noDefer ops = true) {i : Nat} {o : Oper} (ho : ops[i]? = some o) : ∀ c, o.op ≠ .defer c := by
  intro c hc
  unfold noDefer at h
  rw [Array.all_eq_true] at h
  obtain ⟨hi, e⟩ := Array.getElem?_eq_some_iff.1 ho
  have h1 := h i hi
  rw [e, hc] at h1
  cases h1

theorem Oper.wpIn_inRound {o : Oper} {a : Act} {w : World} {K K' : Act → World → Prop} (l : Nat) (hd : ∀ c, o.op ≠ .defer c) (hK : ∀ a w, K a w → K' a w) (h : o.wpIn F n P a w K Q) : o.wpIn (F.inRound l) n P a w K' Q := by
  have h := Oper.wpIn_mono hK h
  unfold Oper.wpIn at h ⊢
  refine ⟨h.1, ?_⟩
  have h2 := h.2
  rw [Oper.semAt_plain _ _ _ hd] at h2 ⊢
  generalize (execOp a.eval o).run P w = r at *
  cases r with
  | ok x w' =>
    cases x <;> simp only [Oper.uponIn] at h2 ⊢ <;> exact h2
  | halt x w' => cases x <;> simp only [Oper.uponIn] at h2 ⊢ <;> exact h2

theorem wpOpsIn_inRound (l : Nat) (hn : noDefer ops = true) : ∀ (is : List Nat) (a : Act) (w : World), wpOpsIn F n P ops Q is a w → wpOpsIn (F.inRound l) n P ops Q is a w := by
  intro is
  induction is with
  | nil => intro a w h; exact h
  | cons i r ih =>
    intro a w h
    simp only [wpOpsIn] at h ⊢
    cases ho : ops[i]? with
    | none => simp only [ho] at h ⊢; exact ih _ _ h
    | some o =>
      simp only [ho] at h ⊢
      by_cases hw : Region.wanted o (yielded ops a.tmps) = true
      · rw [if_pos hw] at h ⊢
        exact Oper.wpIn_inRound l (noDefer_spec hn ho) (fun a w h => ih a w h) h
      · rw [if_neg hw] at h ⊢
        exact ⟨h.1, ih _ _ h.2⟩

/-- **A quiet region in a round.** -/
theorem round_region_quiet (l : Nat) {id : Nat} {a : Act} {w : World} {os : List Oper} (hro : F.round = none) (hm : P.follows .mixedOrders = true) (hB : Region.lexB .any os.toArray = true) (hn : noDefer os.toArray = true)
    (h : wpQuietIn F n P os.toArray (fun w' => ∃ n, w' = w.drewN n) (fun a' => ∀ w', (∃ n, w' = w.drewN n) → Q .normal a' w') os a) : (Code.region id os.toArray true).wpIn (F.inRound l) n P Q a w := by
  refine wpIn_region_draw fun t => wpOpsIn_inRound l hn _ _ _ ?_
  simp only [Region.schedule, hm, Bool.true_or, if_true]
  simp only [Region.lexB, Bool.and_eq_true] at hB
  refine wpAnyIn_sound _ t _ a _ (wpAnyIn_of_quiet (C := fun w' => ∃ n, w' = w.drewN n) (Q := fun a' => ∀ w', (∃ n, w' = w.drewN n) → Q .normal a' w') hro (fun _ w' hw' h => h w' hw') _ _ _ _ ⟨1, rfl⟩ ?_)
  have := wpAnyQIn_lex (F := F) (n := n) (C := fun w' => ∃ n, w' = w.drewN n) (md := .any) hB.1 os.toArray.toList 0 (Array.replicate os.toArray.size false) a (by simp) (by simpa using hB.2) (by simpa using h)
  simpa using this
end
end
section
open Go

section
variable {P : Program} {ops : Array Oper} {Q : Exit → Act → World → Prop}

theorem Oper.wide_of {n : Nat} {o : Oper} {a : Act} {w : World} {K K' : Act → World → Prop} (l : Nat) (hd : ∀ c, o.op ≠ .defer c) (hK : ∀ a w, K a w → K' a w) (h : o.wp P a w K Q) : o.wpIn (Fence.wide.inRound l) n P a w K' Q := by
  unfold Oper.wp at h
  unfold Oper.wpIn
  refine ⟨fun _ _ => trivial, ?_⟩
  rw [Oper.semAt_plain _ _ _ hd]
  generalize (execOp a.eval o).run P w = r at *
  cases r with
  | ok x w' =>
    cases x <;> simp only [Oper.upon, Oper.uponIn] at h ⊢ <;> first
      | exact hK _ _ h
      | exact h.elim
      | (refine ⟨fun q => (by cases q), CallsIn.inRound l (callsIn_wide.2 (h.mono fun e w'' he => ?_))⟩
         cases e with
         | returned u => exact hK _ _ he
         | panicked c => exact he
         | outgrown => exact he)
      | (refine ⟨fun q => (by cases q), fun c cs _ => ?_⟩
         obtain ⟨v, w'', hv, hs⟩ := h c cs
         exact ⟨v, w'', hK _ _ hv, stepsIn_wide.2 hs⟩)
  | halt x w' => cases x <;> simp only [Oper.upon, Oper.uponIn] at h ⊢ <;> exact h

theorem wide_ops (l n : Nat) (hn : noDefer ops = true) (hL : ¬ LetsOut Q) : ∀ (is : List Nat) (a : Act) (w : World), wpOps P ops Q is a w → wpOpsIn (Fence.wide.inRound l) n P ops Q is a w := by
  intro is
  induction is with
  | nil => intro a w h; exact h
  | cons i r ih =>
    intro a w h
    simp only [wpOps, wpOpsIn] at h ⊢
    cases ho : ops[i]? with
    | none => simp only [ho] at h ⊢; exact ih _ _ h
    | some o =>
      simp only [ho] at h ⊢
      by_cases hw : Region.wanted o (yielded ops a.tmps) = true
      · rw [if_pos hw] at h ⊢
        rcases h with h | h
        · exact Oper.wide_of l (noDefer_spec hn ho) (fun a w h => ih a w h) h
        · exact absurd h.2 hL
      · rw [if_neg hw] at h ⊢
        exact ⟨fun _ _ => trivial, ih _ _ h⟩

/-- **The beginning**, in a round. -/
theorem wp_planR (lr : Nat) {n id : Nat} {S : World → Prop} {a : Act} {w : World} {l : List Oper} (hm : P.follows .mixedOrders = true) (hnd : noDefer l.toArray = true) (hS : S w.drew)
    (h : S w.drew → ∀ K : Act → World → Prop, (∀ a w, Q .normal a w → K a w) → wpAnyH P .any l.toArray (Exit.then K fun _ _ _ => False) S l.length (Array.replicate l.length false) a w.drew) : (Code.region id l.toArray true).wpIn (Fence.wide.inRound lr) n P Q a w := by
  have h1 := h hS _ (fun _ _ hk => hk)
  refine wpIn_mono (Q := Exit.then (Q .normal) fun _ _ _ => False) ?_ (fun e a w hq => ?_)
  · refine wpIn_region_draw fun t => wide_ops lr n hnd (fun ⟨_, _, h⟩ => h) _ _ _ ?_
    simp only [Region.schedule, hm, Bool.true_or, if_true]
    have h2 := wpAny_of_held _ _ _ _ h1
    exact wpAny_sound l.toArray.size t _ a _ (by simpa using h2)
  · cases e <;> first | exact hq | exact hq.elim
end
end
end Go.Proofs.Ytnlfdhoabbbheaa

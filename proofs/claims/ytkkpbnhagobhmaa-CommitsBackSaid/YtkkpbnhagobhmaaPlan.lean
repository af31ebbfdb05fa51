/- A region that draws its order, walked once by a plan: operations that only yield a value, the same in every world of a class S, are taken as soon as they may come up; each other one is carried out where it alone may come up. No function of the program is named. -/
import Derived.OrdersHeld
import Derived.Deep.QuietTactic
import Derived.BigQuiet
import Derived.Test.YtkkpbnhagobhmaaBlk
namespace Go.Proofs.Ytkkpbnhagobhmaa
open Go

section
variable {P : Program} {ops : Array Oper} {S : World → Prop}

/-- An operation that yields a value, and does nothing else, if it is carried out to its end. -/
def valueOp (o : Oper) : Bool :=
  match o.op with
  | .build .. | .move _ | .assign _ | .pick .. | .binOp .. | .unOp .. | .convert .. | .extract .. | .field .. | .fieldAddr .. | .index .. | .indexAddr .. | .slice .. | .load .. | .lookup .. | .makeInterface .. | .makeFunc .. | .nilCheck .. => true
  | .call { callee := .builtin .len, .. } | .call { callee := .builtin .cap, .. } | .call { callee := .builtin .min, .. } | .call { callee := .builtin .max, .. } => true
  | _ => false
/-- What is so at a normal end alone. -/
def only (K : Act → World → Prop) : Exit → Act → World → Prop := Exit.then K (fun _ _ _ => False)

theorem run_value {s : Sem Value} {w : World} {n : Next} {w' : World} (h : (do let x ← s; pure (Next.value x)).run P w = .ok n w') : ∃ x, n = .value x := by
  have e : (do let x ← s; pure (Next.value x) : Sem Next).run P w = (s.run P w).andThen fun x w1 => .ok (.value x) w1 := by
    simp only [Sem.run_bind, Sem.run_pure]
  rw [e] at h
  cases hs : s.run P w with
  | ok x w1 => rw [hs] at h; simp only [Result.andThen_ok, Result.ok.injEq] at h; exact ⟨x, h.1.symm⟩
  | halt x w1 => rw [hs] at h; simp [Result.andThen] at h

/-- Whatever comes of it in the end is a value. -/
def Gives (P : Program) (s : Sem Next) : Prop := ∀ w n w', s.run P w = .ok n w' → ∃ x, n = .value x
theorem gives_bind {α : Type} {s : Sem α} {f : α → Sem Next} (h : ∀ x, Gives P (f x)) : Gives P (s >>= f) := by
  intro w n w' hr
  rw [Sem.run_bind] at hr
  cases hs : s.run P w with
  | ok x w1 => rw [hs] at hr; exact h x w1 n w' hr
  | halt x w1 => rw [hs] at hr; cases hr
theorem gives_pure (v : Value) : Gives P (pure (.value v)) := by
  intro w n w' hr
  simp only [Sem.run_pure, Result.ok.injEq] at hr
  exact ⟨v, hr.1.symm⟩
theorem gives_panic : Gives P (runtimePanic .nilDeref) := by
  intro w n w' hr
  simp [runtimePanic, go_sem] at hr
/-- What the check of a pointer against nil is. -/
def nilCheckOf (x : Value) : Sem Next :=
  execOp (fun _ => x) { dst := none, op := .nilCheck (.const x), type := 0, pos := "", after := #[], guard := none }
theorem nilCheck_gives {ρ : Operand → Value} {o : Oper} {x : Operand} (h : execOp ρ o = nilCheckOf (ρ x)) : Gives P (execOp ρ o) := by
  rw [h]
  unfold nilCheckOf execOp
  dsimp only
  split
  · exact gives_panic
  · exact gives_panic
  · exact gives_panic
  · split
    · exact gives_panic
    · refine gives_bind fun p => gives_bind fun b => ?_
      split
      · exact gives_bind fun _ => gives_pure _
      · exact gives_pure _
    · exact gives_pure _
  · exact gives_pure _
theorem execOp_nilCheck {ρ : Operand → Value} {dst : Option Tmp} {type : TypeId} {pos : String} {aft : Array Edge} {gd : Option (Nat × Bool)} (x : Operand) : execOp ρ { dst := dst, op := .nilCheck x, type := type, pos := pos, after := aft, guard := gd } = nilCheckOf (ρ x) := rfl

theorem valueOp_value {o : Oper} (h : valueOp o = true) {ρ : Operand → Value} {w w' : World} {n : Next} (hr : (execOp ρ o).run P w = .ok n w') : ∃ x, n = .value x := by
  obtain ⟨dst, op, type, pos, aft, gd⟩ := o
  cases op with
  | call c =>
    obtain ⟨callee, args, tys⟩ := c
    cases callee with
    | builtin b =>
      have e : (execOp ρ { dst := dst, op := .call { callee := .builtin b, args := args, argTypes := tys }, type := type, pos := pos, after := aft, guard := gd }) = builtin b tys type (args.map fun | .const _ => true | _ => false) (args.map ρ) := rfl
      rw [e] at hr
      cases b <;> first
        | exact run_value hr
        | (simp [valueOp] at h; done)
    | value f => exact absurd h (by simp [valueOp])
    | invoke r m => exact absurd h (by simp [valueOp])
  | move x => have hr' : (pure (Next.value (ρ x)) : Sem Next).run P w = .ok n w' := hr; simp only [Sem.run_pure, Result.ok.injEq] at hr'; exact ⟨_, hr'.1.symm⟩
  | assign x => have hr' : (pure (Next.value (ρ x)) : Sem Next).run P w = .ok n w' := hr; simp only [Sem.run_pure, Result.ok.injEq] at hr'; exact ⟨_, hr'.1.symm⟩
  | pick c x y => exact run_value (s := do pure (if ← asBool (ρ c) then ρ x else ρ y)) (by
      have hr' : (do pure (Next.value (if ← asBool (ρ c) then ρ x else ρ y)) : Sem Next).run P w = .ok n w' := hr
      simpa only [Sem.run_bind, Sem.run_pure, bind_assoc, pure_bind] using hr')
  | nilCheck x => exact nilCheck_gives (execOp_nilCheck x) w n w' hr
  | _ => first
    | exact run_value hr
    | (simp [valueOp] at h; done)

/-- The operations, one behind the other, may each come up, are apart from the others, and yield values. -/
def groupB (ops : Array Oper) : List Nat → Array Bool → Bool
  | [], _ => true
  | i :: r, listed => (Region.ready .any ops listed).contains i && Region.free .any ops listed i && ((ops[i]?).map valueOp).getD false && groupB ops r (listed.setIfInBounds i true)
def listAll (r : List Nat) (listed : Array Bool) : Array Bool := r.foldl (fun l i => l.setIfInBounds i true) listed

/-- Quiet in a class: the value, in the very world. -/
theorem quiet_run {o : Oper} {a : Act} {v : Value} (hn : valueOp o = true) (h : ∀ w, S w → o.quietAt P a S w v) (w : World) (hs : S w) : (execOp a.eval o).run P w = .ok (.value v) w := by
  have h1 := h w hs
  unfold Oper.quietAt at h1
  cases hr : (execOp a.eval o).run P w with
  | ok n w' =>
    obtain ⟨x, rfl⟩ := valueOp_value hn hr
    rw [hr] at h1
    simp only [Oper.quietUpon] at h1
    rw [h1.1, h1.2]
  | halt x w' => rw [hr] at h1; simp only [Oper.quietUpon] at h1

/-- A group of operations that yield. -/
theorem wpAnyH_group {Q : Exit → Act → World → Prop} (hs : Region.noSelect ops = true) (hQ : ∀ c a w, ¬ Q (.panic c) a w) : ∀ (is : List Nat) (l : List Oper) (fuel : Nat) (listed : Array Bool) (a : Act) (w : World),
    is.map (fun i => ops[i]?) = l.map some → groupB ops is listed = true → S w → wpQuiet P ops S (fun a' => wpAnyH P .any ops Q S fuel (listAll is listed) a' w) l a → wpAnyH P .any ops Q S (fuel + is.length) listed a w
  | [], l, fuel, listed, a, w, hl, _, _, h => by
    obtain rfl : l = [] := by cases l with | nil => rfl | cons _ _ => simp at hl
    exact h
  | i :: r, l, fuel, listed, a, w, hl, hB, hS, h => by
    cases l with
    | nil => simp at hl
    | cons o l =>
      simp only [List.map_cons, List.cons.injEq] at hl
      obtain ⟨ho, hl⟩ := hl
      simp only [groupB, Bool.and_eq_true, ho, Option.map_some, Option.getD_some] at hB
      obtain ⟨⟨⟨hr, hf⟩, hv⟩, hB⟩ := hB
      unfold wpQuiet at h
      by_cases hw : Region.wanted o (yielded ops a.tmps) = true
      · rw [if_pos hw] at h
        obtain ⟨v, h1, h2⟩ := h
        refine wpAnyH_take (fuel := fuel + r.length) ho hs hf hr (fun c a w hq => absurd hq (hQ c _ w)) (.inl ⟨hw, quiet_run hv h1⟩) hS ?_
        exact wpAnyH_group hs hQ r l fuel _ _ w hl hB hS h2
      · rw [if_neg hw] at h
        refine wpAnyH_take (fuel := fuel + r.length) ho hs hf hr (fun c a w hq => absurd hq (hQ c _ w)) (.inr ⟨by simpa using hw, rfl⟩) hS ?_
        exact wpAnyH_group hs hQ r l fuel _ _ w hl hB hS h

/-- What one operation leaves does not come by a normal exit. -/
theorem Oper.wp_one {o : Oper} {a : Act} {w : World} {K K' : Act → World → Prop} {Q : Exit → Act → World → Prop} (hh : o.wp P a w (wpList P ops (Exit.then K fun _ _ _ => False) []) (Exit.then K' fun _ _ _ => False)) : o.wp P a w K Q := by
  unfold Oper.wp at *
  generalize (execOp a.eval o).run P w = r at *
  cases r with
  | ok n w' =>
    cases n <;> simp only [Oper.upon] at hh ⊢ <;> first
      | exact hh
      | (refine Calls.mono hh fun e w'' he => ?_
         cases e with
         | returned u => exact he
         | panicked c => exact he.elim
         | outgrown => obtain ⟨x, y, hxy⟩ := he; exact hxy.elim)
      | (exact Rows.mono hh fun u w'' he => he)
  | halt x w' => cases x <;> simp only [Oper.upon] at hh ⊢ <;> first | exact hh.elim | exact hh

/-- The one that may come up. -/
theorem wpAnyH_one {Q : Exit → Act → World → Prop} {i : Nat} {o : Oper} {fuel : Nat} {listed : Array Bool} {a : Act} {w : World} (hr : Region.ready .any ops listed = [i]) (ho : ops[i]? = some o)
    (h : ∀ K : Act → World → Prop, (∀ a w, (S w ∧ wpAnyH P .any ops Q S fuel (listed.setIfInBounds i true) a w) → K a w) → wpList P ops (Exit.then K fun _ _ _ => False) [o] a w) : wpAnyH P .any ops Q S (fuel + 1) listed a w := by
  refine wpAnyH_all hr (by simp) fun j hj => ?_
  obtain rfl : j = i := by simpa using hj
  have h1 := h _ (fun _ _ hk => hk)
  unfold wpOp
  simp only [ho]
  unfold wpList at h1
  by_cases hw : Region.wanted o (yielded ops a.tmps) = true
  · rw [if_pos hw] at h1 ⊢
    rcases h1 with h1 | ⟨_, x, y, hxy⟩
    · exact .inl (Oper.wp_one h1)
    · exact hxy.elim
  · rw [if_neg hw] at h1 ⊢
    exact h1

/-- The operations of a mask. -/
def sel : List Oper → List Bool → List Oper
  | o :: l, true :: m => o :: sel l m
  | _ :: l, false :: m => sel l m
  | _, _ => []

theorem plan_group {K : Act → World → Prop} {l0 l : List Oper} (mask : List Bool) (is : List Nat) (fuel : Nat) {n : Nat} {listed : Array Bool} {a : Act} {w : World} (hsel : sel l0 mask = l) (hl : is.map (fun i => l0.toArray[i]?) = l.map some) (hn : n = fuel + is.length)
    (hs : Region.noSelect l0.toArray = true) (hB : groupB l0.toArray is listed = true) (hS : S w) (h : wpQuiet P l0.toArray S (fun a' => wpAnyH P .any l0.toArray (Exit.then K fun _ _ _ => False) S fuel (listAll is listed) a' w) l a) :
    wpAnyH P .any l0.toArray (Exit.then K fun _ _ _ => False) S n listed a w := by
  subst hn
  exact wpAnyH_group hs (fun _ _ _ h => h) is l fuel listed a w (by rw [hl, hsel.symm]) hB hS h
theorem plan_one {K : Act → World → Prop} {l0 : List Oper} {o : Oper} (mask : List Bool) (i fuel : Nat) {n : Nat} {listed : Array Bool} {a : Act} {w : World} (hsel : sel l0 mask = [o]) (ho : l0.toArray[i]? = some o) (hn : n = fuel + 1)
    (hr : Region.ready .any l0.toArray listed = [i])
    (h : ∀ K1 : Act → World → Prop, (∀ a w, (S w ∧ wpAnyH P .any l0.toArray (Exit.then K fun _ _ _ => False) S fuel (listed.setIfInBounds i true) a w) → K1 a w) → wpList P l0.toArray (Exit.then K1 fun _ _ _ => False) [o] a w) :
    wpAnyH P .any l0.toArray (Exit.then K fun _ _ _ => False) S n listed a w := by
  subst hn
  have := hsel
  exact wpAnyH_one hr ho h

/-- **The beginning.** What follows the region is behind K. -/
theorem wp_plan {id : Nat} {Q : Exit → Act → World → Prop} {a : Act} {w : World} {l : List Oper} (hm : P.follows .mixedOrders = true) (hS : S w.drew)
    (h : S w.drew → ∀ K : Act → World → Prop, (∀ a w, Q .normal a w → K a w) → wpAnyH P .any l.toArray (Exit.then K fun _ _ _ => False) S l.length (Array.replicate l.length false) a w.drew) : (Code.region id l.toArray true).wp P Q a w := by
  have h1 := h hS _ (fun _ _ hk => hk)
  refine Code.wp_mono (fun e a w hq => ?_) (wp_region_held (S := S) hm (by simpa using h1))
  cases e <;> first | exact hq | exact hq.elim
theorem wp_plan_end {K : Act → World → Prop} {fuel : Nat} {listed : Array Bool} {a : Act} {w : World} (hr : Region.ready .any ops listed = []) (h : K a w) : wpAnyH P .any ops (Exit.then K fun _ _ _ => False) S fuel listed a w :=
  wpAnyH_done hr h fuel
end

/-- The worlds in which only blocks of p, of those that were there, may have been turned. -/
def Later (w : World) (p : Nat → Prop) : Type := { w' : World // Chg w w' p }
instance Later.nonempty (w : World) (p : Nat → Prop) : Nonempty (Later w p) := ⟨⟨w, Chg.refl w p⟩⟩
def later (w : World) (p : Nat → Prop) : World → Prop := fun w' => ∃ x : Later w p, w' = x.1
theorem later_of {w w' : World} {p : Nat → Prop} (h : Chg w w' p) : later w p w' := ⟨⟨w', h⟩, rfl⟩
theorem later.chg {w w' : World} {p : Nat → Prop} (h : later w p w') : Chg w w' p := by
  obtain ⟨x, rfl⟩ := h
  exact x.2
end Go.Proofs.Ytkkpbnhagobhmaa

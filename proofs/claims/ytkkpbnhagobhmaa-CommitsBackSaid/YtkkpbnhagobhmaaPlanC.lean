/- A region that draws its order: a call that only reads is taken as soon as it may come up. No function of the program is named. -/
import Derived.Test.YtkkpbnhagobhmaaPlan
import Derived.Shelf.Abstract
namespace Go.Proofs.Ytkkpbnhagobhmaa
open Go

section
variable {P : Program} {ops : Array Oper} {S : World → Prop}

/-! A call that leaves its value in whatever world of the class, and the world as it was, may be taken as soon as it may come up. -/

/-- Carried out in a, o leaves v, and the world as it was. -/
def leaves (P : Program) (S : World → Prop) (o : Oper) (v : Value) (a : Act) : Prop := ∀ w, S w → o.quietAt P a (fun w' => w' = w) w v

theorem leaves.wp {o : Oper} {v : Value} {a : Act} {w : World} {K : Act → World → Prop} {Q : Exit → Act → World → Prop} (h : leaves P S o v a) (hS : S w) (hK : K (a.put o.dst v) w) : o.wp P a w K Q := by
  have h1 := h w hS
  unfold Oper.quietAt at h1
  unfold Oper.wp
  generalize (execOp a.eval o).run P w = r at *
  cases r with
  | halt x w' => exact h1.elim
  | ok n w' =>
    cases n <;> simp only [Oper.quietUpon] at h1 <;> first
      | exact h1.elim
      | (obtain ⟨rfl, rfl⟩ := h1; exact hK)
      | (obtain ⟨rfl, h2⟩ := h1
         refine Calls.mono h2 ?_
         rintro e w2 ⟨rfl, rfl⟩
         exact hK)

/-- What is so of the state before and behind an operation that stands apart is so in the other order. -/
theorem upon_apart {x : Option Tmp} {v : Value} {o : Oper} {R : Act → Prop} {K : Act → World → Prop} {Q : Exit → Act → World → Prop} {a : Act} (hd : ∀ d, x = some d → o.dst ≠ some d)
    (hR : ∀ u, R (a.put o.dst u)) (hD : ∀ d, R ({ a with defers := d :: a.defers }.put o.dst undef)) (hQ : ∀ c a w, ¬ Q (.panic c) a w) (r : Result Next) (h : o.upon P (a.put x v) K Q r) : o.upon P a (fun a' w' => R a' ∧ K (a'.put x v) w') Q r := by
  cases r with
  | halt y w' => cases y <;> simp only [Oper.upon] at h ⊢ <;> exact (hQ _ _ _ h).elim
  | ok n w' =>
    cases n <;> simp only [Oper.upon] at h ⊢ <;> first
      | (refine Calls.mono h fun e w2 he => ?_
         cases e with
         | returned u => exact ⟨hR u, by rw [← Act.put_comm a v u hd]; exact he⟩
         | panicked c => exact (hQ _ _ _ he).elim
         | outgrown => exact he)
      | exact Rows.mono h fun u w2 he => ⟨hR u, by rw [← Act.put_comm a v u hd]; exact he⟩
      | exact ⟨hR _, by rw [← Act.put_comm a v _ hd]; exact h⟩
      | exact ⟨hD _, by rw [← Act.put_comm _ v undef hd, ← Act.put_defers]; exact h⟩

theorem leaves.other {o o' : Oper} {v : Value} {a : Act} (h : leaves P S o v a) (ho : ∀ cs b, o.op ≠ .select cs b) (hap : ∀ d, o'.dst = some d → d ∉ o.looksAt ops) (u : Value) : leaves P S o v (a.put o'.dst u) := by
  intro w hw
  have h1 := h w hw
  unfold Oper.quietAt at *
  rw [execOp_put o ho a o'.dst u hap]
  exact h1

theorem wpAnyH_pure {Q : Exit → Act → World → Prop} (hs : Region.noSelect ops = true) (hQ : ∀ c a w, ¬ Q (.panic c) a w) (hno : ¬ LetsOut Q) {i : Nat} {o : Oper} {v : Value} (ho : ops[i]? = some o) (hg : o.guard = none) :
    ∀ (fuel : Nat) (listed : Array Bool) (a : Act) (w : World), (∀ j oj, ops[j]? = some oj → j ≠ i → listed.getD j true = false → (∀ e ∈ oj.after, Region.binds .any e = true → e.on ≠ i) → o.apart ops oj = true) →
      i ∈ Region.ready .any ops listed → leaves P S o v a → S w → wpAnyH P .any ops Q S fuel (listed.setIfInBounds i true) (a.put o.dst v) w → wpAnyH P .any ops Q S (fuel + 1) listed a w := by
  have hw : ∀ tmps, Region.wanted o tmps = true := fun tmps => by simp [Region.wanted, hg]
  intro fuel
  induction fuel with
  | zero =>
    intro listed a w _ hr hl hS hH
    refine ⟨fun h0 => by rw [h0] at hr; simp at hr, fun j hj => ?_⟩
    rcases Decidable.em (j = i) with rfl | hne
    · unfold wpOp
      simp only [ho, hw, if_true]
      exact .inl (hl.wp hS ⟨hS, hH⟩)
    · have hq := ready_mono hj hne
      rw [hH.1] at hq
      simp at hq
  | succ n ih =>
    intro listed a w hfree hr hl hS hH
    refine ⟨fun h0 => by rw [h0] at hr; simp at hr, fun j hj => ?_⟩
    rcases Decidable.em (j = i) with rfl | hne
    · unfold wpOp
      simp only [ho, hw, if_true]
      exact .inl (hl.wp hS ⟨hS, hH⟩)
    · obtain ⟨hju, oj, hoj, hjall⟩ := mem_ready.1 hj
      have hiu := (mem_ready.1 hr).1
      have hedge : ∀ e ∈ oj.after, Region.binds .any e = true → e.on ≠ i := by
        rintro e he hb rfl
        have q := hjall e he hb
        by_cases hsz : e.on < listed.size
        · simp [hsz] at hiu q
          rw [hiu] at q
          cases q
        · simp [hsz] at q
      obtain ⟨p1, p2, p3⟩ := Oper.apart_spec (hfree j oj hoj hne hju hedge)
      have hi' : i ∈ Region.ready .any ops (listed.setIfInBounds j true) := ready_mono hr (Ne.symm hne)
      have hfree' : ∀ k ok, ops[k]? = some ok → k ≠ i → (listed.setIfInBounds j true).getD k true = false → (∀ e ∈ ok.after, Region.binds .any e = true → e.on ≠ i) → o.apart ops ok = true := fun k ok hk hki hku => by
        refine hfree k ok hk hki ?_
        rcases Decidable.em (j = k) with rfl | hjk
        · exact hju
        · rwa [getD_set_ne true hjk] at hku
      have hnext := hH.2 j (ready_mono hj hne)
      have hgo : ∀ a' w', leaves P S o v a' ∧ (S w' ∧ wpAnyH P .any ops Q S n ((listed.setIfInBounds i true).setIfInBounds j true) (a'.put o.dst v) w') → S w' ∧ wpAnyH P .any ops Q S (n + 1) (listed.setIfInBounds j true) a' w' := fun a' w' ⟨q1, q2, q3⟩ =>
        ⟨q2, ih _ a' w' hfree' hi' q1 q2 (by rw [Array.setIfInBounds_comm _ _ hne]; exact q3)⟩
      have hsi := Region.noSelect_spec hs i
      have hsj := Region.noSelect_spec hs j
      unfold wpOp at hnext ⊢
      simp only [hoj] at hnext ⊢
      rw [wanted_put oj a o.dst v p1] at hnext
      have hleave : ∀ u, leaves P S o v (a.put oj.dst u) := fun u => hl.other (fun cs b => hsi o cs b ho) p3 u
      by_cases hwj : Region.wanted oj (yielded ops a.tmps) = true
      · rw [if_pos hwj] at hnext ⊢
        rcases hnext with h1 | ⟨_, h2⟩
        · refine .inl ?_
          unfold Oper.wp at h1 ⊢
          rw [execOp_put oj (fun cs b => hsj oj cs b hoj) a o.dst v p1] at h1
          refine Oper.wp_mono (P := P) (o := oj) (a := a) (w := w) (Q := Q) hgo ?_
          exact upon_apart (R := leaves P S o v) p2 hleave (fun d => (show leaves P S o v { a with defers := d :: a.defers } from hl).other (fun cs b => hsi o cs b ho) p3 undef) hQ _ h1
        · exact absurd h2 hno
      · rw [if_neg hwj] at hnext ⊢
        exact hgo _ _ ⟨hleave undef, by rw [← Act.put_comm a v undef p2]; exact hnext⟩

/-- A call of a function by its name: which, and of what. -/
theorem run_call {o : Oper} {f : FuncId} {args : List Operand} {tys : Array TypeId} (a : Act) (w : World) (he : Enters P f) (ho : o.op = .call { callee := .value (.func f), args := args.toArray, argTypes := tys }) :
    (execOp a.eval o).run P w = .ok (.enter f (args.map a.eval).toArray) w := by
  have h1 := he (args.map a.eval).toArray w
  simp [execOp, ho, resolve, invoke, Deferred.ofValue, go_sem, h1]

/-- **A call that only reads**, as soon as it may come up. -/
theorem plan_pure {K : Act → World → Prop} {l0 : List Oper} {o : Oper} (mask : List Bool) (i : Nat) (dst : Option Tmp) (fuel : Nat) {n : Nat} {listed : Array Bool} {a : Act} {w : World} {f : FuncId} {args : List Operand} {tys : Array TypeId} (v : Value) (hsel : sel l0 mask = [o]) (ho : l0.toArray[i]? = some o) (hn : n = fuel + 1)
    (hop : o.op = .call { callee := .value (.func f), args := args.toArray, argTypes := tys }) (hd : o.dst = dst) (he : Enters P f) (hg : o.guard = none) (hs : Region.noSelect l0.toArray = true) (hf : ((Region.ready .any l0.toArray listed).contains i && Region.free .any l0.toArray listed i) = true) (hS : S w)
    (hc : ∀ w, S w → Calls P f (args.map a.eval).toArray w fun e w' => e = .returned v ∧ w' = w)
    (h : wpQuiet P l0.toArray S (fun a' => wpAnyH P .any l0.toArray (Exit.then K fun _ _ _ => False) S fuel (listed.setIfInBounds i true) a' w) [{ dst := dst, op := .move (.const v), type := 0, pos := "", after := #[], guard := none }] a) :
    wpAnyH P .any l0.toArray (Exit.then K fun _ _ _ => False) S n listed a w := by
  subst hn
  have := hsel
  rw [Bool.and_eq_true] at hf
  refine wpAnyH_pure (v := v) hs (fun _ _ _ h => h) (fun ⟨_, _, h⟩ => h) ho hg fuel listed a w (Region.free_spec ho hf.2) (by simpa using hf.1) (fun w' hw' => ?_) hS ?_
  · unfold Oper.quietAt
    rw [run_call a w' he hop]
    exact ⟨rfl, hc w' hw'⟩
  · unfold wpQuiet at h
    rw [if_pos (by simp [Region.wanted])] at h
    obtain ⟨v', h1, h2⟩ := h
    have h3 := h1 w hS
    unfold Oper.quietAt at h3
    rw [BigFrame.run_move (.const v) rfl] at h3
    obtain ⟨-, h3⟩ := h3
    have e : a.eval (.const v) = v := rfl
    rw [e] at h3
    subst h3
    rw [hd]
    exact h2

end
end Go.Proofs.Ytkkpbnhagobhmaa

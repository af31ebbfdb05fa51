/- A region that draws its order: two operations that may each come up first. No function of the program is named. -/
import Derived.Test.YtkkpbnhagobhmaaPlan
namespace Go.Proofs.Ytkkpbnhagobhmaa
open Go

section
variable {P : Program} {ops : Array Oper} {S : World → Prop}

/-- What a list of one operation leaves, as an operation that comes up. -/
theorem wpOp_of_list {Q : Exit → Act → World → Prop} {i : Nat} {o : Oper} {a : Act} {w : World} {R : Act → World → Prop} (ho : ops[i]? = some o) (h : ∀ K : Act → World → Prop, (∀ a w, R a w → K a w) → wpList P ops (Exit.then K fun _ _ _ => False) [o] a w) : wpOp P ops Q i R a w := by
  have h1 := h _ (fun _ _ hk => hk)
  unfold wpOp
  simp only [ho]
  unfold wpList at h1
  by_cases hw : Region.wanted o (yielded ops a.tmps) = true
  · rw [if_pos hw] at h1 ⊢
    rcases h1 with h1 | ⟨_, x, y, hxy⟩
    · exact .inl (Oper.wp_one h1)
    · exact hxy.elim
  · rw [if_neg hw] at h1 ⊢
    exact h1
/-- Two that may come up: each in turn the first. -/
theorem plan_two {K : Act → World → Prop} {l0 : List Oper} {o1 o2 : Oper} (m1 m2 : List Bool) (i j fuel : Nat) {n : Nat} {listed : Array Bool} {a : Act} {w : World} (s1 : sel l0 m1 = [o1]) (s2 : sel l0 m2 = [o2]) (h1 : l0.toArray[i]? = some o1) (h2 : l0.toArray[j]? = some o2) (hn : n = fuel + 1)
    (hr : Region.ready .any l0.toArray listed = [i, j])
    (k1 : ∀ K1 : Act → World → Prop, (∀ a w, (S w ∧ wpAnyH P .any l0.toArray (Exit.then K fun _ _ _ => False) S fuel (listed.setIfInBounds i true) a w) → K1 a w) → wpList P l0.toArray (Exit.then K1 fun _ _ _ => False) [o1] a w)
    (k2 : ∀ K1 : Act → World → Prop, (∀ a w, (S w ∧ wpAnyH P .any l0.toArray (Exit.then K fun _ _ _ => False) S fuel (listed.setIfInBounds j true) a w) → K1 a w) → wpList P l0.toArray (Exit.then K1 fun _ _ _ => False) [o2] a w) :
    wpAnyH P .any l0.toArray (Exit.then K fun _ _ _ => False) S n listed a w := by
  subst hn
  have := s1
  have := s2
  refine wpAnyH_all hr (by simp) fun x hx => ?_
  rcases (show x = i ∨ x = j by simpa using hx) with rfl | rfl
  · exact wpOp_of_list h1 k1
  · exact wpOp_of_list h2 k2


/-- The class may be made smaller on the way. -/
theorem plan_sub {S' : World → Prop} {Q : Exit → Act → World → Prop} (h : ∀ w, S' w → S w) : ∀ (fuel : Nat) (listed : Array Bool) (a : Act) (w : World), wpAnyH P .any ops Q S' fuel listed a w → wpAnyH P .any ops Q S fuel listed a w
  | 0, _, _, _, hw => hw
  | fuel + 1, _, _, _, hw => ⟨hw.1, fun i hi => wpOp_mono (fun a w q => ⟨h w q.1, plan_sub h fuel _ a w q.2⟩) (hw.2 i hi)⟩
end
/-- The worlds behind w1 are worlds behind w. -/
theorem later_sub {w w1 : World} {p : Nat → Prop} (h : Chg w w1 p) : ∀ w0, (∃ x : Later w1 p, w0 = x.1) → ∃ x : Later w p, w0 = x.1 := by
  rintro _ ⟨x, rfl⟩
  exact ⟨⟨x.1, h.trans x.2 fun _ _ q => q⟩, rfl⟩
end Go.Proofs.Ytkkpbnhagobhmaa

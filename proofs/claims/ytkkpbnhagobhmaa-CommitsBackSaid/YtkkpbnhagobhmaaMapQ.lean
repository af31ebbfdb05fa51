/- The keys of a map as a list; two maps that say the same have as many. No function of the program is named. -/
import Derived.Test.YtkkpbnhagobhmaaMapG
namespace Go.Proofs.Ytkkpbnhagobhmaa
open Go.RowKit Go.Maps Go.WideMaps
set_option maxRecDepth 20000
variable {K : Type} {κ : KeyKind K}
theorem GM.keys {w : World} {b N : Nat} {g : K → Option Value} (h : GM κ w b N g) : ∃ ks : List K, ks.Nodup ∧ ks.length = N ∧ (∀ x ∈ ks, κ.ok x) ∧ ∀ x, κ.ok x → (x ∈ ks ↔ (g x).isSome = true) := by
  obtain ⟨D, h1, h2, h3⟩ := h
  obtain ⟨es, hD, hp, -⟩ := h1.entries κ.keyed
  obtain ⟨es', hD', hk⟩ := h1.keysOf
  obtain rfl : es = es' := by rw [hD] at hD'; simpa using hD'
  subst hD
  have hone : ∀ p ∈ es, ∃ x, κ.ok x ∧ p.1 = κ.lit x := fun p hp => by
    obtain ⟨v, hv⟩ := hk p hp
    obtain ⟨x, hx, -, hl⟩ := κ.onto hv
    exact ⟨x, hx, hl⟩
  have hall : ∀ l : List (Lit × DataW Value), (∀ p ∈ l, ∃ x, κ.ok x ∧ p.1 = κ.lit x) → l.Pairwise (fun p q => p.1 ≠ q.1) → ∃ ks : List K, ks.Nodup ∧ ks.length = l.length ∧ (∀ x ∈ ks, κ.ok x) ∧ ∀ x, x ∈ ks ↔ ∃ p ∈ l, p.1 = κ.lit x := by
    intro l
    induction l with
    | nil => exact fun _ _ => ⟨[], List.nodup_nil, rfl, (fun _ h => absurd h (by simp)), (fun x => by simp)⟩
    | cons p l ih =>
      intro hx hpw
      obtain ⟨hne, hpw'⟩ := List.pairwise_cons.1 hpw
      obtain ⟨ks, k1, k2, k3, k4⟩ := ih (fun q hq => hx q (List.mem_cons_of_mem _ hq)) hpw'
      obtain ⟨x, hxo, hxl⟩ := hx p (List.mem_cons_self ..)
      refine ⟨x :: ks, List.nodup_cons.2 ⟨fun hm => ?_, k1⟩, by simp [k2], fun y hy => ?_, fun y => ?_⟩
      · obtain ⟨q, hq, e⟩ := (k4 x).1 hm
        exact hne q hq (hxl.trans e.symm)
      · rcases List.mem_cons.1 hy with rfl | hy
        · exact hxo
        · exact k3 y hy
      · rw [List.mem_cons]
        constructor
        · rintro (rfl | hy)
          · exact ⟨p, List.mem_cons_self .., hxl⟩
          · obtain ⟨q, hq, e⟩ := (k4 y).1 hy
            exact ⟨q, List.mem_cons_of_mem _ hq, e⟩
        · rintro ⟨q, hq, e⟩
          rcases List.mem_cons.1 hq with rfl | hq
          · exact .inl (κ.inj (e.symm.trans hxl))
          · exact .inr ((k4 y).2 ⟨q, hq, e⟩)
  obtain ⟨ks, k1, k2, k3, k4⟩ := hall es hone hp
  refine ⟨ks, k1, k2.trans h2, k3, fun x hx => ?_⟩
  rw [k4, ← (h3 x hx).1, Maps.has_eq, List.any_eq_true]
  constructor
  · rintro ⟨p, hp, e⟩
    exact ⟨p, hp, by rw [e]; exact WideAt.sameKey_self (κ.keyed.key (κ.key hx))⟩
  · rintro ⟨p, hp, e⟩
    obtain ⟨y, hy, hl⟩ := hone p hp
    refine ⟨p, hp, ?_⟩
    rw [hl] at e ⊢
    by_cases hxy : x = y
    · rw [hxy]
    · rw [Maps.sameKey_ne (fun e' => hxy (κ.inj e'.symm))] at e
      cases e
theorem GM.count {w w' : World} {b b' N N' : Nat} {g g' : K → Option Value} (h : GM κ w b N g) (h' : GM κ w' b' N' g') (hg : ∀ x, κ.ok x → (g x).isSome = (g' x).isSome) : N = N' := by
  obtain ⟨ks, a1, a2, a3, a4⟩ := h.keys
  obtain ⟨ls, b1, b2, b3, b4⟩ := h'.keys
  have hp : ks.Perm ls := (List.perm_ext_iff_of_nodup a1 b1).2 fun x => by
    constructor
    · intro hx
      have hk := a3 x hx
      exact (b4 x hk).2 (by rw [← hg x hk]; exact (a4 x hk).1 hx)
    · intro hx
      have hk := b3 x hx
      exact (a4 x hk).2 (by rw [hg x hk]; exact (b4 x hk).1 hx)
  rw [← a2, ← b2]
  exact hp.length_eq
end Go.Proofs.Ytkkpbnhagobhmaa

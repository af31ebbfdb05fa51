/- A region walked by a plan, whose last operation (number z) may turn what the others read: the class of worlds is owed behind every operation but z. No function of the program is named. -/
import Derived.Test.YtahncanmfjmfnaaPlanC
namespace Go.Proofs.Ytahncanmfjmfnaa
open Go

section
variable {P : Program} {ops : Array Oper} {S : World → Prop} {z : Nat}

/-- Whatever order comes, S holds behind each operation but z. -/
def wpAnyZ (P : Program) (ops : Array Oper) (Q : Exit → Act → World → Prop) (S : World → Prop) (z : Nat) : Nat → Array Bool → Act → World → Prop
  | 0, l, a, w => Region.ready .any ops l = [] ∧ Q .normal a w
  | k + 1, l, a, w => (Region.ready .any ops l = [] → Q .normal a w) ∧ ∀ i ∈ Region.ready .any ops l, wpOp P ops Q i (fun b v => (i ≠ z → S v) ∧ wpAnyZ P ops Q S z k (l.setIfInBounds i true) b v) a w
theorem wpAnyZ.any {Q : Exit → Act → World → Prop} : ∀ (k : Nat) (l : Array Bool) (a : Act) (w : World), wpAnyZ P ops Q S z k l a w → wpAny P .any ops Q k l a w
  | 0, _, _, _, h => h
  | k + 1, _, _, _, h => ⟨h.1, fun i hi => wpOp_mono (fun _ _ q => wpAnyZ.any k _ _ _ q.2) (h.2 i hi)⟩

/-- z waits for i. -/
def waitsFor (ops : Array Oper) (z i : Nat) : Bool := ((ops[z]?).map fun o => o.after.any fun e => Region.binds .any e && e.on == i).getD false
theorem waitsFor.not {i : Nat} {l : Array Bool} (h : waitsFor ops z i = true) (hi : i ∈ Region.ready .any ops l) : z ∉ Region.ready .any ops l := fun hz => by
  obtain ⟨hun, -⟩ := mem_ready.1 hi
  obtain ⟨-, oz, hoz, hall⟩ := mem_ready.1 hz
  unfold waitsFor at h
  rw [hoz] at h
  simp only [Option.map_some, Option.getD_some, Array.any_eq_true', Bool.and_eq_true, beq_iff_eq] at h
  obtain ⟨e, he, hb, rfl⟩ := h
  have h1 := hall e he hb
  rcases Nat.lt_or_ge e.on l.size with q | q
  · simp [q] at h1 hun
    rw [hun] at h1
    cases h1
  · simp [Array.getElem?_eq_none q] at h1

theorem wpAnyZ_first {Q : Exit → Act → World → Prop} {i : Nat} {oi : Oper} {v : Value} (hi : ops[i]? = some oi) (hsel : ∀ (j : Nat) (o : Oper) cs b, ops[j]? = some o → o.op ≠ .select cs b)
    (hQ : ∀ c a w, Q (.panic c) (a.put oi.dst v) w → Q (.panic c) a w) (hz : waitsFor ops z i = true) : ∀ (k : Nat) (l : Array Bool) (a : Act) (w : World),
      (∀ j oj, ops[j]? = some oj → j ≠ i → l.getD j true = false → (∀ e ∈ oj.after, Region.binds .any e = true → e.on ≠ i) → oi.apart ops oj = true) →
      i ∈ Region.ready .any ops l → YieldsIf P ops S oi v a → S w → wpAnyZ P ops Q S z k (l.setIfInBounds i true) (a.put oi.dst v) w → wpAnyZ P ops Q S z (k + 1) l a w := by
  intro k
  induction k with
  | zero =>
    intro l a w _ hr hy hS H
    refine ⟨fun h => (by rw [h] at hr; cases hr), fun j hj => ?_⟩
    by_cases e : j = i
    · subst e
      exact hy.wpOp hi hS ⟨fun _ => hS, H⟩
    · have := ready_mono hj e
      rw [H.1] at this
      cases this
  | succ k ih =>
    intro l a w hfree hr hy hS H
    refine ⟨fun h => (by rw [h] at hr; cases hr), fun j hj => ?_⟩
    by_cases e : j = i
    · subst e
      exact hy.wpOp hi hS ⟨fun _ => hS, H⟩
    · have hjz : j ≠ z := fun q => waitsFor.not hz hr (q ▸ hj)
      have h1 := H.2 j (ready_mono hj e)
      obtain ⟨hjun, oj, hoj, hall⟩ := mem_ready.1 hj
      have hnot : ∀ d ∈ oj.after, Region.binds .any d = true → d.on ≠ i := fun d hd hb q => by
        have g1 := hall d hd hb
        have g0 := (mem_ready.1 hr).1
        rw [q] at g1
        rcases Nat.lt_or_ge i l.size with p | p
        · simp [p] at g0 g1
          rw [g0] at g1
          cases g1
        · simp [Array.getElem?_eq_none p] at g1
      have h2 := wpOp_putIf hoj (hfree j oj hoj e hjun hnot) (fun cs b => hsel i oi cs b hi) (fun cs b => hsel j oj cs b hoj) hQ hy h1
      refine wpOp_mono (fun b v h3 => ⟨h3.2.1, ih (l.setIfInBounds j true) b v ?_ (ready_mono hr (Ne.symm e)) h3.1 (h3.2.1 hjz) ?_⟩) h2
      · intro m om hm hmi hun hno
        refine hfree m om hm hmi ?_ hno
        by_cases q : j = m
        · subst q; exact hjun
        · rw [getD_set_ne true q] at hun; exact hun
      · rw [Array.setIfInBounds_comm _ _ e]
        exact h3.2.2

theorem wpAnyZ_group {Q : Exit → Act → World → Prop} (hs : Region.noSelect ops = true) (hQ : ∀ c a w, ¬ Q (.panic c) a w) : ∀ (is : List Nat) (l : List Oper) (fuel : Nat) (listed : Array Bool) (a : Act) (w : World),
    is.map (fun i => ops[i]?) = l.map some → groupB ops is listed = true → is.all (waitsFor ops z) = true → S w → wpQuiet P ops S (fun a' => wpAnyZ P ops Q S z fuel (listAll is listed) a' w) l a → wpAnyZ P ops Q S z (fuel + is.length) listed a w
  | [], l, fuel, listed, a, w, hl, _, _, _, h => by
    obtain rfl : l = [] := by cases l with | nil => rfl | cons _ _ => simp at hl
    exact h
  | i :: r, l, fuel, listed, a, w, hl, hB, hW, hS, h => by
    cases l with
    | nil => simp at hl
    | cons o l =>
      simp only [List.map_cons, List.cons.injEq] at hl
      obtain ⟨ho, hl⟩ := hl
      simp only [groupB, Bool.and_eq_true, ho, Option.map_some, Option.getD_some] at hB
      obtain ⟨⟨⟨hr, hf⟩, hv⟩, hB⟩ := hB
      simp only [List.all_cons, Bool.and_eq_true] at hW
      unfold wpQuiet at h
      by_cases hw : Region.wanted o (yielded ops a.tmps) = true
      · rw [if_pos hw] at h
        obtain ⟨v, h1, h2⟩ := h
        refine wpAnyZ_first ho (Region.noSelect_spec hs) (fun c a w hq => absurd hq (hQ c _ w)) hW.1 (fuel + r.length) _ _ _ (Region.free_spec ho hf) (by simpa using hr) (.inl ⟨hw, quiet_run hv h1⟩) hS ?_
        exact wpAnyZ_group hs hQ r l fuel _ _ w hl hB hW.2 hS h2
      · rw [if_neg hw] at h
        refine wpAnyZ_first ho (Region.noSelect_spec hs) (fun c a w hq => absurd hq (hQ c _ w)) hW.1 (fuel + r.length) _ _ _ (Region.free_spec ho hf) (by simpa using hr) (.inr ⟨by simpa using hw, rfl⟩) hS ?_
        exact wpAnyZ_group hs hQ r l fuel _ _ w hl hB hW.2 hS h

theorem wpAnyZ_one {Q : Exit → Act → World → Prop} {i : Nat} {o : Oper} {fuel : Nat} {listed : Array Bool} {a : Act} {w : World} (hr : Region.ready .any ops listed = [i]) (ho : ops[i]? = some o)
    (h : ∀ K : Act → World → Prop, (∀ a w, ((i ≠ z → S w) ∧ wpAnyZ P ops Q S z fuel (listed.setIfInBounds i true) a w) → K a w) → wpList P ops (Exit.then K fun _ _ _ => False) [o] a w) : wpAnyZ P ops Q S z (fuel + 1) listed a w := by
  refine ⟨(fun h0 => by rw [hr] at h0; cases h0), fun j hj => ?_⟩
  obtain rfl : j = i := by rw [hr] at hj; simpa using hj
  have h1 := h _ (fun _ _ hk => hk)
  unfold wpOp
  simp only [ho]
  unfold wpList at h1
  by_cases hw : Region.wanted o (yielded ops a.tmps) = true
  · rw [if_pos hw] at h1 ⊢
    rcases h1 with h1 | ⟨_, x, y, hxy⟩
    · exact .inl (Oper.wp_one h1)
    · exact hxy.elim
  · rw [if_neg hw] at h1 ⊢
    exact h1

theorem planz_group {K : Act → World → Prop} {l0 l : List Oper} (mask : List Bool) (is : List Nat) (fuel : Nat) {n : Nat} {listed : Array Bool} {a : Act} {w : World} (hsel : sel l0 mask = l) (hl : is.map (fun i => l0.toArray[i]?) = l.map some) (hn : n = fuel + is.length)
    (hs : Region.noSelect l0.toArray = true) (hB : groupB l0.toArray is listed = true) (hW : is.all (waitsFor l0.toArray z) = true) (hS : S w) (h : wpQuiet P l0.toArray S (fun a' => wpAnyZ P l0.toArray (Exit.then K fun _ _ _ => False) S z fuel (listAll is listed) a' w) l a) :
    wpAnyZ P l0.toArray (Exit.then K fun _ _ _ => False) S z n listed a w := by
  subst hn
  exact wpAnyZ_group hs (fun _ _ _ h => h) is l fuel listed a w (by rw [hl, hsel.symm]) hB hW hS h
theorem planz_one {K : Act → World → Prop} {l0 : List Oper} {o : Oper} (mask : List Bool) (i fuel : Nat) {n : Nat} {listed : Array Bool} {a : Act} {w : World} (hsel : sel l0 mask = [o]) (ho : l0.toArray[i]? = some o) (hn : n = fuel + 1)
    (hr : Region.ready .any l0.toArray listed = [i])
    (h : ∀ K1 : Act → World → Prop, (∀ a w, ((i ≠ z → S w) ∧ wpAnyZ P l0.toArray (Exit.then K fun _ _ _ => False) S z fuel (listed.setIfInBounds i true) a w) → K1 a w) → wpList P l0.toArray (Exit.then K1 fun _ _ _ => False) [o] a w) :
    wpAnyZ P l0.toArray (Exit.then K fun _ _ _ => False) S z n listed a w := by
  subst hn
  have := hsel
  exact wpAnyZ_one hr ho h
theorem wpOpZ_list {Q : Exit → Act → World → Prop} {i : Nat} {o : Oper} {a : Act} {w : World} {R : Act → World → Prop} (ho : ops[i]? = some o) (h : ∀ K : Act → World → Prop, (∀ a w, R a w → K a w) → wpList P ops (Exit.then K fun _ _ _ => False) [o] a w) : wpOp P ops Q i R a w := by
  have h1 := h _ (fun _ _ hk => hk)
  unfold wpOp
  simp only [ho]
  unfold wpList at h1
  by_cases hw : Region.wanted o (yielded ops a.tmps) = true
  · rw [if_pos hw] at h1 ⊢
    rcases h1 with h1 | ⟨_, x, y, hxy⟩
    · exact .inl (Oper.wp_one h1)
    · exact hxy.elim
  · rw [if_neg hw] at h1 ⊢
    exact h1
theorem planz_two {K : Act → World → Prop} {l0 : List Oper} {o1 o2 : Oper} (m1 m2 : List Bool) (i j fuel : Nat) {n : Nat} {listed : Array Bool} {a : Act} {w : World} (s1 : sel l0 m1 = [o1]) (s2 : sel l0 m2 = [o2]) (h1 : l0.toArray[i]? = some o1) (h2 : l0.toArray[j]? = some o2) (hn : n = fuel + 1)
    (hr : Region.ready .any l0.toArray listed = [i, j])
    (k1 : ∀ K1 : Act → World → Prop, (∀ a w, ((i ≠ z → S w) ∧ wpAnyZ P l0.toArray (Exit.then K fun _ _ _ => False) S z fuel (listed.setIfInBounds i true) a w) → K1 a w) → wpList P l0.toArray (Exit.then K1 fun _ _ _ => False) [o1] a w)
    (k2 : ∀ K1 : Act → World → Prop, (∀ a w, ((j ≠ z → S w) ∧ wpAnyZ P l0.toArray (Exit.then K fun _ _ _ => False) S z fuel (listed.setIfInBounds j true) a w) → K1 a w) → wpList P l0.toArray (Exit.then K1 fun _ _ _ => False) [o2] a w) :
    wpAnyZ P l0.toArray (Exit.then K fun _ _ _ => False) S z n listed a w := by
  subst hn
  have e1 := s1
  have e2 := s2
  refine ⟨(fun h0 => by rw [hr] at h0; cases h0), fun q hq => ?_⟩
  rw [hr] at hq
  simp only [List.mem_cons, List.not_mem_nil, or_false] at hq
  rcases hq with rfl | rfl
  · exact wpOpZ_list h1 k1
  · exact wpOpZ_list h2 k2
theorem wp_planz (z : Nat) {id : Nat} {Q : Exit → Act → World → Prop} {a : Act} {w : World} {l : List Oper} (hm : P.follows .mixedOrders = true) (hS : S w.drew)
    (h : S w.drew → ∀ K : Act → World → Prop, (∀ a w, Q .normal a w → K a w) → wpAnyZ P l.toArray (Exit.then K fun _ _ _ => False) S z l.length (Array.replicate l.length false) a w.drew) : (Code.region id l.toArray true).wp P Q a w := by
  have h1 := h hS _ (fun _ _ hk => hk)
  refine Code.wp_mono (fun e a w hq => ?_) (wp_region_any hm (wpAnyZ.any _ _ _ _ (by simpa using h1)))
  cases e <;> first | exact hq | exact hq.elim
theorem wp_planz_end {K : Act → World → Prop} {fuel : Nat} {listed : Array Bool} {a : Act} {w : World} (hr : Region.ready .any ops listed = []) (h : K a w) : wpAnyZ P ops (Exit.then K fun _ _ _ => False) S z fuel listed a w := by
  cases fuel with
  | zero => exact ⟨hr, h⟩
  | succ k => exact ⟨fun _ => h, fun i hi => by rw [hr] at hi; cases hi⟩
end
end Go.Proofs.Ytahncanmfjmfnaa

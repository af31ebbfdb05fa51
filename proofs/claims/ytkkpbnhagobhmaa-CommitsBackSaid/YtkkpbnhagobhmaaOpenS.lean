/- Arguments, opened: slices of structs whose fields are ints. -/
import Derived.Test.YtkkpbnhagobhmaaOpen
import Derived.Deep.Slices
namespace Go.Proofs.Ytkkpbnhagobhmaa
open Go.ChangeShapes Go.WideShapes Go.ChangeAt Go.RowKit

/-- Every field is an int, one cell each, one behind the other. -/
def allInts (P : Program) (fs : Array Field) : Bool :=
  (List.range fs.size).all fun j => match fs[j]? with
    | some f => f.offset == j && f.type == 3 && P.cellsOf f.type == 1
    | none => false

theorem allInts_at {P : Program} {fs : Array Field} (h : allInts P fs = true) (j : Nat) (hj : j < fs.size) : ∃ f, fs[j]? = some f ∧ f.offset = j ∧ f.type = 3 ∧ P.cellsOf f.type = 1 := by
  have := List.all_eq_true.1 h j (by simpa using hj)
  have hs : fs[j]? = some fs[j] := Array.getElem?_eq_getElem hj
  rw [hs] at this
  simp only [Bool.and_eq_true, beq_iff_eq] at this
  exact ⟨_, hs, this.1.1, this.1.2, this.2⟩

theorem open_rows {H : Type} {enc : TypeId × Value → H} {P : Program} {W : World} {base : Nat} {t e m : Nat} {fs : Array Field} {v : Value} {d : DataW H} {p : List MemPlace}
    (ht : P.underlying t = some (.slice e)) (he : P.underlying e = some (.struct fs)) (hi : P.underlying 3 = some (.int .i64)) (hc : P.cellsOf e = m) (hm : fs.size = m) (hm0 : 0 < m) (hall : allInts P fs = true)
    (hv : Value.okWide P W .any base t v) (h : DataW.Trod enc P W 0 (fun _ => true) true t v d p) (hlt : ∀ x ∈ p, x.block < W.heap.size) :
    ∃ (A : Option Addr) (n c : Nat) (V : Nat → Value) (f : Nat → Nat → Int), v = .slice A n c ∧ (n ≤ c ∧ c ≤ maxLen) ∧ At W A (n * m) V ∧ (∀ i j, i < n → j < m → V (i * m + j) = .int .i64 (f i j)) ∧
      (∀ i j, i < n → j < m → (Lit.int .i64 (f i j)).wf = true) := by
  obtain ⟨a0, len, cap, rfl⟩ := okWide_slice ht hv
  obtain ⟨fuel, hf⟩ := h
  rcases Go.Deep.open_slice ht hf with ⟨hcs, hx⟩ | ⟨a, len', cap', m', n', D, Pl, hcs, _, hl, hmx, hm', hx, hel⟩
  · simp [Value.cells] at hcs
    obtain ⟨rfl, rfl, rfl⟩ := hcs
    exact ⟨none, 0, 0, fun _ => .int .i64 0, fun _ _ => 0, rfl, ⟨Nat.le_refl _, Nat.zero_le _⟩, fun h => absurd h (by omega), fun i j hi => absurd hi (by omega), fun i j hi => absurd hi (by omega)⟩
  · simp [Value.cells] at hcs
    obtain ⟨rfl, rfl, rfl⟩ := hcs
    simp only [if_true] at hm'
    obtain rfl : cap = m' := hm'.symm
    rw [hc] at hel hx
    have hcell : ∀ i j, i < len → j < m → ∃ z : Int, W.cell? (a.add (i * m + j)) = some (.int .i64 z) ∧ (Lit.int .i64 z).wf = true := by
      intro i j hi' hj
      obtain ⟨cs', hcs', htr⟩ := hel i (by omega)
      obtain ⟨_, hcl, hcat⟩ := World.cells?_some hcs'
      obtain ⟨ys, n2, _, _, hlen2, _, hf2⟩ := DataW.trod_struct he htr
      obtain ⟨f, hfj, ho, hty, hone⟩ := allInts_at hall j (by omega)
      have hj2 := hf2 j f hfj
      have hone' : (cs'.drop f.offset).take (P.cellsOf f.type) = [cs'[j]'(by omega)] := by
        rw [ho, hone, List.drop_eq_getElem_cons (by omega)]; rfl
      rw [hone', hty] at hj2
      have hys : ys[j]? = some (ys[j]'(by omega)) := List.getElem?_eq_getElem (by omega)
      rw [hys] at hj2
      obtain ⟨z, hz, _, hw⟩ := DataW.trod_int hi hj2
      refine ⟨z, ?_, hw⟩
      rw [← Go.Deep.add_add, hcat j hj, List.getElem?_eq_getElem (by omega)]
      simpa using hz
    have hch : ∀ i, i < len → ∃ g : Nat → Int, ∀ j, j < m → W.cell? (a.add (i * m + j)) = some (.int .i64 (g j)) ∧ (Lit.int .i64 (g j)).wf = true := fun i hi' => Go.Deep.choose_lt fun j hj => hcell i j hi' hj
    obtain ⟨f, hfall⟩ := Go.Deep.choose_lt hch
    have hval : ∀ i j, i < len → j < m → (i * m + j) / m = i ∧ (i * m + j) % m = j := fun i j _ hj => by
      constructor
      · rw [Nat.mul_comm, Nat.mul_add_div hm0, Nat.div_eq_of_lt hj]; omega
      · rw [Nat.mul_comm, Nat.mul_add_mod, Nat.mod_eq_of_lt hj]
    refine ⟨some a, len, cap, fun q => .int .i64 (f (q / m) (q % m)), f, rfl, ⟨hl, hmx⟩, fun hpos => ?_, fun i j hi' hj => by simp only [(hval i j hi' hj).1, (hval i j hi' hj).2], fun i j hi' hj => (hfall i hi' j hj).2⟩
    have hlen0 : 0 < len := by
      rcases Nat.eq_zero_or_pos len with h0 | h0
      · subst h0; simp at hpos
      · exact h0
    obtain ⟨b, off, spot⟩ := a
    have hspot : spot = none := by simpa [Addr.add] using World.cell?_spot ((hfall 0 hlen0 0 hm0).1)
    subst hspot
    simp only [Prod.mk.injEq] at hx
    obtain ⟨_, rfl⟩ := hx
    refine ⟨b, off, rfl, hlt (.cell b off) (List.mem_append_left _ (MemPlace.mem_row.2 ⟨0, ?_, by simp⟩)), fun q hq => ?_⟩
    · have : 1 * 1 ≤ cap * m := Nat.mul_le_mul (by omega) hm0
      omega
    · have hq1 : q / m < len := Nat.div_lt_of_lt_mul (by rw [Nat.mul_comm]; exact hq)
      have hq2 : q % m < m := Nat.mod_lt _ hm0
      have hq3 : q / m * m + q % m = q := by rw [Nat.mul_comm]; exact Nat.div_add_mod q m
      rw [← add_none]
      have := (hfall (q / m) hq1 (q % m) hq2).1
      rw [hq3] at this
      exact this
end Go.Proofs.Ytkkpbnhagobhmaa

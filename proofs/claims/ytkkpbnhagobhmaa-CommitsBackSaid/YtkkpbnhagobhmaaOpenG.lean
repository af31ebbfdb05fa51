/- Arguments, opened: a slice of whatever elements, each said by its own relation; a struct, field by field. No function of the program is named. -/
import Derived.Test.YtkkpbnhagobhmaaOpen
import Derived.Deep.Slices
namespace Go.Proofs.Ytkkpbnhagobhmaa
open Go.ChangeShapes Go.WideShapes Go.ChangeAt Go.RowKit

/-- The cells of element i, m of them. -/
def cellsAt (V : Nat → Value) (i m : Nat) : List Value := (List.range m).map fun j => V (i * m + j)
theorem cellsAt_get (V : Nat → Value) (i m j : Nat) (h : j < m) : (cellsAt V i m)[j]? = some (V (i * m + j)) := by simp [cellsAt, h]
/-- A cell out of what an element's cells are. -/
theorem cellsAt_cell {V : Nat → Value} {i m : Nat} {cs : List Value} (h : cellsAt V i m = cs) (j : Nat) (hj : j < m) {v : Value} (hv : cs[j]? = some v) : V (i * m + j) = v := by
  rw [← h, cellsAt_get V i m j hj] at hv
  exact Option.some.inj hv

section
variable {H : Type} {enc : TypeId × Value → H} {P : Program} {W : World}

/-- A slice holds the elements 'xs', each by R. -/
def Sls {α : Type} (W : World) (m : Nat) (R : List Value → α → Prop) (cs : List Value) (xs : List α) : Prop :=
  ∃ A n c V, cs = [.slice A n c] ∧ xs.length = n ∧ n ≤ c ∧ c ≤ maxLen ∧ At W A (n * m) V ∧ ∀ (i : Nat) (a : α), xs[i]? = some a → R (cellsAt V i m) a

theorem trod_slg {α : Type} [Inhabited α] {t e m : Nat} (ht : P.underlying t = some (.slice e)) (hc : P.cellsOf e = m) (hm0 : 0 < m) {R : List Value → α → Prop}
    (he : ∀ fuel cs (x : DataW H × List MemPlace), DataW.trod enc P W 0 (fun _ => true) true fuel e cs = some x → (∀ y ∈ x.2, y.block < W.heap.size) → ∃ a, R cs a)
    {fuel : Nat} {cs : List Value} {x : DataW H × List MemPlace} (h : DataW.trod enc P W 0 (fun _ => true) true fuel t cs = some x) (hlt : ∀ y ∈ x.2, y.block < W.heap.size) : ∃ xs, Sls W m R cs xs := by
  rcases Go.Deep.open_slice ht h with ⟨hcs, _⟩ | ⟨a, len, cap, m', n', D, Pl, hcs, _, hl, hmx, hm', hx, hel⟩
  · exact ⟨[], none, 0, 0, fun _ => undef, hcs, rfl, Nat.le_refl _, Nat.zero_le _, fun h => absurd h (by omega), fun i a h => by simp at h⟩
  · simp only [if_true] at hm'
    obtain rfl : cap = m' := hm'.symm
    rw [hc] at hel hx
    rw [hx] at hlt
    have hone : ∀ i, i < len → ∃ q : List Value × α, q.1.length = m ∧ (∀ j, j < m → W.cell? (a.add (i * m + j)) = q.1[j]?) ∧ R q.1 q.2 := by
      intro i hi'
      obtain ⟨cs', hcs', htr⟩ := hel i (by omega)
      obtain ⟨_, hcl, hcat⟩ := World.cells?_some hcs'
      obtain ⟨b, hb⟩ := he _ _ _ htr fun y hy => hlt y (List.mem_append_right _ (List.mem_flatMap.2 ⟨i, List.mem_range.2 (by omega), hy⟩))
      exact ⟨(cs', b), hcl, fun j hj => by rw [← Go.Deep.add_add]; exact hcat j hj, hb⟩
    have : Inhabited (List Value × α) := ⟨([], default)⟩
    obtain ⟨f, hfall⟩ := Go.Deep.choose_lt hone
    have hval : ∀ i j, j < m → (i * m + j) / m = i ∧ (i * m + j) % m = j := fun i j hj => by
      constructor
      · rw [Nat.mul_comm, Nat.mul_add_div hm0, Nat.div_eq_of_lt hj]; omega
      · rw [Nat.mul_comm, Nat.mul_add_mod, Nat.mod_eq_of_lt hj]
    refine ⟨(List.range len).map fun i => (f i).2, some a, len, cap, fun q => (f (q / m)).1.getD (q % m) undef, hcs, by simp, hl, hmx, fun hpos => ?_, fun i b hb => ?_⟩
    · have hlen0 : 0 < len := by
        rcases Nat.eq_zero_or_pos len with h0 | h0
        · subst h0; simp at hpos
        · exact h0
      have hcell : ∀ i j, i < len → j < m → W.cell? (a.add (i * m + j)) = some ((f i).1.getD j undef) := fun i j hi' hj => by
        obtain ⟨h1, h2, _⟩ := hfall i hi'
        rw [h2 j hj, List.getElem?_eq_getElem (by omega)]
        simp [List.getD, List.getElem?_eq_getElem (show j < (f i).1.length by omega)]
      obtain ⟨b, off, spot⟩ := a
      have hspot : spot = none := by simpa [Addr.add] using World.cell?_spot (hcell 0 0 hlen0 hm0)
      subst hspot
      refine ⟨b, off, rfl, hlt (.cell b off) (List.mem_append_left _ (MemPlace.mem_row.2 ⟨0, ?_, by simp⟩)), fun q hq => ?_⟩
      · have : 1 * 1 ≤ cap * m := Nat.mul_le_mul (by omega) hm0
        omega
      · have hq1 : q / m < len := Nat.div_lt_of_lt_mul (by rw [Nat.mul_comm]; exact hq)
        have hq2 : q % m < m := Nat.mod_lt _ hm0
        have hq3 : q / m * m + q % m = q := by rw [Nat.mul_comm]; exact Nat.div_add_mod q m
        rw [← add_none]
        have := hcell (q / m) (q % m) hq1 hq2
        rw [hq3] at this
        exact this
    · have hi' : i < len := by
        rcases Nat.lt_or_ge i len with h | h
        · exact h
        · rw [List.getElem?_eq_none (by simpa using h)] at hb; cases hb
      obtain ⟨h1, _, h3⟩ := hfall i hi'
      rw [List.getElem?_map, List.getElem?_range hi'] at hb
      simp only [Option.map_some, Option.some.injEq] at hb
      subst hb
      have e : cellsAt (fun q => (f (q / m)).1.getD (q % m) undef) i m = (f i).1 := by
        apply List.ext_getElem?
        intro j
        rcases Nat.lt_or_ge j m with hj | hj
        · rw [cellsAt_get _ _ _ _ hj]
          simp only [(hval i j hj).1, (hval i j hj).2]
          simp [List.getD, List.getElem?_eq_getElem (show j < (f i).1.length by omega)]
        · rw [List.getElem?_eq_none (by simp [cellsAt]; exact hj), List.getElem?_eq_none (by omega)]
      rw [e]
      exact h3

/-- A struct's cells: each field's are data of its type. -/
theorem trod_field {t : Nat} {fs : Array Field} (ht : P.underlying t = some (.struct fs)) {fuel : Nat} {cs : List Value} {x : DataW H × List MemPlace} (h : DataW.trod enc P W 0 (fun _ => true) true fuel t cs = some x)
    (hlt : ∀ y ∈ x.2, y.block < W.heap.size) : cs.length = P.cellsOf t ∧ ∀ (j : Nat) (f : Field), fs[j]? = some f → ∃ n z, DataW.trod enc P W 0 (fun _ => true) true n f.type ((cs.drop f.offset).take (P.cellsOf f.type)) = some z ∧ ∀ y ∈ z.2, y.block < W.heap.size := by
  obtain ⟨ys, n2, _, hx, hlen2, hys, hf2⟩ := DataW.trod_struct ht h
  refine ⟨hlen2, fun j f hj => ?_⟩
  have h2 := hf2 j f hj
  have hlt' : j < fs.size := by
    rcases Nat.lt_or_ge j fs.size with h | h
    · exact h
    · rw [Array.getElem?_eq_none h] at hj; cases hj
  have hy : ys[j]? = some (ys[j]'(by omega)) := List.getElem?_eq_getElem (by omega)
  rw [hy] at h2
  refine ⟨n2, _, h2, fun y hyy => hlt y ?_⟩
  rw [hx]
  exact List.mem_flatMap.2 ⟨_, List.getElem_mem _, hyy⟩
/-- A field of one cell. -/
theorem one_cell {cs : List Value} {j : Nat} {v : Value} (h : (cs.drop j).take 1 = [v]) : cs[j]? = some v := by
  have := congrArg (fun l : List Value => l[0]?) h
  simpa using this
/-- Fields of one cell each, by their kinds. -/
theorem field_one {t : Nat} {fs : Array Field} (ht : P.underlying t = some (.struct fs)) {fuel : Nat} {cs : List Value} {x : DataW H × List MemPlace} (h : DataW.trod enc P W 0 (fun _ => true) true fuel t cs = some x)
    (hlt : ∀ y ∈ x.2, y.block < W.heap.size) (j : Nat) (f : Field) (hj : fs[j]? = some f) (h1 : P.cellsOf f.type = 1) (hlen : f.offset < P.cellsOf t) :
    ∃ v n z, cs[f.offset]? = some v ∧ DataW.trod enc P W 0 (fun _ => true) true n f.type [v] = some z ∧ ∀ y ∈ z.2, y.block < W.heap.size := by
  obtain ⟨hl, hf⟩ := trod_field ht h hlt
  obtain ⟨n, z, h2, h3⟩ := hf j f hj
  rw [h1, List.drop_eq_getElem_cons (by omega)] at h2
  exact ⟨cs[f.offset]'(by omega), n, z, List.getElem?_eq_getElem (by omega), h2, h3⟩
theorem field_int {t : Nat} {fs : Array Field} (ht : P.underlying t = some (.struct fs)) {fuel : Nat} {cs : List Value} {x : DataW H × List MemPlace} (h : DataW.trod enc P W 0 (fun _ => true) true fuel t cs = some x)
    (hlt : ∀ y ∈ x.2, y.block < W.heap.size) (k : IntKind) (j o : Nat) (f : Field) (hj : fs[j]? = some f) (ho : f.offset = o) (h1 : P.cellsOf f.type = 1) (hlen : o < P.cellsOf t) (hu : P.underlying f.type = some (.int k)) :
    ∃ a : Int, cs[o]? = some (.int k a) ∧ (Lit.int k a).wf = true := by
  obtain ⟨v, n, z, hv, hz, _⟩ := field_one ht h hlt j f hj h1 (by omega)
  obtain ⟨a, e, _, hw⟩ := DataW.trod_int hu hz
  simp only [List.cons.injEq, and_true] at e
  exact ⟨a, by rw [← ho, hv, e], hw⟩
theorem field_bool {t : Nat} {fs : Array Field} (ht : P.underlying t = some (.struct fs)) {fuel : Nat} {cs : List Value} {x : DataW H × List MemPlace} (h : DataW.trod enc P W 0 (fun _ => true) true fuel t cs = some x)
    (hlt : ∀ y ∈ x.2, y.block < W.heap.size) (j o : Nat) (f : Field) (hj : fs[j]? = some f) (ho : f.offset = o) (h1 : P.cellsOf f.type = 1) (hlen : o < P.cellsOf t) (hu : P.underlying f.type = some .bool) :
    ∃ a : Bool, cs[o]? = some (.bool a) := by
  obtain ⟨v, n, z, hv, hz, _⟩ := field_one ht h hlt j f hj h1 (by omega)
  obtain ⟨a, e, _⟩ := DataW.trod_bool hu hz
  simp only [List.cons.injEq, and_true] at e
  exact ⟨a, by rw [← ho, hv, e]⟩
theorem field_str {t : Nat} {fs : Array Field} (ht : P.underlying t = some (.struct fs)) {fuel : Nat} {cs : List Value} {x : DataW H × List MemPlace} (h : DataW.trod enc P W 0 (fun _ => true) true fuel t cs = some x)
    (hlt : ∀ y ∈ x.2, y.block < W.heap.size) (j o : Nat) (f : Field) (hj : fs[j]? = some f) (ho : f.offset = o) (h1 : P.cellsOf f.type = 1) (hlen : o < P.cellsOf t) (hu : P.underlying f.type = some .string) :
    ∃ a : ByteArray, cs[o]? = some (.string a) ∧ a.size ≤ maxLen := by
  obtain ⟨v, n, z, hv, hz, _⟩ := field_one ht h hlt j f hj h1 (by omega)
  obtain ⟨a, e, _, hm⟩ := DataW.trod_string hu hz
  simp only [List.cons.injEq, and_true] at e
  exact ⟨a, by rw [← ho, hv, e], hm⟩
end
end Go.Proofs.Ytkkpbnhagobhmaa

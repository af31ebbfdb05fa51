/- Arguments, opened: structs by value, one cell a field; a Config. -/
import Derived.Test.YtndingohckcmdaaOpenS
namespace Go.Proofs.Ytndingohckcmdaa
open Go.ChangeShapes Go.WideShapes Go.ChangeAt Go.RowKit

theorem open_flat {H : Type} {enc : TypeId × Value → H} {P : Program} {W : World} {base : Nat} {t : Nat} {fs : Array Field} {v : Value} {d : DataW H} {p : List MemPlace}
    (ht : P.underlying t = some (.struct fs)) (hv : Value.okWide P W .any base t v) (h : DataW.Trod enc P W 0 (fun _ => true) true t v d p) :
    ∃ cs : Array Value, v = .agg cs ∧ cs.size = P.cellsOf t ∧
      (∀ (j : Nat) (f : Field) (k : IntKind), j < P.cellsOf t → fs[j]? = some f → f.offset = j → P.underlying f.type = some (.int k) → P.cellsOf f.type = 1 → ∃ z : Int, cs[j]? = some (.int k z) ∧ (Lit.int k z).wf = true) ∧
      (∀ (j : Nat) (f : Field), j < P.cellsOf t → fs[j]? = some f → f.offset = j → P.underlying f.type = some .bool → P.cellsOf f.type = 1 → ∃ z : Bool, cs[j]? = some (.bool z)) := by
  obtain ⟨cs, rfl, hsz⟩ := okWide_struct ht hv
  obtain ⟨fuel, hf⟩ := h
  obtain ⟨ys, n2, _, _, hlen2, hys, hf2⟩ := DataW.trod_struct ht hf
  have hc : Value.cells (.agg cs) = cs := rfl
  rw [hc] at hf2 hlen2
  have hone : ∀ (j : Nat) (f : Field), j < P.cellsOf t → fs[j]? = some f → f.offset = j → P.cellsOf f.type = 1 → ∃ x y, cs[j]? = some x ∧ DataW.trod enc P W 0 (fun _ => true) true n2 f.type [x] = some y := by
    intro j f hjt hj ho h1
    have hlt : j < fs.size := by
      rcases Nat.lt_or_ge j fs.size with h | h
      · exact h
      · rw [Array.getElem?_eq_none h] at hj; cases hj
    have h2 := hf2 j f hj
    have hy : ys[j]? = some (ys[j]'(by omega)) := List.getElem?_eq_getElem (by omega)
    rw [hy, ho, h1] at h2
    have h : j < cs.toList.length := by rw [Array.length_toList]; omega
    rw [List.drop_eq_getElem_cons h] at h2
    refine ⟨cs.toList[j], _, ?_, h2⟩
    rw [← Array.getElem?_toList, List.getElem?_eq_getElem h]
  refine ⟨cs, rfl, hsz, ?_, ?_⟩
  · intro j f k hjt hj ho hu h1
    obtain ⟨x, y, hx, hy⟩ := hone j f hjt hj ho h1
    obtain ⟨z, hz, _, hw⟩ := DataW.trod_int hu hy
    simp only [List.cons.injEq, and_true] at hz
    exact ⟨z, by rw [hx, hz], hw⟩
  · intro j f hjt hj ho hu h1
    obtain ⟨x, y, hx, hy⟩ := hone j f hjt hj ho h1
    obtain ⟨z, hz, _⟩ := DataW.trod_bool hu hy
    simp only [List.cons.injEq, and_true] at hz
    exact ⟨z, by rw [hx, hz]⟩

end Go.Proofs.Ytndingohckcmdaa

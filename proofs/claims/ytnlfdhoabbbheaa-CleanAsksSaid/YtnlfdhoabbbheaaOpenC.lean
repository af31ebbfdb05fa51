/- Arguments, opened: structs by value, one cell a field; a Config. -/
import Derived.Test.YtnlfdhoabbbheaaOpenS
namespace Go.Proofs.Ytnlfdhoabbbheaa
open Go.ChangeShapes Go.WideShapes Go.ChangeAt Go.RowKit

theorem open_flat {H : Type} {enc : TypeId × Value → H} {P : Program} {W : World} {base : Nat} {t : Nat} {fs : Array Field} {v : Value} {d : DataW H} {p : List MemPlace}
    (ht : P.underlying t = some (.struct fs)) (hv : Value.okWide P W .any base t v) (h : DataW.Trod enc P W 0 (fun _ => true) true t v d p) :
    ∃ cs : Array Value, v = .agg cs ∧ cs.size = P.cellsOf t ∧
      (∀ (j : Nat) (f : Field) (k : IntKind), j < P.cellsOf t → fs[j]? = some f → f.offset = j → P.underlying f.type = some (.int k) → P.cellsOf f.type = 1 → ∃ z : Int, cs[j]? = some (.int k z) ∧ (Lit.int k z).wf = true) ∧
      (∀ (j : Nat) (f : Field), j < P.cellsOf t → fs[j]? = some f → f.offset = j → P.underlying f.type = some .bool → P.cellsOf f.type = 1 → ∃ z : Bool, cs[j]? = some (.bool z)) := by
  obtain ⟨cs, rfl, hsz⟩ := okWide_struct ht hv
  obtain ⟨fuel, hf⟩ := h
  obtain ⟨ys, n2, _, _, hlen2, hys, hf2⟩ := DataW.trod_struct ht hf
  have hc : Value.cells (.agg cs) = cs := rfl
  rw [hc] at hf2 hlen2
  have hone : ∀ (j : Nat) (f : Field), j < P.cellsOf t → fs[j]? = some f → f.offset = j → P.cellsOf f.type = 1 → ∃ x y, cs[j]? = some x ∧ DataW.trod enc P W 0 (fun _ => true) true n2 f.type [x] = some y := by
    intro j f hjt hj ho h1
    have hlt : j < fs.size := by
      rcases Nat.lt_or_ge j fs.size with h | h
      · exact h
      · rw [Array.getElem?_eq_none h] at hj; cases hj
    have h2 := hf2 j f hj
    have hy : ys[j]? = some (ys[j]'(by omega)) := List.getElem?_eq_getElem (by omega)
    rw [hy, ho, h1] at h2
    have h : j < cs.toList.length := by rw [Array.length_toList]; omega
    rw [List.drop_eq_getElem_cons h] at h2
    refine ⟨cs.toList[j], _, ?_, h2⟩
    rw [← Array.getElem?_toList, List.getElem?_eq_getElem h]
  refine ⟨cs, rfl, hsz, ?_, ?_⟩
  · intro j f k hjt hj ho hu h1
    obtain ⟨x, y, hx, hy⟩ := hone j f hjt hj ho h1
    obtain ⟨z, hz, _, hw⟩ := DataW.trod_int hu hy
    simp only [List.cons.injEq, and_true] at hz
    exact ⟨z, by rw [hx, hz], hw⟩
  · intro j f hjt hj ho hu h1
    obtain ⟨x, y, hx, hy⟩ := hone j f hjt hj ho h1
    obtain ⟨z, hz, _⟩ := DataW.trod_bool hu hy
    simp only [List.cons.injEq, and_true] at hz
    exact ⟨z, by rw [hx, hz]⟩

set_option maxRecDepth 100000 in
theorem open_config {H : Type} {enc : TypeId × Value → H} {W : World} {base : Nat} {v : Value} {d : DataW H} {p : List MemPlace}
    (hv : Value.okWide Try.prog W .any base 24 v) (h : DataW.Trod enc Try.prog W 0 (fun _ => true) true 24 v d p) :
    ∃ (c0 c1 c2 c3 c4 : Int) (c5 : Bool) (c6 c7 : Int) (c8 : Bool), v = .agg #[.int .i64 c0, .int .i64 c1, .int .i64 c2, .int .i64 c3, .int .i64 c4, .bool c5, .int .i64 c6, .int .i64 c7, .bool c8] ∧
      (Lit.int .i64 c0).wf = true ∧ (Lit.int .i64 c1).wf = true ∧ (Lit.int .i64 c3).wf = true ∧ (Lit.int .i64 c4).wf = true := by
  obtain ⟨cs, rfl, hsz, hI, hB⟩ := open_flat Try.underlying24 hv h
  have hsz9 : cs.size = 9 := hsz.trans (by kernel_rfl)
  have hi : (Try.prog.cellsOf 3) = 1 := by kernel_rfl
  have hb : (Try.prog.cellsOf 4) = 1 := by kernel_rfl
  obtain ⟨c0, e0, w0⟩ := hI 0 _ .i64 (by rw [← hsz, hsz9]; omega) rfl rfl Try.underlying3 hi
  obtain ⟨c1, e1, w1⟩ := hI 1 _ .i64 (by rw [← hsz, hsz9]; omega) rfl rfl Try.underlying3 hi
  obtain ⟨c2, e2, w2⟩ := hI 2 _ .i64 (by rw [← hsz, hsz9]; omega) rfl rfl Try.underlying3 hi
  obtain ⟨c3, e3, w3⟩ := hI 3 _ .i64 (by rw [← hsz, hsz9]; omega) rfl rfl Try.underlying3 hi
  obtain ⟨c4, e4, w4⟩ := hI 4 _ .i64 (by rw [← hsz, hsz9]; omega) rfl rfl Try.underlying3 hi
  obtain ⟨c5, e5⟩ := hB 5 _ (by rw [← hsz, hsz9]; omega) rfl rfl Try.underlying4 hb
  obtain ⟨c6, e6, w6⟩ := hI 6 _ .i64 (by rw [← hsz, hsz9]; omega) rfl rfl Try.underlying3 hi
  obtain ⟨c7, e7, w7⟩ := hI 7 _ .i64 (by rw [← hsz, hsz9]; omega) rfl rfl Try.underlying3 hi
  obtain ⟨c8, e8⟩ := hB 8 _ (by rw [← hsz, hsz9]; omega) rfl rfl Try.underlying4 hb
  refine ⟨c0, c1, c2, c3, c4, c5, c6, c7, c8, ?_, w0, w1, w3, w4⟩
  congr 1
  apply Array.ext_getElem?
  intro j
  match j with
  | 0 => exact e0
  | 1 => exact e1
  | 2 => exact e2
  | 3 => exact e3
  | 4 => exact e4
  | 5 => exact e5
  | 6 => exact e6
  | 7 => exact e7
  | 8 => exact e8
  | j + 9 => rw [Array.getElem?_eq_none (by omega), Array.getElem?_eq_none (by simp)]
end Go.Proofs.Ytnlfdhoabbbheaa

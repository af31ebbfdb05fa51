/- Arguments, opened: a batch by value. -/
import Derived.Test.YtndingohckcmdaaBsC
import Derived.Test.YtndingohckcmdaaOpenC
namespace Go.Proofs.Ytndingohckcmdaa
open Go.ChangeShapes Go.WideShapes Go.ChangeAt Go.RowKit

set_option maxRecDepth 20000 in
theorem open_bat {H : Type} {enc : TypeId × Value → H} {W : World} {base : Nat} {v : Value} {d : DataW H} {p : List MemPlace}
    (hv : Value.okWide Try.prog W .any base 24 v) (h : DataW.Trod enc Try.prog W 0 (fun _ => true) true 24 v d p) (hlt : ∀ x ∈ p, x.block < W.heap.size) :
    ∃ (b : Bat) (A : Option Addr) (c : Nat), v = b.hval A b.recs.length c ∧ RecsV W (.slice A b.recs.length c) b.recs := by
  obtain ⟨cs, rfl, hsz⟩ := okWide_struct Try.underlying24 hv
  obtain ⟨fuel, hf⟩ := h
  have hc : Value.cells (.agg cs) = cs := rfl
  rw [hc] at hf
  obtain ⟨b, v5, h1, h2, -⟩ := bat_of_trod hf hlt
  obtain ⟨A, c, V, hv5, hrest⟩ := id h2
  subst hv5
  refine ⟨b, A, c, ?_, h2⟩
  unfold Bat.hval
  exact congrArg Value.agg (Array.ext' h1)
end Go.Proofs.Ytndingohckcmdaa

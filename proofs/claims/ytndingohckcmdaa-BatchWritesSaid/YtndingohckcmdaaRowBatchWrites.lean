/- The law BatchWrites, whatever its arguments: it answers true and leaves them as they were. -/
import Derived.Test.YtndingohckcmdaaBwW
import Derived.Test.YtndingohckcmdaaBsO
import Derived.Test.YtndingohckcmdaaOpenS
namespace Go.Proofs.Ytndingohckcmdaa.lawBatchWrites
open Go.ChangeShapes Go.WideShapes Go.ChangeAt Go.RowKit

set_option maxRecDepth 100000 in
set_option linter.unusedVariables false in
theorem lifted (os : Os) (started : os.Started) (H : Type) (enc : TypeId × Value → H) :
    ReturnsInHanded {} Try.checked os 3 .any (Rows.batchWritesSpec.pre6 enc Try.prog Try.f3 Rows.batchWritesRow.domain false) (Rows.batchWritesSpec.post enc Try.prog Try.f3 false true false false) := by
  refine law_lifted os started 3 Try.f3 _ _ (by kernel_rfl) Try.func3
    (ChangeSpec.witness6 (enc := enc) (C := Try.checked) false ⟨#[], #[.agg #[.int .i64 0, .int .i64 0, .int .i64 0, .int .i64 0, .int .i64 0, .slice none 0 0]], []⟩ 8 (by kernel_rfl) (by kernel_rfl) (by kernel_rfl) (by kernel_rfl)) rfl rfl (by kernel_rfl) ?_ ?_
  · intro ds hds
    rw [Try.params3] at hds
    match ds, hds with
    | [d0], _ => rfl
  · intro W base args ds p hval hA hlt hsz
    rw [Try.params3] at hA hval hsz
    obtain ⟨v0, vs0, d0, ds0, p0, q0, hargs, rfl, rfl, h0, r0⟩ := trodAll_cons hA
    obtain ⟨rfl, rfl, rfl⟩ := trodAll_nil r0
    obtain rfl : args = #[v0] := by cases args; simp_all
    obtain ⟨b0, A0, c0, rfl, rv0⟩ := open_bat (hval 0 24 v0 rfl rfl) h0 (fun x hx => hlt x (by simp [hx]))
    exact bat.lawWrites b0 A0 c0 W rv0 

theorem over : Rows.batchWritesRow.holds Try.pinned (OpenSpec.ofChange Rows.batchWritesSpec) :=
  OpenClaim.holds_of_wide 3 Try.f3 rfl rfl rfl rfl rfl rfl rfl ⟨rfl, rfl, rfl, rfl, rfl⟩ rfl rfl rfl rfl rfl (by kernel_rfl) Try.func3 (by kernel_rfl)
    (of_decide_eq_true (by kernel_rfl)) (by unfold Func.isWrapper; first | (rw [if_pos (by decide +kernel)]; kernel_rfl) | (rw [if_neg (by decide +kernel)]; exact ⟨rfl, rfl⟩))
    (fun os started H enc _ => lifted os started H enc)

theorem proved : Rows.BatchWritesSaid :=
  over
#print axioms proved
end Go.Proofs.Ytndingohckcmdaa.lawBatchWrites

/- The law BatchGaps, whatever its arguments: it answers true and leaves them as they were. -/
import Derived.Test.YtndingohckcmdaaBgW
import Derived.Test.YtndingohckcmdaaBsO
import Derived.Test.YtndingohckcmdaaOpenS
namespace Go.Proofs.Ytndingohckcmdaa.lawBatchGaps
open Go.ChangeShapes Go.WideShapes Go.ChangeAt Go.RowKit

set_option maxRecDepth 100000 in
set_option linter.unusedVariables false in
theorem lifted (os : Os) (started : os.Started) (H : Type) (enc : TypeId × Value → H) :
    ReturnsInHanded {} Try.checked os 10 .any (Rows.batchGapsSpec.pre6 enc Try.prog Try.f10 Rows.batchGapsRow.domain false) (Rows.batchGapsSpec.post enc Try.prog Try.f10 false true false false) := by
  refine law_lifted os started 10 Try.f10 _ _ (by kernel_rfl) Try.func10
    (ChangeSpec.witness6 (enc := enc) (C := Try.checked) false ⟨#[], #[.agg #[.int .i64 0, .int .i64 0, .int .i64 0, .int .i64 0, .int .i64 0, .slice none 0 0], .slice none 0 0], []⟩ 8 (by kernel_rfl) (by kernel_rfl) (by kernel_rfl) (by kernel_rfl)) rfl rfl (by kernel_rfl) ?_ ?_
  · intro ds hds
    rw [Try.params10] at hds
    match ds, hds with
    | [d0, d1], _ => rfl
  · intro W base args ds p hval hA hlt hsz
    rw [Try.params10] at hA hval hsz
    obtain ⟨v0, vs0, d0, ds0, p0, q0, hargs, rfl, rfl, h0, r0⟩ := trodAll_cons hA
    obtain ⟨v1, vs1, d1, ds1, p1, q1, rfl, rfl, rfl, h1, r1⟩ := trodAll_cons r0
    obtain ⟨rfl, rfl, rfl⟩ := trodAll_nil r1
    obtain rfl : args = #[v0, v1] := by cases args; simp_all
    obtain ⟨b0, A0, c0, rfl, rv0⟩ := open_bat (hval 0 24 v0 rfl rfl) h0 (fun x hx => hlt x (by simp [hx]))
    obtain ⟨A1, n1, c1, kb1, rfl, at1, m1⟩ := open_boolz Try.underlying64 Try.underlying4 (by kernel_rfl) (hval 1 64 v1 rfl rfl) h1 (fun x hx => hlt x (by simp [hx]))
    exact bat.lawGaps b0 A0 c0 A1 n1 c1 kb1 W rv0 at1 m1 

theorem over : Rows.batchGapsRow.holds Try.pinned (OpenSpec.ofChange Rows.batchGapsSpec) :=
  OpenClaim.holds_of_wide 10 Try.f10 rfl rfl rfl rfl rfl rfl rfl ⟨rfl, rfl, rfl, rfl, rfl⟩ rfl rfl rfl rfl rfl (by kernel_rfl) Try.func10 (by kernel_rfl)
    (of_decide_eq_true (by kernel_rfl)) (by unfold Func.isWrapper; first | (rw [if_pos (by decide +kernel)]; kernel_rfl) | (rw [if_neg (by decide +kernel)]; exact ⟨rfl, rfl⟩))
    (fun os started H enc _ => lifted os started H enc)

theorem proved : Rows.BatchGapsSaid :=
  over
#print axioms proved
end Go.Proofs.Ytndingohckcmdaa.lawBatchGaps

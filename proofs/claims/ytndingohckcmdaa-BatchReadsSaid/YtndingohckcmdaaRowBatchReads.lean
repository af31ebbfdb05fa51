/- The law BatchReads, whatever its arguments: it answers true and leaves them as they were. -/
import Derived.Test.YtndingohckcmdaaRrG
import Derived.Test.YtndingohckcmdaaOpenS
namespace Go.Proofs.Ytndingohckcmdaa.lawBatchReads
open Go.ChangeShapes Go.WideShapes Go.ChangeAt Go.RowKit

set_option maxRecDepth 100000 in
set_option linter.unusedVariables false in
theorem lifted (os : Os) (started : os.Started) (H : Type) (enc : TypeId × Value → H) :
    ReturnsInHanded {} Try.checked os 4 .any (Rows.batchReadsSpec.pre6 enc Try.prog Try.f4 Rows.batchReadsRow.domain false) (Rows.batchReadsSpec.post enc Try.prog Try.f4 false true false false) := by
  refine law_lifted os started 4 Try.f4 _ _ (by kernel_rfl) Try.func4
    (ChangeSpec.witness6 (enc := enc) (C := Try.checked) false ⟨#[], #[.slice none 0 0], []⟩ 8 (by kernel_rfl) (by kernel_rfl) (by kernel_rfl) (by kernel_rfl)) rfl rfl (by kernel_rfl) ?_ ?_
  · intro ds hds
    rw [Try.params4] at hds
    match ds, hds with
    | [d0], _ => rfl
  · intro W base args ds p hval hA hlt hsz
    rw [Try.params4] at hA hval hsz
    obtain ⟨v0, vs0, d0, ds0, p0, q0, hargs, rfl, rfl, h0, r0⟩ := trodAll_cons hA
    obtain ⟨rfl, rfl, rfl⟩ := trodAll_nil r0
    obtain rfl : args = #[v0] := by cases args; simp_all
    obtain ⟨A0, n0, c0, z0, rfl, m0, at0, w0⟩ := open_nums (k := .u8) Try.underlying27 Try.underlying5 (by kernel_rfl) (hval 0 27 v0 rfl rfl) h0 (fun x hx => hlt x (by simp [hx]))
    exact bat.lawReads A0 n0 c0 z0 W m0 at0 w0 

theorem over : Rows.batchReadsRow.holds Try.pinned (OpenSpec.ofChange Rows.batchReadsSpec) :=
  OpenClaim.holds_of_wide 4 Try.f4 rfl rfl rfl rfl rfl rfl rfl ⟨rfl, rfl, rfl, rfl, rfl⟩ rfl rfl rfl rfl rfl (by kernel_rfl) Try.func4 (by kernel_rfl)
    (of_decide_eq_true (by kernel_rfl)) (by unfold Func.isWrapper; first | (rw [if_pos (by decide +kernel)]; kernel_rfl) | (rw [if_neg (by decide +kernel)]; exact ⟨rfl, rfl⟩))
    (fun os started H enc _ => lifted os started H enc)

theorem proved : Rows.BatchReadsSaid :=
  over
#print axioms proved
end Go.Proofs.Ytndingohckcmdaa.lawBatchReads

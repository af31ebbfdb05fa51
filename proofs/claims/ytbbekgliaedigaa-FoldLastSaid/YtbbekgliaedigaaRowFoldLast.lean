/- The law FoldLast, whatever its arguments: it answers true and leaves them as they were. -/
import Derived.Test.YtbbekgliaedigaaFoG
import Derived.Test.YtbbekgliaedigaaOpenS
namespace Go.Proofs.Ytbbekgliaedigaa.lawFoldLast
open Go.ChangeShapes Go.WideShapes Go.ChangeAt Go.RowKit

set_option maxRecDepth 100000 in
set_option linter.unusedVariables false in
theorem lifted (os : Os) (started : os.Started) (H : Type) (enc : TypeId × Value → H) :
    ReturnsInHanded {} Try.checked os 6 .any (Rows.foldLastSpec.pre6 enc Try.prog Try.f6 Rows.foldLastRow.domain false) (Rows.foldLastSpec.post enc Try.prog Try.f6 false true false false) := by
  refine law_lifted os started 6 Try.f6 _ _ (by kernel_rfl) Try.func6
    (ChangeSpec.witness6 (enc := enc) (C := Try.checked) false ⟨#[], #[.slice none 0 0], []⟩ 8 (by kernel_rfl) (by kernel_rfl) (by kernel_rfl) (by kernel_rfl)) rfl rfl (by kernel_rfl) ?_ ?_
  · intro ds hds
    rw [Try.params6] at hds
    match ds, hds with
    | [d0], _ => rfl
  · intro W base args ds p hval hA hlt hsz
    rw [Try.params6] at hA hval hsz
    obtain ⟨v0, vs0, d0, ds0, p0, q0, hargs, rfl, rfl, h0, r0⟩ := trodAll_cons hA
    obtain ⟨rfl, rfl, rfl⟩ := trodAll_nil r0
    obtain rfl : args = #[v0] := by cases args; simp_all
    obtain ⟨A0, n0, c0, bs0, rfl, m0, at0⟩ := open_bats (hval 0 43 v0 rfl rfl) h0 (fun x hx => hlt x (by simp [hx]))
    exact law13.lastAll A0 n0 c0 bs0 W m0 at0 

theorem over : Rows.foldLastRow.holds Try.pinned (OpenSpec.ofChange Rows.foldLastSpec) :=
  OpenClaim.holds_of_wide 6 Try.f6 rfl rfl rfl rfl rfl rfl rfl ⟨rfl, rfl, rfl, rfl, rfl⟩ rfl rfl rfl rfl rfl (by kernel_rfl) Try.func6 (by kernel_rfl)
    (of_decide_eq_true (by kernel_rfl)) (by unfold Func.isWrapper; first | (rw [if_pos (by decide +kernel)]; kernel_rfl) | (rw [if_neg (by decide +kernel)]; exact ⟨rfl, rfl⟩))
    (fun os started H enc _ => lifted os started H enc)

theorem proved : Rows.FoldLastSaid :=
  over
#print axioms proved
end Go.Proofs.Ytbbekgliaedigaa.lawFoldLast

/- The law CommitsBack, whatever its arguments: it answers true and leaves them as they were. -/
import Derived.Test.YtkkpbnhagobhmaaCoC
import Derived.Test.YtkkpbnhagobhmaaOpenS
namespace Go.Proofs.Ytkkpbnhagobhmaa.lawCommitsBack
open Go.ChangeShapes Go.WideShapes Go.ChangeAt Go.RowKit

set_option maxRecDepth 100000 in
set_option linter.unusedVariables false in
theorem lifted (os : Os) (started : os.Started) (H : Type) (enc : TypeId × Value → H) :
    ReturnsInHanded {} Try.checked os 5 .any (Rows.commitsBackSpec.pre6 enc Try.prog Try.f5 Rows.commitsBackRow.domain false) (Rows.commitsBackSpec.post enc Try.prog Try.f5 false true false false) := by
  refine law_lifted os started 5 Try.f5 _ _ (by kernel_rfl) Try.func5
    (ChangeSpec.witness6 (enc := enc) (C := Try.checked) false ⟨#[], #[.slice none 0 0], []⟩ 8 (by kernel_rfl) (by kernel_rfl) (by kernel_rfl) (by kernel_rfl)) rfl rfl (by kernel_rfl) ?_ ?_
  · intro ds hds
    rw [Try.params5] at hds
    match ds, hds with
    | [d0], _ => rfl
  · intro W base args ds p hval hA hlt hsz
    rw [Try.params5] at hA hval hsz
    obtain ⟨v0, vs0, d0, ds0, p0, q0, hargs, rfl, rfl, h0, r0⟩ := trodAll_cons hA
    obtain ⟨rfl, rfl, rfl⟩ := trodAll_nil r0
    obtain rfl : args = #[v0] := by cases args; simp_all
    obtain ⟨A0, n0, c0, xs0, rfl, m0, at0⟩ := open_msteps (hval 0 22 v0 rfl rfl) h0 (fun x hx => hlt x (by simp [hx]))
    exact law18.back A0 n0 c0 xs0 W m0 at0 

theorem over : Rows.commitsBackRow.holds Try.pinned (OpenSpec.ofChange Rows.commitsBackSpec) :=
  OpenClaim.holds_of_wide 5 Try.f5 rfl rfl rfl rfl rfl rfl rfl ⟨rfl, rfl, rfl, rfl, rfl⟩ rfl rfl rfl rfl rfl (by kernel_rfl) Try.func5 (by kernel_rfl)
    (of_decide_eq_true (by kernel_rfl)) (by unfold Func.isWrapper; first | (rw [if_pos (by decide +kernel)]; kernel_rfl) | (rw [if_neg (by decide +kernel)]; exact ⟨rfl, rfl⟩))
    (fun os started H enc _ => lifted os started H enc)

theorem proved : Rows.CommitsBackSaid :=
  over
#print axioms proved
end Go.Proofs.Ytkkpbnhagobhmaa.lawCommitsBack

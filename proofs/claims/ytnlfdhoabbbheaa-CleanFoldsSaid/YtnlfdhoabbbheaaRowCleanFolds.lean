/- The law CleanFolds, whatever its arguments: it answers true and leaves them as they were. -/
import Derived.Test.YtnlfdhoabbbheaaClY
import Derived.Test.YtnlfdhoabbbheaaOpenC
namespace Go.Proofs.Ytnlfdhoabbbheaa.lawCleanFolds
open Go.ChangeShapes Go.WideShapes Go.ChangeAt Go.RowKit

set_option maxRecDepth 100000 in
set_option linter.unusedVariables false in
theorem lifted (os : Os) (started : os.Started) (H : Type) (enc : TypeId × Value → H) :
    ReturnsInHanded {} Try.checked os 5 .any (Rows.cleanFoldsSpec.pre6 enc Try.prog Try.f5 Rows.cleanFoldsRow.domain false) (Rows.cleanFoldsSpec.post enc Try.prog Try.f5 false true false false) := by
  refine law_lifted os started 5 Try.f5 _ _ (by kernel_rfl) Try.func5
    (ChangeSpec.witness6 (enc := enc) (C := Try.checked) false ⟨#[], #[.slice none 0 0, .agg #[.int .i64 0, .int .i64 0, .int .i64 0, .int .i64 0, .int .i64 0, .bool false, .int .i64 0, .int .i64 0, .bool false], .slice none 0 0], []⟩ 8 (by kernel_rfl) (by kernel_rfl) (by kernel_rfl) (by kernel_rfl)) rfl rfl (by kernel_rfl) ?_ ?_
  · intro ds hds
    rw [Try.params5] at hds
    match ds, hds with
    | [d0, d1, d2], _ => rfl
  · intro W base args ds p hval hA hlt hsz
    rw [Try.params5] at hA hval hsz
    obtain ⟨v0, vs0, d0, ds0, p0, q0, hargs, rfl, rfl, h0, r0⟩ := trodAll_cons hA
    obtain ⟨v1, vs1, d1, ds1, p1, q1, rfl, rfl, rfl, h1, r1⟩ := trodAll_cons r0
    obtain ⟨v2, vs2, d2, ds2, p2, q2, rfl, rfl, rfl, h2, r2⟩ := trodAll_cons r1
    obtain ⟨rfl, rfl, rfl⟩ := trodAll_nil r2
    obtain rfl : args = #[v0, v1, v2] := by cases args; simp_all
    obtain ⟨A0, n0, c0, s0, rfl, m0, at0⟩ := open_segs (hval 0 22 v0 rfl rfl) h0 (fun x hx => hlt x (by simp [hx]))
    obtain ⟨g1_0, g1_1, g1_2, g1_3, g1_4, g1_5, g1_6, g1_7, g1_8, rfl, w10, w11, w13, w14⟩ := open_config (hval 1 24 v1 rfl rfl) h1
    obtain ⟨A2, n2, c2, z2, rfl, m2, at2, w2⟩ := open_nums (k := .i64) Try.underlying54 Try.underlying3 (by kernel_rfl) (hval 2 54 v2 rfl rfl) h2 (fun x hx => hlt x (by simp [hx]))
    exact law14.folds A0 n0 c0 s0 g1_0 g1_1 g1_2 g1_3 g1_4 g1_5 g1_6 g1_7 g1_8 A2 n2 c2 z2 W m0 at0 m2 at2 

theorem over : Rows.cleanFoldsRow.holds Try.pinned (OpenSpec.ofChange Rows.cleanFoldsSpec) :=
  OpenClaim.holds_of_wide 5 Try.f5 rfl rfl rfl rfl rfl rfl rfl ⟨rfl, rfl, rfl, rfl, rfl⟩ rfl rfl rfl rfl rfl (by kernel_rfl) Try.func5 (by kernel_rfl)
    (of_decide_eq_true (by kernel_rfl)) (by unfold Func.isWrapper; first | (rw [if_pos (by decide +kernel)]; kernel_rfl) | (rw [if_neg (by decide +kernel)]; exact ⟨rfl, rfl⟩))
    (fun os started H enc _ => lifted os started H enc)

theorem proved : Rows.CleanFoldsSaid :=
  over
#print axioms proved
end Go.Proofs.Ytnlfdhoabbbheaa.lawCleanFolds

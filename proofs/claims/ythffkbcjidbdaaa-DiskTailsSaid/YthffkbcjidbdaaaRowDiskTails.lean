/- The law DiskTails, whatever its arguments: it answers true and leaves them as they were. -/
import Derived.Test.YthffkbcjidbdaaaDkU
import Derived.Test.YthffkbcjidbdaaaOpenB
namespace Go.Proofs.Ythffkbcjidbdaaa.lawDiskTails
open Go.ChangeShapes Go.WideShapes Go.ChangeAt Go.RowKit

set_option maxRecDepth 100000 in
set_option linter.unusedVariables false in
theorem lifted (os : Os) (started : os.Started) (H : Type) (enc : TypeId × Value → H) :
    ReturnsInHanded {} Try.checked os 7 .any (Rows.diskTailsSpec.pre6 enc Try.prog Try.f7 Rows.diskTailsRow.domain false) (Rows.diskTailsSpec.post enc Try.prog Try.f7 false true false false) := by
  refine law_lifted os started 7 Try.f7 _ _ (by kernel_rfl) Try.func7
    (ChangeSpec.witness6 (enc := enc) (C := Try.checked) false ⟨#[], #[.slice none 0 0, .slice none 0 0, .slice none 0 0], []⟩ 8 (by kernel_rfl) (by kernel_rfl) (by kernel_rfl) (by kernel_rfl)) rfl rfl (by kernel_rfl) ?_ ?_
  · intro ds hds
    rw [Try.params7] at hds
    match ds, hds with
    | [d0, d1, d2], _ => rfl
  · intro W base args ds p hval hA hlt hsz
    rw [Try.params7] at hA hval hsz
    obtain ⟨v0, vs0, d0, ds0, p0, q0, hargs, rfl, rfl, h0, r0⟩ := trodAll_cons hA
    obtain ⟨v1, vs1, d1, ds1, p1, q1, rfl, rfl, rfl, h1, r1⟩ := trodAll_cons r0
    obtain ⟨v2, vs2, d2, ds2, p2, q2, rfl, rfl, rfl, h2, r2⟩ := trodAll_cons r1
    obtain ⟨rfl, rfl, rfl⟩ := trodAll_nil r2
    obtain rfl : args = #[v0, v1, v2] := by cases args; simp_all
    obtain ⟨A0, n0, c0, z0, rfl, m0, at0, w0⟩ := open_nums (k := .u8) Try.underlying34 Try.underlying5 (by kernel_rfl) (hval 0 34 v0 rfl rfl) h0 (fun x hx => hlt x (by simp [hx]))
    obtain ⟨A1, n1, c1, V1, z1, rfl, m1, at1, w1⟩ := open_bytess Try.underlying64 Try.underlying34 Try.underlying5 (by kernel_rfl) (by kernel_rfl) (hval 1 64 v1 rfl rfl) h1 (fun x hx => hlt x (by simp [hx]))
    obtain ⟨A2, n2, c2, z2, rfl, m2, at2, w2⟩ := open_nums (k := .i64) Try.underlying43 Try.underlying3 (by kernel_rfl) (hval 2 43 v2 rfl rfl) h2 (fun x hx => hlt x (by simp [hx]))
    exact law4.tails A0 n0 c0 z0 A1 n1 c1 V1 z1 A2 n2 c2 z2 W m0 at0 w0 m1 at1 w1 m2 at2 w2 

theorem over : Rows.diskTailsRow.holds Try.pinned (OpenSpec.ofChange Rows.diskTailsSpec) :=
  OpenClaim.holds_of_wide 7 Try.f7 rfl rfl rfl rfl rfl rfl rfl ⟨rfl, rfl, rfl, rfl, rfl⟩ rfl rfl rfl rfl rfl (by kernel_rfl) Try.func7 (by kernel_rfl)
    (of_decide_eq_true (by kernel_rfl)) (by unfold Func.isWrapper; first | (rw [if_pos (by decide +kernel)]; kernel_rfl) | (rw [if_neg (by decide +kernel)]; exact ⟨rfl, rfl⟩))
    (fun os started H enc _ => lifted os started H enc)

theorem proved : Rows.DiskTailsSaid :=
  over
#print axioms proved
end Go.Proofs.Ythffkbcjidbdaaa.lawDiskTails

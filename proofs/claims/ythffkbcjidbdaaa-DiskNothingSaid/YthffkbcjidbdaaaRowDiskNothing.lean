/- The law DiskNothing, whatever its arguments: it answers true and leaves them as they were. -/
import Derived.Test.YthffkbcjidbdaaaDkP
import Derived.Test.YthffkbcjidbdaaaOpenS
import Derived.ChangeMaps5
namespace Go.Proofs.Ythffkbcjidbdaaa.lawDiskNothing
open Go.ChangeShapes Go.WideShapes Go.ChangeAt Go.RowKit

set_option maxRecDepth 100000 in
set_option linter.unusedVariables false in
theorem lifted (os : Os) (started : os.Started) (H : Type) (enc : TypeId × Value → H) :
    ReturnsInHanded {} Try.checked os 6 .any (Rows.diskNothingSpec.pre6 enc Try.prog Try.f6 Rows.diskNothingRow.domain false) (Rows.diskNothingSpec.post enc Try.prog Try.f6 false true false false) := by
  refine law_lifted os started 6 Try.f6 _ _ (by kernel_rfl) Try.func6
    (ChangeSpec.witness6 (enc := enc) (C := Try.checked) false ⟨#[], #[.string (ByteArray.mk #[]), .slice none 0 0], []⟩ 8 (by kernel_rfl) (by kernel_rfl) (by kernel_rfl) (by kernel_rfl)) rfl rfl (by kernel_rfl) ?_ ?_
  · intro ds hds
    rw [Try.params6] at hds
    match ds, hds with
    | [d0, d1], _ => rfl
  · intro W base args ds p hval hA hlt hsz
    rw [Try.params6] at hA hval hsz
    obtain ⟨v0, vs0, d0, ds0, p0, q0, hargs, rfl, rfl, h0, r0⟩ := trodAll_cons hA
    obtain ⟨v1, vs1, d1, ds1, p1, q1, rfl, rfl, rfl, h1, r1⟩ := trodAll_cons r0
    obtain ⟨rfl, rfl, rfl⟩ := trodAll_nil r1
    obtain rfl : args = #[v0, v1] := by cases args; simp_all
    obtain ⟨s0, rfl, rfl, rfl, m0⟩ := Go.ChangeMaps.open_string Try.underlying9 (hval 0 9 v0 rfl rfl) h0
    obtain ⟨A1, n1, c1, z1, rfl, m1, at1, w1⟩ := open_nums (k := .u8) Try.underlying34 Try.underlying5 (by kernel_rfl) (hval 1 34 v1 rfl rfl) h1 (fun x hx => hlt x (by simp [hx]))
    exact law4.nothing s0 A1 n1 c1 z1 W m0 m1 at1 w1 

theorem over : Rows.diskNothingRow.holds Try.pinned (OpenSpec.ofChange Rows.diskNothingSpec) :=
  OpenClaim.holds_of_wide 6 Try.f6 rfl rfl rfl rfl rfl rfl rfl ⟨rfl, rfl, rfl, rfl, rfl⟩ rfl rfl rfl rfl rfl (by kernel_rfl) Try.func6 (by kernel_rfl)
    (of_decide_eq_true (by kernel_rfl)) (by unfold Func.isWrapper; first | (rw [if_pos (by decide +kernel)]; kernel_rfl) | (rw [if_neg (by decide +kernel)]; exact ⟨rfl, rfl⟩))
    (fun os started H enc _ => lifted os started H enc)

theorem proved : Rows.DiskNothingSaid :=
  over
#print axioms proved
end Go.Proofs.Ythffkbcjidbdaaa.lawDiskNothing

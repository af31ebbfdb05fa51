/- The law DiskSafe, whatever its arguments: it answers true and leaves them as they were. -/
import Derived.Test.YthffkbcjidbdaaaDsF
import Derived.Test.YthffkbcjidbdaaaOpenS
namespace Go.Proofs.Ythffkbcjidbdaaa.lawDiskSafe
open Go.ChangeShapes Go.WideShapes Go.ChangeAt Go.RowKit

set_option maxRecDepth 100000 in
set_option linter.unusedVariables false in
theorem lifted (os : Os) (started : os.Started) (H : Type) (enc : TypeId × Value → H) :
    ReturnsInHanded {} Try.checked os 5 .any (Rows.diskSafeSpec.pre6 enc Try.prog Try.f5 Rows.diskSafeRow.domain false) (Rows.diskSafeSpec.post enc Try.prog Try.f5 false true false false) := by
  refine law_lifted os started 5 Try.f5 _ _ (by kernel_rfl) Try.func5
    (ChangeSpec.witness6 (enc := enc) (C := Try.checked) false ⟨#[], #[.slice none 0 0, .slice none 0 0, .int .i64 0, .slice none 0 0], []⟩ 8 (by kernel_rfl) (by kernel_rfl) (by kernel_rfl) (by kernel_rfl)) rfl rfl (by kernel_rfl) ?_ ?_
  · intro ds hds
    rw [Try.params5] at hds
    match ds, hds with
    | [d0, d1, d2, d3], _ => rfl
  · intro W base args ds p hval hA hlt hsz
    rw [Try.params5] at hA hval hsz
    obtain ⟨v0, vs0, d0, ds0, p0, q0, hargs, rfl, rfl, h0, r0⟩ := trodAll_cons hA
    obtain ⟨v1, vs1, d1, ds1, p1, q1, rfl, rfl, rfl, h1, r1⟩ := trodAll_cons r0
    obtain ⟨v2, vs2, d2, ds2, p2, q2, rfl, rfl, rfl, h2, r2⟩ := trodAll_cons r1
    obtain ⟨v3, vs3, d3, ds3, p3, q3, rfl, rfl, rfl, h3, r3⟩ := trodAll_cons r2
    obtain ⟨rfl, rfl, rfl⟩ := trodAll_nil r3
    obtain rfl : args = #[v0, v1, v2, v3] := by cases args; simp_all
    obtain ⟨A0, n0, c0, z0, rfl, m0, at0, w0⟩ := open_nums (k := .u8) Try.underlying34 Try.underlying5 (by kernel_rfl) (hval 0 34 v0 rfl rfl) h0 (fun x hx => hlt x (by simp [hx]))
    obtain ⟨A1, n1, c1, xs1, rfl, m1, at1⟩ := open_dsteps (hval 1 22 v1 rfl rfl) h1 (fun x hx => hlt x (by simp [hx]))
    obtain ⟨a2, rfl, rfl, rfl, w2⟩ := open_int Try.underlying3 (hval 2 3 v2 rfl rfl) h2
    obtain ⟨A3, n3, c3, z3, rfl, m3, at3, w3⟩ := open_nums (k := .i64) Try.underlying43 Try.underlying3 (by kernel_rfl) (hval 3 43 v3 rfl rfl) h3 (fun x hx => hlt x (by simp [hx]))
    exact law4.safe A0 n0 c0 z0 A1 n1 c1 xs1 a2 A3 n3 c3 z3 W m0 at0 w0 m1 at1 (wf_bd w2) m3 at3 w3

theorem over : Rows.diskSafeRow.holds Try.pinned (OpenSpec.ofChange Rows.diskSafeSpec) :=
  OpenClaim.holds_of_wide 5 Try.f5 rfl rfl rfl rfl rfl rfl rfl ⟨rfl, rfl, rfl, rfl, rfl⟩ rfl rfl rfl rfl rfl (by kernel_rfl) Try.func5 (by kernel_rfl)
    (of_decide_eq_true (by kernel_rfl)) (by unfold Func.isWrapper; first | (rw [if_pos (by decide +kernel)]; kernel_rfl) | (rw [if_neg (by decide +kernel)]; exact ⟨rfl, rfl⟩))
    (fun os started H enc _ => lifted os started H enc)

theorem proved : Rows.DiskSafeSaid :=
  over
#print axioms proved
end Go.Proofs.Ythffkbcjidbdaaa.lawDiskSafe

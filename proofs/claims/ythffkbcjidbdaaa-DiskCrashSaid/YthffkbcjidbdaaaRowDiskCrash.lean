/- The law DiskCrash, whatever its arguments: it answers true and leaves them as they were. -/
import Derived.Test.YthffkbcjidbdaaaDcF
import Derived.Test.YthffkbcjidbdaaaOpenS
namespace Go.Proofs.Ythffkbcjidbdaaa.lawDiskCrash
open Go.ChangeShapes Go.WideShapes Go.ChangeAt Go.RowKit

set_option maxRecDepth 100000 in
set_option linter.unusedVariables false in
theorem lifted (os : Os) (started : os.Started) (H : Type) (enc : TypeId × Value → H) :
    ReturnsInHanded {} Try.checked os 4 .any (Rows.diskCrashSpec.pre6 enc Try.prog Try.f4 Rows.diskCrashRow.domain false) (Rows.diskCrashSpec.post enc Try.prog Try.f4 false true false false) := by
  refine law_lifted os started 4 Try.f4 _ _ (by kernel_rfl) Try.func4
    (ChangeSpec.witness6 (enc := enc) (C := Try.checked) false ⟨#[], #[.int .i64 0, .slice none 0 0, .slice none 0 0, .slice none 0 0, .slice none 0 0], []⟩ 8 (by kernel_rfl) (by kernel_rfl) (by kernel_rfl) (by kernel_rfl)) rfl rfl (by kernel_rfl) ?_ ?_
  · intro ds hds
    rw [Try.params4] at hds
    match ds, hds with
    | [d0, d1, d2, d3, d4], _ => rfl
  · intro W base args ds p hval hA hlt hsz
    rw [Try.params4] at hA hval hsz
    obtain ⟨v0, vs0, d0, ds0, p0, q0, hargs, rfl, rfl, h0, r0⟩ := trodAll_cons hA
    obtain ⟨v1, vs1, d1, ds1, p1, q1, rfl, rfl, rfl, h1, r1⟩ := trodAll_cons r0
    obtain ⟨v2, vs2, d2, ds2, p2, q2, rfl, rfl, rfl, h2, r2⟩ := trodAll_cons r1
    obtain ⟨v3, vs3, d3, ds3, p3, q3, rfl, rfl, rfl, h3, r3⟩ := trodAll_cons r2
    obtain ⟨v4, vs4, d4, ds4, p4, q4, rfl, rfl, rfl, h4, r4⟩ := trodAll_cons r3
    obtain ⟨rfl, rfl, rfl⟩ := trodAll_nil r4
    obtain rfl : args = #[v0, v1, v2, v3, v4] := by cases args; simp_all
    obtain ⟨a0, rfl, rfl, rfl, w0⟩ := open_int Try.underlying3 (hval 0 3 v0 rfl rfl) h0
    obtain ⟨A1, n1, c1, xs1, rfl, m1, at1⟩ := open_dsteps (hval 1 22 v1 rfl rfl) h1 (fun x hx => hlt x (by simp [hx]))
    obtain ⟨A2, n2, c2, z2, rfl, m2, at2, w2⟩ := open_nums (k := .i64) Try.underlying43 Try.underlying3 (by kernel_rfl) (hval 2 43 v2 rfl rfl) h2 (fun x hx => hlt x (by simp [hx]))
    obtain ⟨A3, n3, c3, xs3, rfl, m3, at3⟩ := open_dsteps (hval 3 22 v3 rfl rfl) h3 (fun x hx => hlt x (by simp [hx]))
    obtain ⟨A4, n4, c4, z4, rfl, m4, at4, w4⟩ := open_nums (k := .i64) Try.underlying43 Try.underlying3 (by kernel_rfl) (hval 4 43 v4 rfl rfl) h4 (fun x hx => hlt x (by simp [hx]))
    exact law4.crash a0 A1 n1 c1 xs1 A2 n2 c2 z2 A3 n3 c3 xs3 A4 n4 c4 z4 W m1 at1 m2 at2 w2 m3 at3 m4 at4 w4 

theorem over : Rows.diskCrashRow.holds Try.pinned (OpenSpec.ofChange Rows.diskCrashSpec) :=
  OpenClaim.holds_of_wide 4 Try.f4 rfl rfl rfl rfl rfl rfl rfl ⟨rfl, rfl, rfl, rfl, rfl⟩ rfl rfl rfl rfl rfl (by kernel_rfl) Try.func4 (by kernel_rfl)
    (of_decide_eq_true (by kernel_rfl)) (by unfold Func.isWrapper; first | (rw [if_pos (by decide +kernel)]; kernel_rfl) | (rw [if_neg (by decide +kernel)]; exact ⟨rfl, rfl⟩))
    (fun os started H enc _ => lifted os started H enc)

theorem proved : Rows.DiskCrashSaid :=
  over
#print axioms proved
end Go.Proofs.Ythffkbcjidbdaaa.lawDiskCrash

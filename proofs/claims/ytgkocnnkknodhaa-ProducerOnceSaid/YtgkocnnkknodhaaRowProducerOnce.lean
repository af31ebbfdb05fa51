/- The law ProducerOnce, whatever its arguments: it answers true and leaves them as they were. -/
import Derived.Test.YtgkocnnkknodhaaOnW
import Derived.Test.YtgkocnnkknodhaaOpenS
namespace Go.Proofs.Ytgkocnnkknodhaa.lawProducerOnce
open Go.ChangeShapes Go.WideShapes Go.ChangeAt Go.RowKit

set_option maxRecDepth 100000 in
set_option linter.unusedVariables false in
theorem lifted (os : Os) (started : os.Started) (H : Type) (enc : TypeId × Value → H) :
    ReturnsInHanded {} Try.checked os 4 .any (Rows.producerOnceSpec.pre6 enc Try.prog Try.f4 Rows.producerOnceRow.domain false) (Rows.producerOnceSpec.post enc Try.prog Try.f4 false true false false) := by
  refine law_lifted os started 4 Try.f4 _ _ (by kernel_rfl) Try.func4
    (ChangeSpec.witness6 (enc := enc) (C := Try.checked) false ⟨#[], #[.slice none 0 0, .slice none 0 0], []⟩ 8 (by kernel_rfl) (by kernel_rfl) (by kernel_rfl) (by kernel_rfl)) rfl rfl (by kernel_rfl) ?_ ?_
  · intro ds hds
    rw [Try.params4] at hds
    match ds, hds with
    | [d0, d1], _ => rfl
  · intro W base args ds p hval hA hlt hsz
    rw [Try.params4] at hA hval hsz
    obtain ⟨v0, vs0, d0, ds0, p0, q0, hargs, rfl, rfl, h0, r0⟩ := trodAll_cons hA
    obtain ⟨v1, vs1, d1, ds1, p1, q1, rfl, rfl, rfl, h1, r1⟩ := trodAll_cons r0
    obtain ⟨rfl, rfl, rfl⟩ := trodAll_nil r1
    obtain rfl : args = #[v0, v1] := by cases args; simp_all
    obtain ⟨A0, n0, c0, z0, rfl, m0, at0, w0⟩ := open_nums (k := .i64) Try.underlying23 Try.underlying3 (by kernel_rfl) (hval 0 23 v0 rfl rfl) h0 (fun x hx => hlt x (by simp [hx]))
    obtain ⟨A1, n1, c1, z1, rfl, m1, at1, w1⟩ := open_nums (k := .i64) Try.underlying23 Try.underlying3 (by kernel_rfl) (hval 1 23 v1 rfl rfl) h1 (fun x hx => hlt x (by simp [hx]))
    exact prod.lawOnceAll A0 n0 c0 z0 A1 n1 c1 z1 W m0 at0 w0 m1 at1 w1 

theorem over : Rows.producerOnceRow.holds Try.pinned (OpenSpec.ofChange Rows.producerOnceSpec) :=
  OpenClaim.holds_of_wide 4 Try.f4 rfl rfl rfl rfl rfl rfl rfl ⟨rfl, rfl, rfl, rfl, rfl⟩ rfl rfl rfl rfl rfl (by kernel_rfl) Try.func4 (by kernel_rfl)
    (of_decide_eq_true (by kernel_rfl)) (by unfold Func.isWrapper; first | (rw [if_pos (by decide +kernel)]; kernel_rfl) | (rw [if_neg (by decide +kernel)]; exact ⟨rfl, rfl⟩))
    (fun os started H enc _ => lifted os started H enc)

theorem proved : Rows.ProducerOnceSaid :=
  over
#print axioms proved
end Go.Proofs.Ytgkocnnkknodhaa.lawProducerOnce

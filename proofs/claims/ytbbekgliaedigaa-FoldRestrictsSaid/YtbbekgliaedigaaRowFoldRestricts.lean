/- The law FoldRestricts, whatever its arguments: it answers true and leaves them as they were. -/
import Derived.Test.YtbbekgliaedigaaFoQ
import Derived.Test.YtbbekgliaedigaaOpenS
namespace Go.Proofs.Ytbbekgliaedigaa.lawFoldRestricts
open Go.ChangeShapes Go.WideShapes Go.ChangeAt Go.RowKit

set_option maxRecDepth 100000 in
set_option linter.unusedVariables false in
theorem lifted (os : Os) (started : os.Started) (H : Type) (enc : TypeId × Value → H) :
    ReturnsInHanded {} Try.checked os 8 .any (Rows.foldRestrictsSpec.pre6 enc Try.prog Try.f8 Rows.foldRestrictsRow.domain false) (Rows.foldRestrictsSpec.post enc Try.prog Try.f8 false true false false) := by
  refine law_lifted os started 8 Try.f8 _ _ (by kernel_rfl) Try.func8
    (ChangeSpec.witness6 (enc := enc) (C := Try.checked) false ⟨#[], #[.slice none 0 0, .int .i64 0, .int .i64 0, .slice none 0 0, .slice none 0 0], []⟩ 8 (by kernel_rfl) (by kernel_rfl) (by kernel_rfl) (by kernel_rfl)) rfl rfl (by kernel_rfl) ?_ ?_
  · intro ds hds
    rw [Try.params8] at hds
    match ds, hds with
    | [d0, d1, d2, d3, d4], _ => rfl
  · intro W base args ds p hval hA hlt hsz
    rw [Try.params8] at hA hval hsz
    obtain ⟨v0, vs0, d0, ds0, p0, q0, hargs, rfl, rfl, h0, r0⟩ := trodAll_cons hA
    obtain ⟨v1, vs1, d1, ds1, p1, q1, rfl, rfl, rfl, h1, r1⟩ := trodAll_cons r0
    obtain ⟨v2, vs2, d2, ds2, p2, q2, rfl, rfl, rfl, h2, r2⟩ := trodAll_cons r1
    obtain ⟨v3, vs3, d3, ds3, p3, q3, rfl, rfl, rfl, h3, r3⟩ := trodAll_cons r2
    obtain ⟨v4, vs4, d4, ds4, p4, q4, rfl, rfl, rfl, h4, r4⟩ := trodAll_cons r3
    obtain ⟨rfl, rfl, rfl⟩ := trodAll_nil r4
    obtain rfl : args = #[v0, v1, v2, v3, v4] := by cases args; simp_all
    obtain ⟨A0, n0, c0, bs0, rfl, m0, at0⟩ := open_bats (hval 0 43 v0 rfl rfl) h0 (fun x hx => hlt x (by simp [hx]))
    obtain ⟨a1, rfl, rfl, rfl, w1⟩ := open_int Try.underlying3 (hval 1 3 v1 rfl rfl) h1
    obtain ⟨a2, rfl, rfl, rfl, w2⟩ := open_int Try.underlying3 (hval 2 3 v2 rfl rfl) h2
    obtain ⟨A3, n3, c3, xs3, rfl, m3, at3, b3⟩ := open_pairs (hval 3 33 v3 rfl rfl) h3 (fun x hx => hlt x (by simp [hx]))
    obtain ⟨A4, n4, c4, xs4, rfl, m4, at4, b4⟩ := open_pairs (hval 4 33 v4 rfl rfl) h4 (fun x hx => hlt x (by simp [hx]))
    exact law13.restricts A0 n0 c0 bs0 a1 a2 A3 n3 c3 xs3 A4 n4 c4 xs4 W m0 at0 m3 at3 b3 m4 at4 b4 

theorem over : Rows.foldRestrictsRow.holds Try.pinned (OpenSpec.ofChange Rows.foldRestrictsSpec) :=
  OpenClaim.holds_of_wide 8 Try.f8 rfl rfl rfl rfl rfl rfl rfl ⟨rfl, rfl, rfl, rfl, rfl⟩ rfl rfl rfl rfl rfl (by kernel_rfl) Try.func8 (by kernel_rfl)
    (of_decide_eq_true (by kernel_rfl)) (by unfold Func.isWrapper; first | (rw [if_pos (by decide +kernel)]; kernel_rfl) | (rw [if_neg (by decide +kernel)]; exact ⟨rfl, rfl⟩))
    (fun os started H enc _ => lifted os started H enc)

theorem proved : Rows.FoldRestrictsSaid :=
  over
#print axioms proved
end Go.Proofs.Ytbbekgliaedigaa.lawFoldRestricts

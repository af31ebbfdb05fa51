/- The law ProtoFrames, whatever its arguments: it answers true and leaves them as they were. -/
import Derived.Test.YtimcpbbcealkiaaFrE
import Derived.Test.YtimcpbbcealkiaaOpenB
namespace Go.Proofs.Ytimcpbbcealkiaa.lawProtoFrames
open Go.ChangeShapes Go.WideShapes Go.ChangeAt Go.RowKit

set_option maxRecDepth 100000 in
set_option linter.unusedVariables false in
theorem lifted (os : Os) (started : os.Started) (H : Type) (enc : TypeId × Value → H) :
    ReturnsInHanded {} Try.checked os 5 .any (Rows.protoFramesSpec.pre6 enc Try.prog Try.f5 Rows.protoFramesRow.domain false) (Rows.protoFramesSpec.post enc Try.prog Try.f5 false true false false) := by
  refine law_lifted os started 5 Try.f5 _ _ (by kernel_rfl) Try.func5
    (ChangeSpec.witness6 (enc := enc) (C := Try.checked) false ⟨#[], #[.slice none 0 0, .slice none 0 0, .int .i64 0], []⟩ 8 (by kernel_rfl) (by kernel_rfl) (by kernel_rfl) (by kernel_rfl)) rfl rfl (by kernel_rfl) ?_ ?_
  · intro ds hds
    rw [Try.params5] at hds
    match ds, hds with
    | [d0, d1, d2], _ => rfl
  · intro W base args ds p hval hA hlt hsz
    rw [Try.params5] at hA hval hsz
    obtain ⟨v0, vs0, d0, ds0, p0, q0, hargs, rfl, rfl, h0, r0⟩ := trodAll_cons hA
    obtain ⟨v1, vs1, d1, ds1, p1, q1, rfl, rfl, rfl, h1, r1⟩ := trodAll_cons r0
    obtain ⟨v2, vs2, d2, ds2, p2, q2, rfl, rfl, rfl, h2, r2⟩ := trodAll_cons r1
    obtain ⟨rfl, rfl, rfl⟩ := trodAll_nil r2
    obtain rfl : args = #[v0, v1, v2] := by cases args; simp_all
    obtain ⟨A0, n0, c0, V0, z0, rfl, m0, at0, w0⟩ := open_bytess Try.underlying49 Try.underlying23 Try.underlying5 (by kernel_rfl) (by kernel_rfl) (hval 0 49 v0 rfl rfl) h0 (fun x hx => hlt x (by simp [hx]))
    obtain ⟨A1, n1, c1, z1, rfl, m1, at1, w1⟩ := open_nums (k := .u8) Try.underlying23 Try.underlying5 (by kernel_rfl) (hval 1 23 v1 rfl rfl) h1 (fun x hx => hlt x (by simp [hx]))
    obtain ⟨a2, rfl, rfl, rfl, w2⟩ := open_int Try.underlying3 (hval 2 3 v2 rfl rfl) h2
    obtain ⟨hat, hby⟩ := ints_bytes at1 m1.1 w1
    have hln : (z1.map Int.toNat).length = n1 := by rw [List.length_map]; exact m1.1
    have hB : BytesAt W A0 n0 z0 := ⟨V0, at0, m0.1.symm, fun j hj => by
      obtain ⟨Aj, cj, q1, q2, q3, q4, q5⟩ := w0 j hj
      exact ⟨Aj, cj, q1, q4, q2, q3, q5⟩⟩
    have hall := law20.frames z0 A0 n0 c0 (z1.map Int.toNat) A1 c1 a2 W hB ⟨A1, c1, rfl, by rw [hln]; exact hat, by rw [hln]; exact m1.2.1, m1.2.2, fun x hx => by
      obtain ⟨j, hj⟩ := List.mem_iff_getElem?.1 hx
      have q1 := (List.getElem?_eq_some_iff.1 hj).1
      have q2 := hby j (by omega)
      simpa [List.getD, hj] using q2⟩ (Nat.le_trans m0.2.1 m0.2.2) (wf_bd w2).2
    rw [hln] at hall
    exact hall

theorem over : Rows.protoFramesRow.holds Try.pinned (OpenSpec.ofChange Rows.protoFramesSpec) :=
  OpenClaim.holds_of_wide 5 Try.f5 rfl rfl rfl rfl rfl rfl rfl ⟨rfl, rfl, rfl, rfl, rfl⟩ rfl rfl rfl rfl rfl (by kernel_rfl) Try.func5 (by kernel_rfl)
    (of_decide_eq_true (by kernel_rfl)) (by unfold Func.isWrapper; first | (rw [if_pos (by decide +kernel)]; kernel_rfl) | (rw [if_neg (by decide +kernel)]; exact ⟨rfl, rfl⟩))
    (fun os started H enc _ => lifted os started H enc)

theorem proved : Rows.ProtoFramesSaid :=
  over
#print axioms proved
end Go.Proofs.Ytimcpbbcealkiaa.lawProtoFrames

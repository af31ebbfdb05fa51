/- The law ProtoRequests, whatever its arguments: it answers true and leaves them as they were. -/
import Derived.Test.YtimcpbbcealkiaaQcH
import Derived.Test.YtimcpbbcealkiaaOpenS
namespace Go.Proofs.Ytimcpbbcealkiaa.lawProtoRequests
open Go.ChangeShapes Go.WideShapes Go.ChangeAt Go.RowKit

set_option maxRecDepth 100000 in
set_option linter.unusedVariables false in
theorem lifted (os : Os) (started : os.Started) (H : Type) (enc : TypeId × Value → H) :
    ReturnsInHanded {} Try.checked os 3 .any (Rows.protoRequestsSpec.pre6 enc Try.prog Try.f3 Rows.protoRequestsRow.domain false) (Rows.protoRequestsSpec.post enc Try.prog Try.f3 false true false false) := by
  refine law_lifted os started 3 Try.f3 _ _ (by kernel_rfl) Try.func3
    (ChangeSpec.witness6 (enc := enc) (C := Try.checked) false ⟨#[], #[.agg #[.int .i64 0, .int .i64 0, .string (ByteArray.mk #[]), .string (ByteArray.mk #[]), .int .i64 0, .int .i64 0, .int .i64 0, .int .i64 0, .string (ByteArray.mk #[]), .string (ByteArray.mk #[]), .int .i64 0, .slice none 0 0, .slice none 0 0], .slice none 0 0], []⟩ 8 (by kernel_rfl) (by kernel_rfl) (by kernel_rfl) (by kernel_rfl)) rfl rfl (by kernel_rfl) ?_ ?_
  · intro ds hds
    rw [Try.params3] at hds
    match ds, hds with
    | [d0, d1], _ => rfl
  · intro W base args ds p hval hA hlt hsz
    rw [Try.params3] at hA hval hsz
    obtain ⟨v0, vs0, d0, ds0, p0, q0, hargs, rfl, rfl, h0, r0⟩ := trodAll_cons hA
    obtain ⟨v1, vs1, d1, ds1, p1, q1, rfl, rfl, rfl, h1, r1⟩ := trodAll_cons r0
    obtain ⟨rfl, rfl, rfl⟩ := trodAll_nil r1
    obtain rfl : args = #[v0, v1] := by cases args; simp_all
    obtain ⟨rq0, An0, cn0, Ad0, cd0, rfl, m0⟩ := open_req (hval 0 25 v0 rfl rfl) h0 (fun x hx => hlt x (by simp [hx]))
    obtain ⟨A1, n1, c1, z1, rfl, m1, at1, w1⟩ := open_nums (k := .u8) Try.underlying23 Try.underlying5 (by kernel_rfl) (hval 1 23 v1 rfl rfl) h1 (fun x hx => hlt x (by simp [hx]))
    obtain ⟨hat, hby⟩ := ints_bytes at1 m1.1 w1
    have hln : (z1.map Int.toNat).length = n1 := by rw [List.length_map]; exact m1.1
    have hall := law20.requests rq0 An0 cn0 Ad0 cd0 A1 c1 (z1.map Int.toNat) W m0 ⟨A1, c1, rfl, by rw [hln]; exact hat, by rw [hln]; exact m1.2.1, m1.2.2, fun x hx => by
      obtain ⟨j, hj⟩ := List.mem_iff_getElem?.1 hx
      have q1 := (List.getElem?_eq_some_iff.1 hj).1
      have q2 := hby j (by omega)
      simpa [List.getD, hj] using q2⟩
    rw [hln] at hall
    exact hall

theorem over : Rows.protoRequestsRow.holds Try.pinned (OpenSpec.ofChange Rows.protoRequestsSpec) :=
  OpenClaim.holds_of_wide 3 Try.f3 rfl rfl rfl rfl rfl rfl rfl ⟨rfl, rfl, rfl, rfl, rfl⟩ rfl rfl rfl rfl rfl (by kernel_rfl) Try.func3 (by kernel_rfl)
    (of_decide_eq_true (by kernel_rfl)) (by unfold Func.isWrapper; first | (rw [if_pos (by decide +kernel)]; kernel_rfl) | (rw [if_neg (by decide +kernel)]; exact ⟨rfl, rfl⟩))
    (fun os started H enc _ => lifted os started H enc)

theorem proved : Rows.ProtoRequestsSaid :=
  over
#print axioms proved
end Go.Proofs.Ytimcpbbcealkiaa.lawProtoRequests

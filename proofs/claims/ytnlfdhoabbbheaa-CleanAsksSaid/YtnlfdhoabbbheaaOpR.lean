/- A drawn slice of slices of batches, opened. -/
import Derived.Test.YtnlfdhoabbbheaaClE
namespace Go.Proofs.Ytnlfdhoabbbheaa
open Go.ChangeShapes Go.WideShapes Go.ChangeAt Go.RowKit

theorem bats_of_trod {H : Type} {enc : TypeId × Value → H} {W : World} {fuel : Nat} {cs : List Value} {x : DataW H × List MemPlace}
    (h : DataW.trod enc Try.prog W 0 (fun _ => true) true fuel 31 cs = some x) (hlt : ∀ y ∈ x.2, y.block < W.heap.size) : ∃ bs : List Bat, ∃ B c, cs = [.slice B bs.length c] ∧ bs.length ≤ c ∧ c ≤ maxLen ∧ BatsAt W B bs := by
  obtain ⟨xs, A, n, c, V, h1, h2, h3, h4, h5, h6⟩ := trod_slg Try.underlying31 (m := 6) (by kernel_rfl) (by omega) (R := BatR W) (fun _ _ _ h hl => bat_of_trod h hl) h hlt
  exact ⟨xs, A, c, by rw [h1, h2], by rw [h2]; exact h3, h4, V, by rw [h2]; exact h5, h6⟩

set_option maxRecDepth 20000 in
theorem open_segs {H : Type} {enc : TypeId × Value → H} {W : World} {base : Nat} {v : Value} {d : DataW H} {p : List MemPlace}
    (hv : Value.okWide Try.prog W .any base 22 v) (h : DataW.Trod enc Try.prog W 0 (fun _ => true) true 22 v d p) (hlt : ∀ x ∈ p, x.block < W.heap.size) :
    ∃ (A : Option Addr) (n c : Nat) (ss : List (List Bat)), v = .slice A n c ∧ (ss.length = n ∧ n ≤ c ∧ c ≤ maxLen) ∧ cl.SegsAt W A ss := by
  obtain ⟨a0, len, cap, rfl⟩ := okWide_slice Try.underlying22 hv
  obtain ⟨fuel, hf⟩ := h
  obtain ⟨xs, A, n, c, V, h1, h2, h3, h4, h5, h6⟩ := trod_slg Try.underlying22 (m := 1) (by kernel_rfl) (by omega) (R := fun cs bs => ∃ B c, cs = [.slice B bs.length c] ∧ bs.length ≤ c ∧ c ≤ maxLen ∧ BatsAt W B bs) (fun _ _ _ h hl => bats_of_trod h hl) hf hlt
  simp only [Value.cells, List.cons.injEq, and_true] at h1
  have h1' : Value.slice a0 len cap = .slice A n c := by simpa using h1
  refine ⟨A, n, c, xs, h1', ⟨h2, h3, h4⟩, V, by rw [h2]; rw [Nat.mul_one] at h5; exact h5, fun i bs hi => ?_⟩
  obtain ⟨B, c, e, h⟩ := h6 i bs hi
  have h0 := cellsAt_get V i 1 0 (by omega)
  rw [e, Nat.mul_one, Nat.add_zero] at h0
  exact ⟨B, c, (Option.some.inj h0).symm, h⟩
end Go.Proofs.Ytnlfdhoabbbheaa

/- The law package's steps (cordwainlaw12): how a slice of them lies. -/
import Derived.Test.YtbbekgliaedigaaOpenY
import Derived.Test.YtbbekgliaedigaaProg
namespace Go.Proofs.Ytbbekgliaedigaa
open Go.ChangeShapes Go.WideShapes Go.ChangeAt Go.RowKit

structure KStep where
  key : List Nat
  off : Int
instance : Inhabited KStep := ⟨⟨[], 0⟩⟩
def KStepR (w : World) (cs : List Value) (x : KStep) : Prop := ∃ v, cs = [v, .int .i64 x.off] ∧ BytesV w v x.key ∧ -9223372036854775808 ≤ x.off ∧ x.off ≤ 9223372036854775807

theorem kstep_of_trod {H : Type} {enc : TypeId × Value → H} {W : World} {fuel : Nat} {cs : List Value} {x : DataW H × List MemPlace}
    (h : DataW.trod enc Try.prog W 0 (fun _ => true) true fuel 26 cs = some x) (hlt : ∀ y ∈ x.2, y.block < W.heap.size) : ∃ a, KStepR W cs a := by
  have hl2 : cs.length = 2 := (trod_field Try.underlying26 h hlt).1.trans (by kernel_rfl)
  have hm : (Try.prog.cellsOf 26) = 2 := by kernel_rfl
  obtain ⟨v, L, g0, hL⟩ := field_bytes Try.underlying26 h hlt 0 0 _ rfl rfl (by kernel_rfl) (by rw [hm]; omega) Try.underlying23 Try.underlying5 (by kernel_rfl)
  obtain ⟨a1, g1, w1⟩ := field_int Try.underlying26 h hlt .i64 1 1 _ rfl rfl (by kernel_rfl) (by rw [hm]; omega) Try.underlying3
  refine ⟨⟨L, a1⟩, v, ?_, hL, (wf_bd w1).1, (wf_bd w1).2⟩
  apply List.ext_getElem?
  intro j
  match j with
  | 0 => exact g0
  | 1 => exact g1
  | j + 2 => rw [List.getElem?_eq_none (by omega), List.getElem?_eq_none (by simp)]

/-- A slice of steps lies so. -/
def KSteps (w : World) (A : Option Addr) (xs : List KStep) : Prop := ∃ V, At w A (xs.length * 2) V ∧ ∀ (i : Nat) (a : KStep), xs[i]? = some a → KStepR w (cellsAt V i 2) a
theorem KSteps.below {w w' : World} {A : Option Addr} {xs : List KStep} {B : Nat} (h : KSteps w A xs) (hb : Below B w w') (hB : w.heap.size ≤ B) : KSteps w' A xs := by
  obtain ⟨V, h1, h2⟩ := h
  refine ⟨V, h1.below hb hB, fun i a ha => ?_⟩
  obtain ⟨v, h3, h4, h5⟩ := h2 i a ha
  exact ⟨v, h3, h4.below hb hB, h5⟩
theorem KSteps.at' {w : World} {A : Option Addr} {xs : List KStep} (h : KSteps w A xs) (k : Nat) (hk : k < xs.length) :
    ∃ b off, A = some ⟨b, off, none⟩ ∧ b < w.heap.size ∧ ∃ X c, w.cell? ⟨b, off + k * 2, none⟩ = some (.slice X (xs[k]).key.length c) ∧ w.cell? ⟨b, off + k * 2 + 1, none⟩ = some (.int .i64 (xs[k]).off) ∧
      At w X (xs[k]).key.length (byteAt (xs[k]).key) ∧ (xs[k]).key.length ≤ maxLen ∧ (∀ x ∈ (xs[k]).key, x < 256) ∧ -9223372036854775808 ≤ (xs[k]).off ∧ (xs[k]).off ≤ 9223372036854775807 := by
  obtain ⟨V, h1, h2⟩ := h
  obtain ⟨b, off, hA, hb, hc⟩ := h1 (by omega)
  obtain ⟨v, h3, ⟨X, c, rfl, h4, h5, h6, h7⟩, h8⟩ := h2 k xs[k] (List.getElem?_eq_getElem hk)
  refine ⟨b, off, hA, hb, X, c, ?_, ?_, h4, by omega, h7, h8⟩
  · rw [hc _ (by omega)]; exact congrArg some (cellsAt_cell h3 0 (by omega) rfl)
  · rw [Nat.add_assoc, hc _ (by omega)]; exact congrArg some (cellsAt_cell h3 1 (by omega) rfl)

set_option maxRecDepth 20000 in
theorem open_ksteps {H : Type} {enc : TypeId × Value → H} {W : World} {base : Nat} {v : Value} {d : DataW H} {p : List MemPlace}
    (hv : Value.okWide Try.prog W .any base 22 v) (h : DataW.Trod enc Try.prog W 0 (fun _ => true) true 22 v d p) (hlt : ∀ x ∈ p, x.block < W.heap.size) :
    ∃ (A : Option Addr) (n c : Nat) (xs : List KStep), v = .slice A n c ∧ (xs.length = n ∧ n ≤ c ∧ c ≤ maxLen) ∧ KSteps W A xs := by
  obtain ⟨a0, len, cap, rfl⟩ := okWide_slice Try.underlying22 hv
  obtain ⟨fuel, hf⟩ := h
  obtain ⟨xs, A, n, c, V, h1, h2, h3, h4, h5, h6⟩ := trod_slg Try.underlying22 (m := 2) (by kernel_rfl) (by omega) (R := KStepR W) (fun _ _ _ h hl => kstep_of_trod h hl) hf hlt
  simp only [Value.cells, List.cons.injEq, and_true] at h1
  have h1' : Value.slice a0 len cap = .slice A n c := by simpa using h1
  exact ⟨A, n, c, xs, h1', ⟨h2, h3, h4⟩, V, by rw [h2]; exact h5, h6⟩
end Go.Proofs.Ytbbekgliaedigaa

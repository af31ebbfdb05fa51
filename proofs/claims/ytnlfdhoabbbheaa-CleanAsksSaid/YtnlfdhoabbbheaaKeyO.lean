/- The law package's steps (cordwainlaw12): how a slice of them lies. -/
import Derived.Test.YtnlfdhoabbbheaaOpenY
import Derived.Test.YtnlfdhoabbbheaaProg
namespace Go.Proofs.Ytnlfdhoabbbheaa
open Go.ChangeShapes Go.WideShapes Go.ChangeAt Go.RowKit

structure KStep where
  key : List Nat
  off : Int
instance : Inhabited KStep := ⟨⟨[], 0⟩⟩
def KStepR (w : World) (cs : List Value) (x : KStep) : Prop := ∃ v, cs = [v, .int .i64 x.off] ∧ BytesV w v x.key ∧ -9223372036854775808 ≤ x.off ∧ x.off ≤ 9223372036854775807

/-- A slice of steps lies so. -/
def KSteps (w : World) (A : Option Addr) (xs : List KStep) : Prop := ∃ V, At w A (xs.length * 2) V ∧ ∀ (i : Nat) (a : KStep), xs[i]? = some a → KStepR w (cellsAt V i 2) a
theorem KSteps.below {w w' : World} {A : Option Addr} {xs : List KStep} {B : Nat} (h : KSteps w A xs) (hb : Below B w w') (hB : w.heap.size ≤ B) : KSteps w' A xs := by
  obtain ⟨V, h1, h2⟩ := h
  refine ⟨V, h1.below hb hB, fun i a ha => ?_⟩
  obtain ⟨v, h3, h4, h5⟩ := h2 i a ha
  exact ⟨v, h3, h4.below hb hB, h5⟩
theorem KSteps.at' {w : World} {A : Option Addr} {xs : List KStep} (h : KSteps w A xs) (k : Nat) (hk : k < xs.length) :
    ∃ b off, A = some ⟨b, off, none⟩ ∧ b < w.heap.size ∧ ∃ X c, w.cell? ⟨b, off + k * 2, none⟩ = some (.slice X (xs[k]).key.length c) ∧ w.cell? ⟨b, off + k * 2 + 1, none⟩ = some (.int .i64 (xs[k]).off) ∧
      At w X (xs[k]).key.length (byteAt (xs[k]).key) ∧ (xs[k]).key.length ≤ maxLen ∧ (∀ x ∈ (xs[k]).key, x < 256) ∧ -9223372036854775808 ≤ (xs[k]).off ∧ (xs[k]).off ≤ 9223372036854775807 := by
  obtain ⟨V, h1, h2⟩ := h
  obtain ⟨b, off, hA, hb, hc⟩ := h1 (by omega)
  obtain ⟨v, h3, ⟨X, c, rfl, h4, h5, h6, h7⟩, h8⟩ := h2 k xs[k] (List.getElem?_eq_getElem hk)
  refine ⟨b, off, hA, hb, X, c, ?_, ?_, h4, by omega, h7, h8⟩
  · rw [hc _ (by omega)]; exact congrArg some (cellsAt_cell h3 0 (by omega) rfl)
  · rw [Nat.add_assoc, hc _ (by omega)]; exact congrArg some (cellsAt_cell h3 1 (by omega) rfl)

end Go.Proofs.Ytnlfdhoabbbheaa

/- The law package's steps (cordwainlaw4): how a slice of them lies. -/
import Derived.Test.YthffkbcjidbdaaaOpenG
import Derived.Test.YthffkbcjidbdaaaOpenY
import Derived.Test.YthffkbcjidbdaaaProg
namespace Go.Proofs.Ythffkbcjidbdaaa
open Go.ChangeShapes Go.WideShapes Go.ChangeAt Go.RowKit

structure DStep where
  kind : Int
  a : ByteArray
  to : ByteArray
  b : List Nat
  n : Int
instance : Inhabited DStep := ⟨⟨0, ByteArray.empty, ByteArray.empty, [], 0⟩⟩
def dbd (x : Int) : Prop := -9223372036854775808 ≤ x ∧ x ≤ 9223372036854775807
def DStepR (w : World) (cs : List Value) (x : DStep) : Prop := ∃ v, cs = [.int .i64 x.kind, .string x.a, .string x.to, v, .int .i64 x.n] ∧ BytesV w v x.b ∧ x.a.size ≤ maxLen ∧ x.to.size ≤ maxLen ∧ dbd x.kind ∧ dbd x.n

theorem dstep_of_trod {H : Type} {enc : TypeId × Value → H} {W : World} {fuel : Nat} {cs : List Value} {x : DataW H × List MemPlace}
    (h : DataW.trod enc Try.prog W 0 (fun _ => true) true fuel 36 cs = some x) (hlt : ∀ y ∈ x.2, y.block < W.heap.size) : ∃ a, DStepR W cs a := by
  have hl2 : cs.length = 5 := (trod_field Try.underlying36 h hlt).1.trans (by kernel_rfl)
  have hm : (Try.prog.cellsOf 36) = 5 := by kernel_rfl
  have hi : (Try.prog.cellsOf 3) = 1 := by kernel_rfl
  have hs : (Try.prog.cellsOf 9) = 1 := by kernel_rfl
  obtain ⟨a0, g0, w0⟩ := field_int Try.underlying36 h hlt .i64 0 0 _ rfl rfl hi (by rw [hm]; omega) Try.underlying3
  obtain ⟨a1, g1, w1⟩ := field_str Try.underlying36 h hlt 1 1 _ rfl rfl hs (by rw [hm]; omega) Try.underlying9
  obtain ⟨a2, g2, w2⟩ := field_str Try.underlying36 h hlt 2 2 _ rfl rfl hs (by rw [hm]; omega) Try.underlying9
  obtain ⟨v, L, g3, hL⟩ := field_bytes Try.underlying36 h hlt 3 3 _ rfl rfl (by kernel_rfl) (by rw [hm]; omega) Try.underlying34 Try.underlying5 (by kernel_rfl)
  obtain ⟨a4, g4, w4⟩ := field_int Try.underlying36 h hlt .i64 4 4 _ rfl rfl hi (by rw [hm]; omega) Try.underlying3
  refine ⟨⟨a0, a1, a2, L, a4⟩, v, ?_, hL, w1, w2, wf_bd w0, wf_bd w4⟩
  apply List.ext_getElem?
  intro j
  match j with
  | 0 => exact g0
  | 1 => exact g1
  | 2 => exact g2
  | 3 => exact g3
  | 4 => exact g4
  | j + 5 => rw [List.getElem?_eq_none (by omega), List.getElem?_eq_none (by simp)]

/-- A slice of steps lies so. -/
def DSteps (w : World) (A : Option Addr) (xs : List DStep) : Prop := ∃ V, At w A (xs.length * 5) V ∧ ∀ (i : Nat) (a : DStep), xs[i]? = some a → DStepR w (cellsAt V i 5) a
theorem DSteps.below {w w' : World} {A : Option Addr} {xs : List DStep} {B : Nat} (h : DSteps w A xs) (hb : Below B w w') (hB : w.heap.size ≤ B) : DSteps w' A xs := by
  obtain ⟨V, h1, h2⟩ := h
  refine ⟨V, h1.below hb hB, fun i a ha => ?_⟩
  obtain ⟨v, h3, h4, h5⟩ := h2 i a ha
  exact ⟨v, h3, h4.below hb hB, h5⟩
theorem DSteps.at' {w : World} {A : Option Addr} {xs : List DStep} (h : DSteps w A xs) (k : Nat) (hk : k < xs.length) :
    ∃ b off, A = some ⟨b, off, none⟩ ∧ b < w.heap.size ∧ ∃ X c, w.cell? ⟨b, off + k * 5, none⟩ = some (.int .i64 (xs[k]).kind) ∧ w.cell? ⟨b, off + k * 5 + 1, none⟩ = some (.string (xs[k]).a) ∧ w.cell? ⟨b, off + k * 5 + 2, none⟩ = some (.string (xs[k]).to) ∧
      w.cell? ⟨b, off + k * 5 + 3, none⟩ = some (.slice X (xs[k]).b.length c) ∧ w.cell? ⟨b, off + k * 5 + 4, none⟩ = some (.int .i64 (xs[k]).n) ∧ At w X (xs[k]).b.length (byteAt (xs[k]).b) ∧ (xs[k]).b.length ≤ maxLen ∧ (∀ x ∈ (xs[k]).b, x < 256) ∧ (xs[k]).a.size ≤ maxLen ∧ (xs[k]).to.size ≤ maxLen ∧ dbd (xs[k]).kind ∧ dbd (xs[k]).n := by
  obtain ⟨V, h1, h2⟩ := h
  obtain ⟨b, off, hA, hb, hc⟩ := h1 (by omega)
  obtain ⟨v, h3, ⟨X, c, rfl, h4, h5, h6, h7⟩, h8⟩ := h2 k xs[k] (List.getElem?_eq_getElem hk)
  refine ⟨b, off, hA, hb, X, c, ?_, ?_, ?_, ?_, ?_, h4, by omega, h7, h8⟩
  · rw [hc _ (by omega)]; exact congrArg some (cellsAt_cell h3 0 (by omega) rfl)
  · rw [Nat.add_assoc, hc _ (by omega)]; exact congrArg some (cellsAt_cell h3 1 (by omega) rfl)
  · rw [Nat.add_assoc, hc _ (by omega)]; exact congrArg some (cellsAt_cell h3 2 (by omega) rfl)
  · rw [Nat.add_assoc, hc _ (by omega)]; exact congrArg some (cellsAt_cell h3 3 (by omega) rfl)
  · rw [Nat.add_assoc, hc _ (by omega)]; exact congrArg some (cellsAt_cell h3 4 (by omega) rfl)

set_option maxRecDepth 20000 in
theorem open_dsteps {H : Type} {enc : TypeId × Value → H} {W : World} {base : Nat} {v : Value} {d : DataW H} {p : List MemPlace}
    (hv : Value.okWide Try.prog W .any base 22 v) (h : DataW.Trod enc Try.prog W 0 (fun _ => true) true 22 v d p) (hlt : ∀ x ∈ p, x.block < W.heap.size) :
    ∃ (A : Option Addr) (n c : Nat) (xs : List DStep), v = .slice A n c ∧ (xs.length = n ∧ n ≤ c ∧ c ≤ maxLen) ∧ DSteps W A xs := by
  obtain ⟨a0, len, cap, rfl⟩ := okWide_slice Try.underlying22 hv
  obtain ⟨fuel, hf⟩ := h
  obtain ⟨xs, A, n, c, V, h1, h2, h3, h4, h5, h6⟩ := trod_slg Try.underlying22 (m := 5) (by kernel_rfl) (by omega) (R := DStepR W) (fun _ _ _ h hl => dstep_of_trod h hl) hf hlt
  simp only [Value.cells, List.cons.injEq, and_true] at h1
  have h1' : Value.slice a0 len cap = .slice A n c := by simpa using h1
  exact ⟨A, n, c, xs, h1', ⟨h2, h3, h4⟩, V, by rw [h2]; exact h5, h6⟩
end Go.Proofs.Ythffkbcjidbdaaa

/- The law package's steps (cordwainlaw23): how a slice of them lies. -/
import Derived.Test.YtbbekgliaedigaaOpenG
import Derived.Test.YtbbekgliaedigaaOpenY
import Derived.Test.YtbbekgliaedigaaProg
namespace Go.Proofs.Ytbbekgliaedigaa
open Go.ChangeShapes Go.WideShapes Go.ChangeAt Go.RowKit

structure NStep where
  kind : Int
  a : Int
  c : Int
  b : List Nat
instance : Inhabited NStep := ⟨⟨0, 0, 0, []⟩⟩
def nbd (x : Int) : Prop := -9223372036854775808 ≤ x ∧ x ≤ 9223372036854775807
def NStepR (w : World) (cs : List Value) (x : NStep) : Prop := ∃ v, cs = [.int .i64 x.kind, .int .i64 x.a, .int .i64 x.c, v] ∧ BytesV w v x.b ∧ nbd x.kind ∧ nbd x.a ∧ nbd x.c

theorem nstep_of_trod {H : Type} {enc : TypeId × Value → H} {W : World} {fuel : Nat} {cs : List Value} {x : DataW H × List MemPlace}
    (h : DataW.trod enc Try.prog W 0 (fun _ => true) true fuel 107 cs = some x) (hlt : ∀ y ∈ x.2, y.block < W.heap.size) : ∃ a, NStepR W cs a := by
  have hl2 : cs.length = 4 := (trod_field Try.underlying107 h hlt).1.trans (by kernel_rfl)
  have hm : (Try.prog.cellsOf 107) = 4 := by kernel_rfl
  have hi : (Try.prog.cellsOf 3) = 1 := by kernel_rfl
  obtain ⟨a0, g0, w0⟩ := field_int Try.underlying107 h hlt .i64 0 0 _ rfl rfl hi (by rw [hm]; omega) Try.underlying3
  obtain ⟨a1, g1, w1⟩ := field_int Try.underlying107 h hlt .i64 1 1 _ rfl rfl hi (by rw [hm]; omega) Try.underlying3
  obtain ⟨a2, g2, w2⟩ := field_int Try.underlying107 h hlt .i64 2 2 _ rfl rfl hi (by rw [hm]; omega) Try.underlying3
  obtain ⟨v, L, g3, hL⟩ := field_bytes Try.underlying107 h hlt 3 3 _ rfl rfl (by kernel_rfl) (by rw [hm]; omega) Try.underlying23 Try.underlying5 (by kernel_rfl)
  refine ⟨⟨a0, a1, a2, L⟩, v, ?_, hL, wf_bd w0, wf_bd w1, wf_bd w2⟩
  apply List.ext_getElem?
  intro j
  match j with
  | 0 => exact g0
  | 1 => exact g1
  | 2 => exact g2
  | 3 => exact g3
  | j + 4 => rw [List.getElem?_eq_none (by omega), List.getElem?_eq_none (by simp)]

/-- A slice of steps lies so. -/
def NSteps (w : World) (A : Option Addr) (xs : List NStep) : Prop := ∃ V, At w A (xs.length * 4) V ∧ ∀ (i : Nat) (a : NStep), xs[i]? = some a → NStepR w (cellsAt V i 4) a
theorem NSteps.below {w w' : World} {A : Option Addr} {xs : List NStep} {B : Nat} (h : NSteps w A xs) (hb : Below B w w') (hB : w.heap.size ≤ B) : NSteps w' A xs := by
  obtain ⟨V, h1, h2⟩ := h
  refine ⟨V, h1.below hb hB, fun i a ha => ?_⟩
  obtain ⟨v, h3, h4, h5⟩ := h2 i a ha
  exact ⟨v, h3, h4.below hb hB, h5⟩
theorem NSteps.at' {w : World} {A : Option Addr} {xs : List NStep} (h : NSteps w A xs) (k : Nat) (hk : k < xs.length) :
    ∃ b off, A = some ⟨b, off, none⟩ ∧ b < w.heap.size ∧ ∃ X c, w.cell? ⟨b, off + k * 4, none⟩ = some (.int .i64 (xs[k]).kind) ∧ w.cell? ⟨b, off + k * 4 + 1, none⟩ = some (.int .i64 (xs[k]).a) ∧ w.cell? ⟨b, off + k * 4 + 2, none⟩ = some (.int .i64 (xs[k]).c) ∧
      w.cell? ⟨b, off + k * 4 + 3, none⟩ = some (.slice X (xs[k]).b.length c) ∧ At w X (xs[k]).b.length (byteAt (xs[k]).b) ∧ (xs[k]).b.length ≤ maxLen ∧ (∀ x ∈ (xs[k]).b, x < 256) ∧ nbd (xs[k]).kind ∧ nbd (xs[k]).a ∧ nbd (xs[k]).c := by
  obtain ⟨V, h1, h2⟩ := h
  obtain ⟨b, off, hA, hb, hc⟩ := h1 (by omega)
  obtain ⟨v, h3, ⟨X, c, rfl, h4, h5, h6, h7⟩, h8⟩ := h2 k xs[k] (List.getElem?_eq_getElem hk)
  refine ⟨b, off, hA, hb, X, c, ?_, ?_, ?_, ?_, h4, by omega, h7, h8⟩
  · rw [hc _ (by omega)]; exact congrArg some (cellsAt_cell h3 0 (by omega) rfl)
  · rw [Nat.add_assoc, hc _ (by omega)]; exact congrArg some (cellsAt_cell h3 1 (by omega) rfl)
  · rw [Nat.add_assoc, hc _ (by omega)]; exact congrArg some (cellsAt_cell h3 2 (by omega) rfl)
  · rw [Nat.add_assoc, hc _ (by omega)]; exact congrArg some (cellsAt_cell h3 3 (by omega) rfl)

set_option maxRecDepth 20000 in
theorem open_nsteps {H : Type} {enc : TypeId × Value → H} {W : World} {base : Nat} {v : Value} {d : DataW H} {p : List MemPlace}
    (hv : Value.okWide Try.prog W .any base 105 v) (h : DataW.Trod enc Try.prog W 0 (fun _ => true) true 105 v d p) (hlt : ∀ x ∈ p, x.block < W.heap.size) :
    ∃ (A : Option Addr) (n c : Nat) (xs : List NStep), v = .slice A n c ∧ (xs.length = n ∧ n ≤ c ∧ c ≤ maxLen) ∧ NSteps W A xs := by
  obtain ⟨a0, len, cap, rfl⟩ := okWide_slice Try.underlying105 hv
  obtain ⟨fuel, hf⟩ := h
  obtain ⟨xs, A, n, c, V, h1, h2, h3, h4, h5, h6⟩ := trod_slg Try.underlying105 (m := 4) (by kernel_rfl) (by omega) (R := NStepR W) (fun _ _ _ h hl => nstep_of_trod h hl) hf hlt
  simp only [Value.cells, List.cons.injEq, and_true] at h1
  have h1' : Value.slice a0 len cap = .slice A n c := by simpa using h1
  exact ⟨A, n, c, xs, h1', ⟨h2, h3, h4⟩, V, by rw [h2]; exact h5, h6⟩
end Go.Proofs.Ytbbekgliaedigaa

/- The law package's items (cordwainlaw3): how a slice of them lies; the law's own functions small and written. -/
import Derived.Test.YtfblfgnnnbcplaaOpenG
import Derived.Test.YtfblfgnnnbcplaaAlikeB
import Derived.Test.YtfblfgnnnbcplaaWireW
namespace Go.Proofs.Ytfblfgnnnbcplaa
open Go.ChangeShapes Go.WideShapes Go.ChangeAt Go.RowKit

structure Item where
  kind : Int
  n : Int
  size : Int
  s : ByteArray
instance : Inhabited Item := ⟨⟨0, 0, 0, ⟨#[]⟩⟩⟩
def i64R (x : Int) : Prop := -9223372036854775808 ≤ x ∧ x ≤ 9223372036854775807
def ItemR (cs : List Value) (x : Item) : Prop := cs = [.int .i64 x.kind, .int .i64 x.n, .int .i64 x.size, .string x.s] ∧ i64R x.kind ∧ i64R x.n ∧ i64R x.size ∧ x.s.size ≤ maxLen

theorem item_of_trod {H : Type} {enc : TypeId × Value → H} {W : World} {fuel : Nat} {cs : List Value} {x : DataW H × List MemPlace}
    (h : DataW.trod enc Try.prog W 0 (fun _ => true) true fuel 62 cs = some x) (hlt : ∀ y ∈ x.2, y.block < W.heap.size) : ∃ a, ItemR cs a := by
  have hl4 : cs.length = 4 := (trod_field Try.underlying62 h hlt).1.trans (by kernel_rfl)
  have hi : (Try.prog.cellsOf 3) = 1 := by kernel_rfl
  have hs : (Try.prog.cellsOf 9) = 1 := by kernel_rfl
  have hm : (Try.prog.cellsOf 62) = 4 := by kernel_rfl
  obtain ⟨a0, g0, w0⟩ := field_int Try.underlying62 h hlt .i64 0 0 _ rfl rfl hi (by rw [hm]; omega) Try.underlying3
  obtain ⟨a1, g1, w1⟩ := field_int Try.underlying62 h hlt .i64 1 1 _ rfl rfl hi (by rw [hm]; omega) Try.underlying3
  obtain ⟨a2, g2, w2⟩ := field_int Try.underlying62 h hlt .i64 2 2 _ rfl rfl hi (by rw [hm]; omega) Try.underlying3
  obtain ⟨a3, g3, w3⟩ := field_str Try.underlying62 h hlt 3 3 _ rfl rfl hs (by rw [hm]; omega) Try.underlying9
  refine ⟨⟨a0, a1, a2, a3⟩, ?_, wf_bd w0, wf_bd w1, wf_bd w2, w3⟩
  apply List.ext_getElem?
  intro j
  match j with
  | 0 => exact g0
  | 1 => exact g1
  | 2 => exact g2
  | 3 => exact g3
  | j + 4 => rw [List.getElem?_eq_none (by omega), List.getElem?_eq_none (by simp)]

/-- A slice of items lies so. -/
def Items (w : World) (A : Option Addr) (xs : List Item) : Prop := ∃ V, At w A (xs.length * 4) V ∧ ∀ (i : Nat) (a : Item), xs[i]? = some a → ItemR (cellsAt V i 4) a
theorem Items.below {w w' : World} {A : Option Addr} {xs : List Item} {B : Nat} (h : Items w A xs) (hb : Below B w w') (hB : w.heap.size ≤ B) : Items w' A xs := by
  obtain ⟨V, h1, h2⟩ := h
  exact ⟨V, h1.below hb hB, h2⟩
theorem Items.at' {w : World} {A : Option Addr} {xs : List Item} (h : Items w A xs) (k : Nat) (hk : k < xs.length) :
    ∃ b off x, A = some ⟨b, off, none⟩ ∧ b < w.heap.size ∧ xs[k]? = some x ∧ w.cell? ⟨b, off + k * 4, none⟩ = some (.int .i64 x.kind) ∧ w.cell? ⟨b, off + k * 4 + 1, none⟩ = some (.int .i64 x.n) ∧
      w.cell? ⟨b, off + k * 4 + 2, none⟩ = some (.int .i64 x.size) ∧ w.cell? ⟨b, off + k * 4 + 3, none⟩ = some (.string x.s) ∧ i64R x.kind ∧ i64R x.n ∧ i64R x.size ∧ x.s.size ≤ maxLen := by
  obtain ⟨V, h1, h2⟩ := h
  obtain ⟨b, off, hA, hb, hc⟩ := h1 (by omega)
  obtain ⟨h3, h4⟩ := h2 k xs[k] (List.getElem?_eq_getElem hk)
  refine ⟨b, off, xs[k], hA, hb, List.getElem?_eq_getElem hk, ?_, ?_, ?_, ?_, h4⟩
  · rw [hc _ (by omega)]; exact congrArg some (cellsAt_cell h3 0 (by omega) rfl)
  · rw [Nat.add_assoc, hc _ (by omega)]; exact congrArg some (cellsAt_cell h3 1 (by omega) rfl)
  · rw [Nat.add_assoc, hc _ (by omega)]; exact congrArg some (cellsAt_cell h3 2 (by omega) rfl)
  · rw [Nat.add_assoc, hc _ (by omega)]; exact congrArg some (cellsAt_cell h3 3 (by omega) rfl)

theorem open_items {H : Type} {enc : TypeId × Value → H} {W : World} {base : Nat} {v : Value} {d : DataW H} {p : List MemPlace}
    (hv : Value.okWide Try.prog W .any base 41 v) (h : DataW.Trod enc Try.prog W 0 (fun _ => true) true 41 v d p) (hlt : ∀ x ∈ p, x.block < W.heap.size) :
    ∃ (A : Option Addr) (n c : Nat) (xs : List Item), v = .slice A n c ∧ (xs.length = n ∧ n ≤ c ∧ c ≤ maxLen) ∧ Items W A xs := by
  obtain ⟨a0, len, cap, rfl⟩ := okWide_slice Try.underlying41 hv
  obtain ⟨fuel, hf⟩ := h
  obtain ⟨xs, A, n, c, V, h1, h2, h3, h4, h5, h6⟩ := trod_slg Try.underlying41 (m := 4) (by kernel_rfl) (by omega) (R := ItemR) (fun _ _ _ h hl => item_of_trod h hl) hf hlt
  simp only [Value.cells, List.cons.injEq, and_true] at h1
  have h1' : Value.slice a0 len cap = .slice A n c := by simpa using h1
  exact ⟨A, n, c, xs, h1', ⟨h2, h3, h4⟩, V, by rw [h2]; exact h5, h6⟩
end Go.Proofs.Ytfblfgnnnbcplaa

/- Batches of records, as they lie in memory; a drawn slice of batches, opened. -/
import Derived.Test.YtkkpbnhagobhmaaOpenG
import Derived.Test.YtkkpbnhagobhmaaOpenY
namespace Go.Proofs.Ytkkpbnhagobhmaa
open Go.ChangeShapes Go.WideShapes Go.ChangeAt Go.RowKit

structure Rec where
  off : Int
  time : Int
  hasKey : Bool
  key : List Nat
  hasVal : Bool
  val : List Nat
instance : Inhabited Rec := ⟨⟨0, 0, false, [], false, []⟩⟩
structure Bat where
  base : Int
  last : Int
  prod : Int
  epoch : Int
  seq : Int
  recs : List Rec
instance : Inhabited Bat := ⟨⟨0, 0, 0, 0, 0, []⟩⟩
def i64ok (x : Int) : Prop := -9223372036854775808 ≤ x ∧ x ≤ 9223372036854775807

/-- The cells of a record. -/
def RecR (w : World) (cs : List Value) (r : Rec) : Prop := ∃ k v, cs = [.int .i64 r.off, .int .i64 r.time, .bool r.hasKey, k, .bool r.hasVal, v] ∧ BytesV w k r.key ∧ BytesV w v r.val ∧ i64ok r.off ∧ i64ok r.time
/-- A value is a slice of these records. -/
def RecsV (w : World) (v : Value) (rs : List Rec) : Prop := ∃ A c V, v = .slice A rs.length c ∧ rs.length ≤ c ∧ c ≤ maxLen ∧ At w A (rs.length * 6) V ∧ ∀ (i : Nat) (r : Rec), rs[i]? = some r → RecR w (cellsAt V i 6) r
/-- The cells of a batch. -/
def BatR (w : World) (cs : List Value) (b : Bat) : Prop := ∃ v, cs = [.int .i64 b.base, .int .i64 b.last, .int .i64 b.prod, .int .i64 b.epoch, .int .i64 b.seq, v] ∧ RecsV w v b.recs ∧ i64ok b.base ∧ i64ok b.last ∧ i64ok b.prod ∧ i64ok b.epoch ∧ i64ok b.seq
/-- A slice of these batches lies at A. -/
def BatsAt (w : World) (A : Option Addr) (bs : List Bat) : Prop := ∃ V, At w A (bs.length * 6) V ∧ ∀ (i : Nat) (b : Bat), bs[i]? = some b → BatR w (cellsAt V i 6) b

theorem RecR.below {w w' : World} {cs : List Value} {r : Rec} {B : Nat} (h : RecR w cs r) (hb : Below B w w') (hB : w.heap.size ≤ B) : RecR w' cs r := by
  obtain ⟨k, v, h1, h2, h3, h4⟩ := h
  exact ⟨k, v, h1, h2.below hb hB, h3.below hb hB, h4⟩
theorem RecsV.below {w w' : World} {v : Value} {rs : List Rec} {B : Nat} (h : RecsV w v rs) (hb : Below B w w') (hB : w.heap.size ≤ B) : RecsV w' v rs := by
  obtain ⟨A, c, V, h1, h2, h3, h4, h5⟩ := h
  exact ⟨A, c, V, h1, h2, h3, h4.below hb hB, fun i r hr => (h5 i r hr).below hb hB⟩
theorem BatR.below {w w' : World} {cs : List Value} {b : Bat} {B : Nat} (h : BatR w cs b) (hb : Below B w w') (hB : w.heap.size ≤ B) : BatR w' cs b := by
  obtain ⟨v, h1, h2, h3⟩ := h
  exact ⟨v, h1, h2.below hb hB, h3⟩
theorem BatsAt.below {w w' : World} {A : Option Addr} {bs : List Bat} {B : Nat} (h : BatsAt w A bs) (hb : Below B w w') (hB : w.heap.size ≤ B) : BatsAt w' A bs := by
  obtain ⟨V, h1, h2⟩ := h
  exact ⟨V, h1.below hb hB, fun i b hi => (h2 i b hi).below hb hB⟩

/-- Batch k of a slice. -/
theorem BatsAt.at' {w : World} {A : Option Addr} {bs : List Bat} (h : BatsAt w A bs) {k : Nat} {x : Bat} (hx : bs[k]? = some x) :
    ∃ b off v, A = some ⟨b, off, none⟩ ∧ b < w.heap.size ∧ w.cell? ⟨b, off + k * 6, none⟩ = some (.int .i64 x.base) ∧ w.cell? ⟨b, off + k * 6 + 1, none⟩ = some (.int .i64 x.last) ∧ w.cell? ⟨b, off + k * 6 + 2, none⟩ = some (.int .i64 x.prod) ∧
      w.cell? ⟨b, off + k * 6 + 3, none⟩ = some (.int .i64 x.epoch) ∧ w.cell? ⟨b, off + k * 6 + 4, none⟩ = some (.int .i64 x.seq) ∧ w.cell? ⟨b, off + k * 6 + 5, none⟩ = some v ∧ RecsV w v x.recs ∧ i64ok x.base ∧ i64ok x.last ∧ i64ok x.prod ∧ i64ok x.epoch ∧ i64ok x.seq := by
  obtain ⟨V, h1, h2⟩ := h
  have hk : k < bs.length := (List.getElem?_eq_some_iff.1 hx).1
  obtain ⟨b, off, hA, hb, hc⟩ := h1 (by omega)
  obtain ⟨v, h3, h4, h5⟩ := h2 k x hx
  refine ⟨b, off, v, hA, hb, ?_, ?_, ?_, ?_, ?_, ?_, h4, h5⟩
  · have := cellsAt_cell h3 0 (by omega) rfl
    rw [hc _ (by omega)]; exact congrArg some this
  · rw [Nat.add_assoc, hc _ (by omega)]; exact congrArg some (cellsAt_cell h3 1 (by omega) rfl)
  · rw [Nat.add_assoc, hc _ (by omega)]; exact congrArg some (cellsAt_cell h3 2 (by omega) rfl)
  · rw [Nat.add_assoc, hc _ (by omega)]; exact congrArg some (cellsAt_cell h3 3 (by omega) rfl)
  · rw [Nat.add_assoc, hc _ (by omega)]; exact congrArg some (cellsAt_cell h3 4 (by omega) rfl)
  · rw [Nat.add_assoc, hc _ (by omega)]; exact congrArg some (cellsAt_cell h3 5 (by omega) rfl)
/-- Record k of a slice. -/
theorem RecsV.at' {w : World} {v : Value} {rs : List Rec} (h : RecsV w v rs) {k : Nat} {x : Rec} (hx : rs[k]? = some x) :
    ∃ b off c kv vv, v = .slice (some ⟨b, off, none⟩) rs.length c ∧ rs.length ≤ c ∧ c ≤ maxLen ∧ b < w.heap.size ∧ w.cell? ⟨b, off + k * 6, none⟩ = some (.int .i64 x.off) ∧ w.cell? ⟨b, off + k * 6 + 1, none⟩ = some (.int .i64 x.time) ∧ w.cell? ⟨b, off + k * 6 + 2, none⟩ = some (.bool x.hasKey) ∧
      w.cell? ⟨b, off + k * 6 + 3, none⟩ = some kv ∧ w.cell? ⟨b, off + k * 6 + 4, none⟩ = some (.bool x.hasVal) ∧ w.cell? ⟨b, off + k * 6 + 5, none⟩ = some vv ∧ BytesV w kv x.key ∧ BytesV w vv x.val ∧ i64ok x.off ∧ i64ok x.time := by
  obtain ⟨A, c, V, rfl, hc1, hc2, h1, h2⟩ := h
  have hk : k < rs.length := (List.getElem?_eq_some_iff.1 hx).1
  obtain ⟨b, off, rfl, hb, hc⟩ := h1 (by omega)
  obtain ⟨kv, vv, h3, h4, h5, h6⟩ := h2 k x hx
  refine ⟨b, off, c, kv, vv, rfl, hc1, hc2, hb, ?_, ?_, ?_, ?_, ?_, ?_, h4, h5, h6⟩
  · rw [hc _ (by omega)]; exact congrArg some (cellsAt_cell h3 0 (by omega) rfl)
  · rw [Nat.add_assoc, hc _ (by omega)]; exact congrArg some (cellsAt_cell h3 1 (by omega) rfl)
  · rw [Nat.add_assoc, hc _ (by omega)]; exact congrArg some (cellsAt_cell h3 2 (by omega) rfl)
  · rw [Nat.add_assoc, hc _ (by omega)]; exact congrArg some (cellsAt_cell h3 3 (by omega) rfl)
  · rw [Nat.add_assoc, hc _ (by omega)]; exact congrArg some (cellsAt_cell h3 4 (by omega) rfl)
  · rw [Nat.add_assoc, hc _ (by omega)]; exact congrArg some (cellsAt_cell h3 5 (by omega) rfl)

theorem six_cells {cs : List Value} (hl : cs.length = 6) {a b c d e f : Value} (h0 : cs[0]? = some a) (h1 : cs[1]? = some b) (h2 : cs[2]? = some c) (h3 : cs[3]? = some d) (h4 : cs[4]? = some e) (h5 : cs[5]? = some f) : cs = [a, b, c, d, e, f] := by
  apply List.ext_getElem?
  intro j
  match j with
  | 0 => exact h0
  | 1 => exact h1
  | 2 => exact h2
  | 3 => exact h3
  | 4 => exact h4
  | 5 => exact h5
  | j + 6 => rw [List.getElem?_eq_none (by omega), List.getElem?_eq_none (by simp)]

theorem rec_of_trod {H : Type} {enc : TypeId × Value → H} {W : World} {fuel : Nat} {cs : List Value} {x : DataW H × List MemPlace}
    (h : DataW.trod enc Try.prog W 0 (fun _ => true) true fuel 37 cs = some x) (hlt : ∀ y ∈ x.2, y.block < W.heap.size) : ∃ a, RecR W cs a := by
  have hl : cs.length = 6 := (trod_field Try.underlying37 h hlt).1.trans (by kernel_rfl)
  have hi : (Try.prog.cellsOf 3) = 1 := by kernel_rfl
  have hb : (Try.prog.cellsOf 4) = 1 := by kernel_rfl
  have hs : (Try.prog.cellsOf 35) = 1 := by kernel_rfl
  have hu : (Try.prog.cellsOf 5) = 1 := by kernel_rfl
  have hm : (Try.prog.cellsOf 37) = 6 := by kernel_rfl
  obtain ⟨a0, g0, w0⟩ := field_int Try.underlying37 h hlt .i64 0 0 _ rfl rfl hi (by rw [hm]; omega) Try.underlying3
  obtain ⟨a1, g1, w1⟩ := field_int Try.underlying37 h hlt .i64 1 1 _ rfl rfl hi (by rw [hm]; omega) Try.underlying3
  obtain ⟨a2, g2⟩ := field_bool Try.underlying37 h hlt 2 2 _ rfl rfl hb (by rw [hm]; omega) Try.underlying4
  obtain ⟨v3, L3, g3, b3⟩ := field_bytes Try.underlying37 h hlt 3 3 _ rfl rfl hs (by rw [hm]; omega) Try.underlying35 Try.underlying5 hu
  obtain ⟨a4, g4⟩ := field_bool Try.underlying37 h hlt 4 4 _ rfl rfl hb (by rw [hm]; omega) Try.underlying4
  obtain ⟨v5, L5, g5, b5⟩ := field_bytes Try.underlying37 h hlt 5 5 _ rfl rfl hs (by rw [hm]; omega) Try.underlying35 Try.underlying5 hu
  exact ⟨⟨a0, a1, a2, L3, a4, L5⟩, v3, v5, six_cells hl g0 g1 g2 g3 g4 g5, b3, b5, wf_bd w0, wf_bd w1⟩

theorem recs_of_trod {H : Type} {enc : TypeId × Value → H} {W : World} {fuel : Nat} {v : Value} {x : DataW H × List MemPlace}
    (h : DataW.trod enc Try.prog W 0 (fun _ => true) true fuel 62 [v] = some x) (hlt : ∀ y ∈ x.2, y.block < W.heap.size) : ∃ rs, RecsV W v rs := by
  obtain ⟨xs, A, n, c, V, h1, h2, h3, h4, h5, h6⟩ := trod_slg Try.underlying62 (m := 6) (by kernel_rfl) (by omega) (R := RecR W) (fun _ _ _ h hl => rec_of_trod h hl) h hlt
  simp only [List.cons.injEq, and_true] at h1
  exact ⟨xs, A, c, V, by rw [h1, h2], by rw [h2]; exact h3, h4, by rw [h2]; exact h5, h6⟩

end Go.Proofs.Ytkkpbnhagobhmaa

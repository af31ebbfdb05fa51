/- Arguments, opened: a field that is a slice of bytes. No function of the program is named. -/
import Derived.Test.YtkkpbnhagobhmaaOpenG
import Derived.Test.YtkkpbnhagobhmaaConv
namespace Go.Proofs.Ytkkpbnhagobhmaa
open Go.ChangeShapes Go.WideShapes Go.ChangeAt Go.RowKit

/-- A value is a slice of these bytes. -/
def BytesV (w : World) (v : Value) (L : List Nat) : Prop := ∃ A c, v = .slice A L.length c ∧ At w A L.length (byteAt L) ∧ L.length ≤ c ∧ c ≤ maxLen ∧ ∀ x ∈ L, x < 256
theorem BytesV.below {w w' : World} {v : Value} {L : List Nat} {B : Nat} (h : BytesV w v L) (hb : Below B w w') (hB : w.heap.size ≤ B) : BytesV w' v L := by
  obtain ⟨A, c, h1, h2, h3⟩ := h
  exact ⟨A, c, h1, h2.below hb hB, h3⟩

theorem bytes_of {H : Type} {enc : TypeId × Value → H} {P : Program} {W : World} {t e : TypeId} (ht : P.underlying t = some (.slice e)) (he : P.underlying e = some (.int .u8)) (hc : P.cellsOf e = 1) {fuel : Nat} {v : Value} {x : DataW H × List MemPlace}
    (hf : DataW.trod enc P W 0 (fun _ => true) true fuel t [v] = some x) (hlt : ∀ y ∈ x.2, y.block < W.heap.size) : ∃ L, BytesV W v L := by
  rcases open_ints ht he hc hf with ⟨hcs, hx⟩ | ⟨a, len, cap, zs, hcs, _, hl, hm, hz, hx, hcell, hwz⟩
  · simp only [List.cons.injEq, and_true] at hcs
    subst hcs
    exact ⟨[], none, 0, rfl, fun h => absurd h (by simp), Nat.le_refl _, Nat.zero_le _, fun x h => by cases h⟩
  · simp only [List.cons.injEq, and_true] at hcs
    subst hcs
    simp only [if_true] at hz
    subst hx
    have hb8 : ∀ x ∈ zs, 0 ≤ x ∧ x ≤ 255 := fun x hx => wf_bd8 (hwz x hx)
    have hlen : ((zs.take len).map Int.toNat).length = len := by rw [List.length_map, List.length_take]; omega
    refine ⟨(zs.take len).map Int.toNat, some a, cap, by rw [hlen], ?_, by rw [hlen]; exact hl, hm, fun x hx => ?_⟩
    · rw [hlen]
      intro hpos
      obtain ⟨b, off, spot⟩ := a
      have hspot : spot = none := by simpa [Addr.add] using World.cell?_spot (hcell 0 (by omega))
      subst hspot
      refine ⟨b, off, rfl, hlt (.cell b off) (MemPlace.mem_row.2 ⟨0, by omega, by simp⟩), fun j hj => ?_⟩
      rw [← add_none, hcell j (by omega)]
      have hj' : j < zs.length := by omega
      have := hb8 zs[j] (List.getElem_mem _)
      unfold byteAt
      simp only [List.getD, List.getElem?_map, List.getElem?_take, hj, if_true, List.getElem?_eq_getElem hj', Option.map_some, Option.getD_some]
      rw [Int.toNat_of_nonneg this.1]
    · obtain ⟨y, hy, rfl⟩ := List.mem_map.1 hx
      have := hb8 y (List.mem_of_mem_take hy)
      omega
theorem field_bytes {H : Type} {enc : TypeId × Value → H} {P : Program} {W : World} {t : Nat} {fs : Array Field} (ht : P.underlying t = some (.struct fs)) {fuel : Nat} {cs : List Value} {x : DataW H × List MemPlace} (h : DataW.trod enc P W 0 (fun _ => true) true fuel t cs = some x)
    (hlt : ∀ y ∈ x.2, y.block < W.heap.size) (j o : Nat) (f : Field) (hj : fs[j]? = some f) (ho : f.offset = o) (h1 : P.cellsOf f.type = 1) (hlen : o < P.cellsOf t) {e : TypeId} (hu : P.underlying f.type = some (.slice e)) (he : P.underlying e = some (.int .u8)) (hc : P.cellsOf e = 1) :
    ∃ v L, cs[o]? = some v ∧ BytesV W v L := by
  obtain ⟨v, n, z, hv, hz, hl⟩ := field_one ht h hlt j f hj h1 (by omega)
  obtain ⟨L, hL⟩ := bytes_of hu he hc hz hl
  exact ⟨v, L, by rw [← ho]; exact hv, hL⟩
end Go.Proofs.Ytkkpbnhagobhmaa

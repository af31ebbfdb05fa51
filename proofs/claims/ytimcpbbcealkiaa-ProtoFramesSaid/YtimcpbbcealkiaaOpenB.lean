/- Arguments, opened: slices of slices of bytes. -/
import Derived.Test.YtimcpbbcealkiaaOpenS
import Derived.Test.YtimcpbbcealkiaaApp2
namespace Go.Proofs.Ytimcpbbcealkiaa
open Go.ChangeShapes Go.WideShapes Go.ChangeAt Go.RowKit

/-- A value is a slice of these bytes, however many. -/
def Raw (w : World) (v : Value) (L : List Nat) : Prop :=
  ∃ A c, v = .slice A L.length c ∧ L.length ≤ c ∧ c ≤ maxLen ∧ At w A L.length (byteAt L) ∧ ∀ x ∈ L, x < 256

theorem raw_of_trod {H : Type} {enc : TypeId × Value → H} {P : Program} {W : World} {fuel : Nat} {t e : TypeId} {cs : List Value} {x : DataW H × List MemPlace}
    (ht : P.underlying t = some (.slice e)) (he : P.underlying e = some (.int .u8)) (hc : P.cellsOf e = 1)
    (h : DataW.trod enc P W 0 (fun _ => true) true fuel t cs = some x) (hlt : ∀ y ∈ x.2, y.block < W.heap.size) : ∃ v L, cs = [v] ∧ Raw W v L := by
  rcases open_ints ht he hc h with ⟨hcs, hx⟩ | ⟨a, len, cap, zs, hcs, _, hl, hm, hz, hx, hcell, hwz⟩
  · exact ⟨_, [], hcs, none, 0, rfl, Nat.le_refl _, Nat.zero_le _, fun h => absurd h (by simp), fun y hy => by cases hy⟩
  · simp only [if_true] at hz
    have hzl : (zs.take len).length = len := by rw [List.length_take]; omega
    have hat : At W (some a) len (fun j => .int .u8 ((zs.take len).getD j 0)) := fun hpos => by
      obtain ⟨b, off, spot⟩ := a
      have hspot : spot = none := by simpa [Addr.add] using World.cell?_spot (hcell 0 (by omega))
      subst hspot
      refine ⟨b, off, rfl, hlt (.cell b off) (by rw [hx]; exact MemPlace.mem_row.2 ⟨0, by omega, by simp⟩), fun j hj => ?_⟩
      rw [← add_none, hcell j (by omega)]
      simp [List.getD, hj]
    obtain ⟨h1, h2⟩ := ints_bytes hat hzl fun x hx => hwz x (List.mem_of_mem_take hx)
    have hLl : ((zs.take len).map Int.toNat).length = len := by rw [List.length_map, hzl]
    refine ⟨_, (zs.take len).map Int.toNat, hcs, some a, cap, by rw [hLl], by rw [hLl]; exact hl, hm, by rw [hLl]; exact h1, fun x hx => ?_⟩
    obtain ⟨q, hq, rfl⟩ := List.mem_iff_getElem.1 hx
    have := h2 q (by omega)
    rwa [List.getD, List.getElem?_eq_getElem hq, Option.getD_some] at this

theorem open_bytess {H : Type} {enc : TypeId × Value → H} {P : Program} {W : World} {base : Nat} {t e b : TypeId} {v : Value} {d : DataW H} {p : List MemPlace}
    (ht : P.underlying t = some (.slice e)) (he : P.underlying e = some (.slice b)) (hb : P.underlying b = some (.int .u8)) (hce : P.cellsOf e = 1) (hcb : P.cellsOf b = 1)
    (hv : Value.okWide P W .any base t v) (h : DataW.Trod enc P W 0 (fun _ => true) true t v d p) (hlt : ∀ x ∈ p, x.block < W.heap.size) :
    ∃ (A : Option Addr) (n c : Nat) (V : Nat → Value) (Ls : List (List Nat)), v = .slice A n c ∧ (Ls.length = n ∧ n ≤ c ∧ c ≤ maxLen) ∧ At W A n V ∧ (∀ j, j < n → Raw W (V j) (Ls.getD j [])) := by
  obtain ⟨a0, len, cap, rfl⟩ := okWide_slice ht hv
  obtain ⟨fuel, hf⟩ := h
  rcases Go.Deep.open_slice ht hf with ⟨hcs, hx⟩ | ⟨a, len', cap', m', n', D, Pl, hcs, _, hl, hmx, hm', hx, hel⟩
  · simp [Value.cells] at hcs
    obtain ⟨rfl, rfl, rfl⟩ := hcs
    exact ⟨none, 0, 0, fun _ => undef, [], rfl, ⟨rfl, Nat.le_refl _, Nat.zero_le _⟩, fun h => absurd h (by omega), fun j hj => absurd hj (by omega)⟩
  · simp [Value.cells] at hcs
    obtain ⟨rfl, rfl, rfl⟩ := hcs
    simp only [if_true] at hm'
    obtain rfl : cap = m' := hm'.symm
    simp only [Prod.mk.injEq] at hx
    obtain ⟨_, rfl⟩ := hx
    rw [hce] at hel hlt
    have hcell : ∀ i, i < len → ∃ vl : Value × List Nat, W.cell? (a.add (i * 1)) = some vl.1 ∧ Raw W vl.1 vl.2 := by
      intro i hi
      obtain ⟨cs', hcs', htr⟩ := hel i (by omega)
      obtain ⟨_, hcl, hcat⟩ := World.cells?_some hcs'
      obtain ⟨v', L, rfl, hraw⟩ := raw_of_trod he hb hcb htr fun y hy => hlt y (List.mem_append_right _ (List.mem_flatMap.2 ⟨i, List.mem_range.2 (by omega), hy⟩))
      refine ⟨(v', L), ?_, hraw⟩
      have := hcat 0 (by omega)
      simpa [Addr.add] using this
    have hinh : Nonempty (Value × List Nat) := ⟨(undef, [])⟩
    have : Inhabited (Value × List Nat) := ⟨(undef, [])⟩
    obtain ⟨f, hfall⟩ := Go.Deep.choose_lt hcell
    refine ⟨some a, len, cap, fun i => (f i).1, (List.range len).map fun i => (f i).2, rfl, ⟨by simp, hl, hmx⟩, fun hpos => ?_, fun j hj => ?_⟩
    · obtain ⟨b', off, spot⟩ := a
      have hspot : spot = none := by simpa [Addr.add] using World.cell?_spot ((hfall 0 hpos).1)
      subst hspot
      refine ⟨b', off, rfl, hlt (.cell b' off) (List.mem_append_left _ (MemPlace.mem_row.2 ⟨0, by omega, by simp⟩)), fun q hq => ?_⟩
      have := (hfall q hq).1
      rw [Nat.mul_one, add_none] at this
      exact this
    · have h2 : ((List.range len).map fun i => (f i).2).getD j [] = (f j).2 := by simp [List.getD, hj]
      rw [h2]
      exact (hfall j hj).2
end Go.Proofs.Ytimcpbbcealkiaa

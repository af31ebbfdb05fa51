/- Bytes as a string, a string as bytes. No function of the program is named. -/
import Derived.RangeFuncBox
import Derived.RangeFuncNested
import Derived.Test.YtkkpbnhagobhmaaKit
import Derived.Test.YtkkpbnhagobhmaaApp2
import Derived.Laws.BytesArg
import Derived.Laws.BytesString
import Derived.Lib.ConvBytes
namespace Go.Proofs.Ytkkpbnhagobhmaa
open Go.RowKit

theorem ownsRow_base {W : World} {b b' : Nat} {e : TypeId} {size : Nat} {v : Value} {k : Nat} {xs : List Value} (h : W.ownsRow b e size v k xs) (hb : b' ≤ b) : W.ownsRow b' e size v k xs := by
  refine ⟨h.1, ?_⟩
  rcases h.2 with h2 | ⟨g, cap, cur, h1, h3, h4⟩
  · exact .inl h2
  · exact .inr ⟨g, cap, cur, h1, Nat.le_trans hb h3, h4⟩
theorem own_ne {W : World} {b B : Nat} {e : TypeId} {size : Nat} {v : Value} {k : Nat} {xs : List Value} (h : W.ownsRow b e size v k xs) (hB : B < b) : some B ≠ v.ownBlock := fun e => by
  have := (h.lt B e.symm).1
  omega

/-- Behind an append and the store of the slice into its box B; the row lies beyond all boxes. -/
theorem box_appended {W w1 : World} {n₀ b B : Nat} {t e : TypeId} {size : Nat} {v v' : Value} {k m : Nat} {xs ys : List Value} {tmp : Obj}
    (hv : Boxed W B t v) (hB : n₀ ≤ B) (hb : B < b) (hrow : W.ownsRow b e size v k xs) (hn₀ : n₀ ≤ W.heap.size)
    (hown' : w1.ownsRow b e size v' m ys) (hgrow : (W.alloc tmp).grownBy w1 v.ownBlock) :
    Boxed w1 B t v ∧ Boxed (w1.setCell ⟨B, 0, none⟩ v') B t v' ∧ (w1.setCell ⟨B, 0, none⟩ v').ownsRow b e size v' m ys ∧ KeepsOthers W (w1.setCell ⟨B, 0, none⟩ v') ∧ Below n₀ W (w1.setCell ⟨B, 0, none⟩ v') ∧
      (∀ B' t' u, B' < b → B' ≠ B → Boxed W B' t' u → Boxed (w1.setCell ⟨B, 0, none⟩ v') B' t' u) := by
  have hv1 : Boxed w1 B t v := (hv.alloc tmp).kept hgrow (own_ne hrow hb)
  refine ⟨hv1, hv1.set v', hown'.kept (grownBy_setCell' w1 B v') (.inr (own_ne hown' hb).symm), ?_, ?_, fun B' t' u hB' hne hu => ((hu.alloc tmp).kept hgrow (own_ne hrow hB')).other hne v'⟩
  · refine ((KeepsOthers.alloc W tmp).trans (KeepsOthers.of_grownBy hgrow fun j o ej hj => ?_)).trans (KeepsOthers.setCell _ _ _)
    rcases (hrow.alloc tmp).2 with ⟨rfl, _⟩ | ⟨g, cap, cur, rfl, _, hgb, _⟩
    · simp [Value.ownBlock] at ej
    · obtain rfl : g = j := by simpa [Value.ownBlock] using ej
      rw [hgb] at hj; cases hj; rfl
  · refine (((Below.refl n₀ W).alloc hn₀ tmp).grown hgrow (by simp; omega) fun j ej => ?_).setCell (p := ⟨B, 0, none⟩) hB v'
    have := (hrow.lt j ej).1
    omega

/-- A string's bytes; the string of bytes. -/
def strNats (s : ByteArray) : List Nat := s.data.toList.map fun b => b.toNat
def strOf (L : List Nat) : ByteArray := strOfNums (L.map Int.ofNat)
theorem strNats_len (s : ByteArray) : (strNats s).length = s.size := by unfold strNats; rw [List.length_map]; rfl
theorem strNats_lt (s : ByteArray) : ∀ x ∈ strNats s, x < 256 := by
  intro x hx
  obtain ⟨b, _, rfl⟩ := List.mem_map.1 hx
  exact b.toNat_lt
theorem strCells_u8s (s : ByteArray) : Lib.strCells s = u8s (strNats s) := by
  unfold Lib.strCells u8s strNats
  rw [List.map_map]
  rfl
theorem strOf_strNats (s : ByteArray) : strOf (strNats s) = s := by
  unfold strOf strOfNums strNats
  apply ByteArray.ext
  apply Array.ext'
  simp only [List.map_map]
  rw [show (fun n : Int => UInt8.ofNat n.toNat) ∘ Int.ofNat ∘ (fun b : UInt8 => b.toNat) = id from funext fun b => by simp]
  simp
theorem strNats_strOf (L : List Nat) (h : ∀ x ∈ L, x < 256) : strNats (strOf L) = L := by
  unfold strNats strOf
  rw [strOfNums_data, List.map_map, List.map_map]
  conv => rhs; rw [← List.map_id L]
  refine List.map_congr_left fun x hx => ?_
  have := h x hx
  simp [UInt8.toNat_ofNat', Nat.mod_eq_of_lt this]
theorem strOf_inj {L M : List Nat} (hl : ∀ x ∈ L, x < 256) (hm : ∀ x ∈ M, x < 256) (h : strOf L = strOf M) : L = M := by
  rw [← strNats_strOf L hl, h, strNats_strOf M hm]
theorem strOf_size (L : List Nat) : (strOf L).size = L.length := by unfold strOf; rw [strOfNums_size, List.length_map]

theorem conv_any {P : Program} {t u e : TypeId} (ht : P.underlying t = some (.slice e)) (he : P.underlying e = some (.int .u8)) (hu : P.underlying u = some .string) {w : World} {A : Option Addr} {n c : Nat} (L : List Nat) (hl : L.length = n) (h : At w A n (byteAt L)) :
    (convert t u (.slice A n c)).run P w = .ok (.string (strOf L)) w := by
  rcases Nat.eq_zero_or_pos n with h0 | hn
  · subst h0
    obtain rfl : L = [] := List.length_eq_zero_iff.1 hl
    cases A with
    | none => exact run_convert_bytes_nil w t e ht he 0 c u hu
    | some a =>
      rw [run_convert_bytes_string w t u e _ 0 c ht he hu, run_bytesToString w a 0 c [] (by simp [loadCells, loadCellsFrom])]
      rfl
  · obtain ⟨b, off, rfl, hbb, hc⟩ := h hn
    refine run_convert_bytes_arg (P := P) w t e ht he b off n c (L.map Int.ofNat) (by simpa using hl) (fun i hi => ?_) u hu
    rw [hc i hi]
    unfold byteAt
    congr 2
    simp only [List.getD, List.getElem?_map, List.getElem?_eq_getElem (show i < L.length by omega), Option.map_some, Option.getD_some]
    rfl
/-- '[]byte(s)': a new row. -/
theorem conv_str {P : Program} {t u e : TypeId} {d : TypeDesc} (hu : P.underlying u = some d) (ht : P.underlying t = some (.slice e)) (he : P.underlying e = some (.int .u8)) (w : World) (s : ByteArray) :
    ∃ A c w1, (convert u t (.string s)).run P w = .ok (.slice A s.size c) w1 ∧ At w1 A s.size (byteAt (strNats s)) ∧ Below w.heap.size w w1 ∧ (∀ b off, A = some ⟨b, off, none⟩ → w.heap.size ≤ b) ∧ s.size ≤ c := by
  refine ⟨_, _, _, Lib.run_convert_string_bytes w u t e s hu ht he, fun hn => ⟨w.heap.size, 0, rfl, by rw [Lib.bytesWorld_size]; omega, fun j hj => ?_⟩, ⟨rfl, rfl, rfl, by rw [Lib.bytesWorld_size]; omega, fun k hk => Lib.bytesWorld_at_old w e s k hk⟩, fun b off h => by cases h; exact Nat.le_refl _, grownCap_ge _ _ _ _⟩
  rw [Nat.zero_add, Lib.bytesWorld_cell w e s j hj]
  unfold byteAt strNats
  have hj' : j < s.data.toList.length := by simpa using hj
  simp [List.getD, List.getElem?_map, List.getElem?_eq_getElem hj']
end Go.Proofs.Ytkkpbnhagobhmaa

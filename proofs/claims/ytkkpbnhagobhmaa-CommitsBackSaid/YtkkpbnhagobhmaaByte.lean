/- Bytes: the row of the type table, small facts on lists of them. -/
import Derived.Test.YtkkpbnhagobhmaaProg
import Derived.Test.YtkkpbnhagobhmaaApp2
import Derived.OwnWalk
namespace Go.Proofs.Ytkkpbnhagobhmaa
open Go.RowKit

theorem infoByte : (Try.prog.info? 5).map (fun i => (i.zero, i.size, i.bytes)) = some (some (.int .u8 0), 1, 1) := by kernel_rfl
theorem u8s_one (a : List Nat) : ∀ u ∈ u8s a, u.oneCell' = true := by
  intro u hu
  simp only [u8s, List.mem_map] at hu
  obtain ⟨_, _, rfl⟩ := hu
  rfl
theorem getD_all {L : List Nat} {p : Nat → Prop} (h : ∀ x ∈ L, p x) (j : Nat) (hj : j < L.length) : p (L.getD j 0) := by
  simp only [List.getD, List.getElem?_eq_getElem hj, Option.getD_some]; exact h _ (List.getElem_mem _)
theorem getD_left (a b : List Nat) (j : Nat) (h : j < a.length) : (a ++ b).getD j 0 = a.getD j 0 := by
  simp [List.getD, List.getElem?_append_left h]
theorem getD_right (a b : List Nat) (j : Nat) : (a ++ b).getD (a.length + j) 0 = b.getD j 0 := by
  simp [List.getD, List.getElem?_append_right]
theorem byteAt_right (a b : List Nat) (j : Nat) : byteAt (a ++ b) (a.length + j) = byteAt b j := by
  unfold byteAt; rw [getD_right]
theorem made_zero (n : Nat) : (madeCells (Value.int .u8 0).cells (n * 1)).toList = u8s (List.replicate n 0) := by
  apply List.ext_getElem
  · simp [u8s, size_madeCells]
  · intro i h1 h2
    simp only [u8s, madeCells]
    simp
    show (#[Value.int .u8 0])[i % 1]! = _
    rw [Nat.mod_one]
    rfl
theorem getD_take (L : List Nat) (n k : Nat) (h : k < n) : (L.take n).getD k 0 = L.getD k 0 := by simp [List.getD, h]
theorem byte_take (L : List Nat) (n k : Nat) (h : k < n) : some (byteAt (L.take n) k) = some (Value.int .u8 ((L.getD k 0 : Nat) : Int)) := by unfold byteAt; rw [getD_take L n k h]
end Go.Proofs.Ytkkpbnhagobhmaa

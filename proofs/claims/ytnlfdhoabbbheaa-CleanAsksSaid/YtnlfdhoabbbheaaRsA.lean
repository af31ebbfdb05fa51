/- fold.Restrict: of batches those records alone whose offsets stand within two. -/
import Derived.Deep.Cut
import Derived.BigQuiet
import Derived.Deep.QuietTactic
import Derived.Test.YtnlfdhoabbbheaaPlanZ
import Derived.Test.YtnlfdhoabbbheaaFoX
namespace Go.Proofs.Ytnlfdhoabbbheaa
open Go.RowKit
set_option maxRecDepth 100000

def rs.in (f t : Int) (r : Rec) : Bool := decide (f ≤ r.off) && decide (r.off < t)
def rs.cut (f t : Int) (b : Bat) : Bat := { b with recs := b.recs.filter (rs.in f t) }
/-- What is left of batches. -/
def rs.all (f t : Int) (bs : List Bat) : List Bat := (bs.map (rs.cut f t)).filter fun b => decide (0 < b.recs.length)
theorem rs.take_succ {f t : Int} {bs : List Bat} {k : Nat} {x : Bat} (h : bs[k]? = some x) : rs.all f t (bs.take (k + 1)) = rs.all f t (bs.take k) ++ if 0 < (rs.cut f t x).recs.length then [rs.cut f t x] else [] := by
  obtain ⟨h1, h2⟩ := List.getElem?_eq_some_iff.1 h
  unfold rs.all
  rw [List.take_succ_eq_append_getElem h1, h2, List.map_append, List.filter_append]
  congr 1
  simp only [List.map_cons, List.map_nil]
  by_cases h : 0 < (rs.cut f t x).recs.length
  · rw [if_pos h, List.filter_cons_of_pos (by simpa using h)]
    rfl
  · rw [if_neg h, List.filter_cons_of_neg (by simpa using h)]
    rfl
theorem rs.all_len (f t : Int) (bs : List Bat) : (rs.all f t bs).length ≤ bs.length := by
  unfold rs.all
  refine Nat.le_trans (List.length_filter_le _ _) ?_
  rw [List.length_map]
  exact Nat.le_refl _
theorem rs.recs_succ {f t : Int} {l : List Rec} {j : Nat} {y : Rec} (h : l[j]? = some y) : (l.take (j + 1)).filter (rs.in f t) = (l.take j).filter (rs.in f t) ++ if rs.in f t y = true then [y] else [] := by
  obtain ⟨h1, h2⟩ := List.getElem?_eq_some_iff.1 h
  rw [List.take_succ_eq_append_getElem h1, h2, List.filter_append]
  congr 1
  by_cases h : rs.in f t y = true
  · rw [if_pos h, List.filter_cons_of_pos h]
    rfl
  · rw [if_neg h, List.filter_cons_of_neg h]
    rfl

/-- What Restrict answers. -/
def fr.Post (l : List Bat) (w : World) (e : Ending) (w' : World) : Prop :=
  ∃ A c, e = .returned (.slice A l.length c) ∧ l.length ≤ c ∧ c ≤ maxLen ∧ BatsAt w' A l ∧ Below w.heap.size w w'
end Go.Proofs.Ytnlfdhoabbbheaa

/- What a Reader answers of what a Writer wrote: plain numbers and lists. -/
import Derived.Test.YtkkpbnhagobhmaaNumP
import Derived.Test.YtkkpbnhagobhmaaRdB
import Derived.Test.YtkkpbnhagobhmaaRdY
namespace Go.Proofs.Ytkkpbnhagobhmaa
open Go.RowKit

theorem num.getL_some (n : Int) (Z : List Nat) (h1 : -9223372036854775808 ≤ n) (h2 : n ≤ 9223372036854775807) : ∃ u, num.getL (num.put n ++ Z) = some (u, (num.put n).length) ∧ num.zag u = n := by
  have h := num.getL_put n Z h1 h2 _ rfl
  have e : num.get (fun j => (num.put n ++ Z).getD j 0) (num.put n ++ Z).length = num.getL (num.put n ++ Z) := rfl
  rw [e] at h
  cases hg : num.getL (num.put n ++ Z) with
  | none => rw [hg] at h; simp [num.res] at h
  | some p =>
    obtain ⟨u, k⟩ := p
    rw [hg] at h
    simp [num.res] at h
    exact ⟨u, by rw [show k = (num.put n).length by omega], h.1⟩
theorem rd.num_put (n : Int) (Z : List Nat) (h1 : -9223372036854775808 ≤ n) (h2 : n ≤ 9223372036854775807) : rd.num (num.put n ++ Z) 0 = (n, Z, 0) := by
  obtain ⟨u, hg, hz⟩ := num.getL_some n Z h1 h2
  unfold rd.num
  rw [if_neg (by simp), hg]
  simp [hz]
theorem num.getL_cut (n : Int) (Z : List Nat) (q : Nat) (hq : q < (num.put n).length) : num.getL ((num.put n ++ Z).take q) = none := by
  unfold num.getL
  have hl : ((num.put n ++ Z).take q).length = q := by rw [List.length_take, List.length_append]; omega
  rw [hl]
  refine num.get_cut n _ q (fun j hj => ?_) hq
  rw [getD_take _ _ _ hj, getD_left _ _ _ (by omega)]
theorem rd.num_cut (n : Int) (Z : List Nat) (q : Nat) (hq : q < (num.put n).length) : rd.num ((num.put n ++ Z).take q) 0 = (0, [], 2) := by
  unfold rd.num
  rw [if_neg (by simp), num.getL_cut n Z q hq]
/-- A field of bytes, whole, no longer than may be. -/
theorem rd.piece_put (B Z : List Nat) (most : Int) (hB : B.length ≤ 140737488351232) (hm : (B.length : Int) ≤ most) : rd.piece (num.put B.length ++ (B ++ Z)) 0 most = (B, Z, 0) := by
  unfold rd.piece
  rw [rd.num_put _ _ (by omega) (by omega)]
  unfold rd.cut
  rw [if_neg (by simp), if_neg (by simp only [List.length_append]; omega), if_neg (by omega)]
  simp
theorem rd.piece_big (B Z : List Nat) (most : Int) (hB : B.length ≤ 140737488351232) (hm : most < (B.length : Int)) : rd.piece (num.put B.length ++ (B ++ Z)) 0 most = ([], [], 3) := by
  unfold rd.piece
  rw [rd.num_put _ _ (by omega) (by omega)]
  unfold rd.cut
  rw [if_neg (by simp), if_neg (by simp only [List.length_append]; omega), if_pos hm]
theorem rd.piece_cut (n : Nat) (Z : List Nat) (most : Int) (hn : n ≤ 140737488351232) (q : Nat) (hq : q < (num.put n).length + n) : rd.piece ((num.put n ++ Z).take q) 0 most = ([], [], 2) := by
  unfold rd.piece
  by_cases h : q < (num.put n).length
  · rw [rd.num_cut _ _ _ h]
    unfold rd.cut
    rw [if_pos (by simp)]
  · have e : (num.put (n : Int) ++ Z).take q = num.put n ++ Z.take (q - (num.put (n : Int)).length) := by rw [List.take_append, List.take_of_length_le (by omega)]
    rw [e, rd.num_put _ _ (by omega) (by omega)]
    unfold rd.cut
    rw [if_neg (by simp), if_pos (by simp only [List.length_take]; omega)]
theorem rd.piece_err (L : List Nat) (e most : Int) (he : e ≠ 0) : rd.piece L e most = ([], L, e) := by
  unfold rd.piece
  rw [rd.num_err he]
  unfold rd.cut
  rw [if_pos he]
end Go.Proofs.Ytkkpbnhagobhmaa

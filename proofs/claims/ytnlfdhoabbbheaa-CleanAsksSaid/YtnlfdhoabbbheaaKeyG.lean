/- The walk of the law KeymapGreatest: it answers true, whatever the input. -/
import Derived.Test.YtnlfdhoabbbheaaKeyO
import Derived.Test.YtnlfdhoabbbheaaKeyW
import Derived.Test.YtnlfdhoabbbheaaAlikeB
namespace Go.Proofs.Ytnlfdhoabbbheaa
open Go.RowKit Go.Maps

def ktotal (xs : List KStep) : Nat := (xs.map fun x => x.key.length + 1).sum
theorem ktotal_succ (xs : List KStep) (k : Nat) (hk : k < xs.length) : ktotal (xs.take (k + 1)) = ktotal (xs.take k) + ((xs[k]).key.length + 1) := by
  rw [List.take_succ_eq_append_getElem hk]
  unfold ktotal
  rw [List.map_append, List.sum_append]
  rfl
theorem ktotal_len (xs : List KStep) : xs.length ≤ ktotal xs := by
  induction xs with
  | nil => simp
  | cons x xs ih => unfold ktotal at *; simp only [List.map_cons, List.sum_cons, List.length_cons]; omega

/-- The greatest, offered. -/
def kmax (g : ByteArray → Option Int) (s : ByteArray) (n : Int) : ByteArray → Option Int :=
  match g s with
  | some m => if m < n then upd g s n else g
  | none => upd g s n
theorem key.put_max (N : Nat) (most : Int) (g : ByteArray → Option Int) (s : ByteArray) (n : Int) (h : (N : Int) < most) : key.put N most g s n = kmax g s n := by
  unfold key.put kmax
  cases hg : g s with
  | none => exact if_pos h
  | some m => rfl
theorem key.can_true (N : Nat) (most : Int) (g : ByteArray → Option Int) (s : ByteArray) (h : (N : Int) < most) : key.can N most g s = true := by
  unfold key.can
  simp [h]
theorem key.cnt_le (N : Nat) (most : Int) (g : ByteArray → Option Int) (s : ByteArray) : key.cnt N most g s ≤ N + 1 := by
  unfold key.cnt
  split
  · omega
  · split <;> omega
theorem kmax_at (g : ByteArray → Option Int) (s : ByteArray) (n : Int) (u : ByteArray) : kmax g s n u = if u = s then some (match g s with | some m => max m n | none => n) else g u := by
  unfold kmax
  cases hm : g s with
  | none => rfl
  | some m =>
    show (if m < n then upd g s n else g) u = if u = s then some (max m n) else g u
    by_cases hlt : m < n
    · rw [if_pos hlt]
      unfold upd
      rw [show max m n = n by omega]
    · rw [if_neg hlt]
      by_cases e : u = s
      · rw [if_pos e, e, hm, show max m n = m by omega]
      · rw [if_neg e]
def gOf (xs : List KStep) : ByteArray → Option Int := xs.foldr (fun x g => kmax g (strOf x.key) x.off) (fun _ => none)
theorem gOf_cons (x : KStep) (xs : List KStep) (s : ByteArray) : gOf (x :: xs) s = if s = strOf x.key then some (match gOf xs (strOf x.key) with | some m => max m x.off | none => x.off) else gOf xs s := kmax_at _ _ _ _
theorem gOf_drop (xs : List KStep) (k : Nat) (hk : k < xs.length) : gOf (xs.drop k) = kmax (gOf (xs.drop (k + 1))) (strOf (xs[k]).key) (xs[k]).off := by
  rw [List.drop_eq_getElem_cons hk]
  rfl
/-- The greatest of a beginning's, and v. -/
def kwant (xs : List KStep) (s : ByteArray) (v : Int) : Int := xs.foldl (fun m x => if strOf x.key = s then max m x.off else m) v
theorem kwant_succ (xs : List KStep) (s : ByteArray) (v : Int) (k : Nat) (hk : k < xs.length) : kwant (xs.take (k + 1)) s v = if strOf (xs[k]).key = s then max (kwant (xs.take k) s v) (xs[k]).off else kwant (xs.take k) s v := by
  rw [List.take_succ_eq_append_getElem hk]
  unfold kwant
  rw [List.foldl_append]
  rfl
theorem kwant_gOf (s : ByteArray) : ∀ (xs : List KStep) (v : Int), kwant xs s v = match gOf xs s with | some m => max v m | none => v
  | [], v => rfl
  | x :: xs, v => by
    have ih := kwant_gOf s xs (if strOf x.key = s then max v x.off else v)
    have e : kwant (x :: xs) s v = kwant xs s (if strOf x.key = s then max v x.off else v) := rfl
    rw [e, ih, gOf_cons]
    by_cases h : s = strOf x.key
    · rw [if_pos h, if_pos h.symm, ← h]
      cases gOf xs s with
      | none => rfl
      | some m => show max (max v x.off) m = max v (max m x.off); omega
    · rw [if_neg h, if_neg (fun e => h e.symm)]
theorem gOf_mem (x : KStep) : ∀ (xs : List KStep), x ∈ xs → ∃ m, gOf xs (strOf x.key) = some m ∧ x.off ≤ m
  | [], h => by cases h
  | y :: xs, h => by
    rw [gOf_cons]
    rcases List.mem_cons.1 h with rfl | h
    · rw [if_pos rfl]
      refine ⟨_, rfl, ?_⟩
      cases gOf xs (strOf x.key) with
      | none => exact Int.le_refl _
      | some m => show x.off ≤ max m x.off; omega
    · obtain ⟨m, h1, h2⟩ := gOf_mem x xs h
      by_cases e : strOf x.key = strOf y.key
      · rw [if_pos e]
        refine ⟨_, rfl, ?_⟩
        rw [← e, h1]
        show x.off ≤ max m y.off
        omega
      · rw [if_neg e]
        exact ⟨m, h1, h2⟩
theorem kwant_all (xs : List KStep) (i : Nat) (hi : i < xs.length) : gOf xs (strOf (xs[i]).key) = some (kwant xs (strOf (xs[i]).key) (xs[i]).off) := by
  obtain ⟨m, h1, h2⟩ := gOf_mem xs[i] xs (List.getElem_mem _)
  rw [kwant_gOf, h1]
  show some m = some (max _ m)
  rw [show max (xs[i]).off m = m by omega]
theorem kwant_bd (s : ByteArray) : ∀ (xs : List KStep) (v : Int), (∀ x ∈ xs, -9223372036854775808 ≤ x.off ∧ x.off ≤ 9223372036854775807) → -9223372036854775808 ≤ v ∧ v ≤ 9223372036854775807 → -9223372036854775808 ≤ kwant xs s v ∧ kwant xs s v ≤ 9223372036854775807
  | [], v, _, hv => hv
  | x :: xs, v, h, hv => by
    have e : kwant (x :: xs) s v = kwant xs s (if strOf x.key = s then max v x.off else v) := rfl
    rw [e]
    refine kwant_bd s xs _ (fun y hy => h y (by simp [hy])) ?_
    have := h x (by simp)
    split <;> omega
end Go.Proofs.Ytnlfdhoabbbheaa

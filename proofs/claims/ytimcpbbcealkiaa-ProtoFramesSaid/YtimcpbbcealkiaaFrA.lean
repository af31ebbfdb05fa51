/- proto: frames in plain words (chapter 20; pure). -/
import Derived.Test.YtimcpbbcealkiaaPqD
namespace Go.Proofs.Ytimcpbbcealkiaa
open Go.RowKit
set_option maxRecDepth 20000
/-- The frames of bytes, so many steps at most. -/
def fr.walk : Nat → List Nat → List (List Nat)
  | 0, _ => []
  | k + 1, L => if L.length < 4 then [] else if 131072 < wire.val (L.take 4) ∨ L.length < 4 + wire.val (L.take 4) then [] else ((L.drop 4).take (wire.val (L.take 4))) :: fr.walk k (L.drop (4 + wire.val (L.take 4)))
def fr.all (L : List Nat) : List (List Nat) := fr.walk L.length L
theorem fr.walk_more : ∀ (k m : Nat) (L : List Nat), L.length ≤ k → L.length ≤ m → fr.walk k L = fr.walk m L
  | 0, 0, _, _, _ => rfl
  | 0, m + 1, L, h, _ => by
    rw [fr.walk, fr.walk, if_pos (by omega)]
  | k + 1, 0, L, _, h => by
    rw [fr.walk, fr.walk, if_pos (by omega)]
  | k + 1, m + 1, L, h1, h2 => by
    rw [fr.walk, fr.walk]
    by_cases h3 : L.length < 4
    · rw [if_pos h3, if_pos h3]
    · rw [if_neg h3, if_neg h3]
      split
      · rfl
      · rw [fr.walk_more k m _ (by rw [List.length_drop]; omega) (by rw [List.length_drop]; omega)]
theorem fr.all_step (L : List Nat) : fr.all L = if L.length < 4 then [] else if 131072 < wire.val (L.take 4) ∨ L.length < 4 + wire.val (L.take 4) then [] else ((L.drop 4).take (wire.val (L.take 4))) :: fr.all (L.drop (4 + wire.val (L.take 4))) := by
  unfold fr.all
  by_cases h3 : L.length < 4
  · rw [if_pos h3]
    cases h : L.length with
    | zero => rfl
    | succ k => rw [fr.walk, if_pos h3]
  · rw [if_neg h3]
    obtain ⟨k, hk⟩ : ∃ k, L.length = k + 1 := ⟨L.length - 1, by omega⟩
    have e : fr.walk L.length L = fr.walk (k + 1) L := by rw [hk]
    rw [e, fr.walk, if_neg h3]
    split
    · rfl
    · rw [fr.walk_more k _ _ (by rw [List.length_drop]; omega) (Nat.le_refl _)]
theorem fr.all_len : ∀ (k : Nat) (L : List Nat), L.length ≤ k → 4 * (fr.all L).length ≤ L.length
  | 0, L, h => by
    rw [fr.all_step, if_pos (by omega)]
    simp
  | k + 1, L, h => by
    rw [fr.all_step]
    split
    · simp
    · split
      · simp
      · have h1 := fr.all_len k (L.drop (4 + wire.val (L.take 4))) (by rw [List.length_drop]; omega)
        rw [List.length_drop] at h1
        rw [List.length_cons]
        omega
def fr.one (f : List Nat) : List Nat := wire.be f.length 4 ++ f
def fr.join (l : List (List Nat)) : List Nat := (l.map fr.one).flatten
theorem fr.join_cons (f : List Nat) (l : List (List Nat)) : fr.join (f :: l) = fr.one f ++ fr.join l := rfl
theorem fr.join_take {l : List (List Nat)} {j : Nat} {f : List Nat} (h : l[j]? = some f) : fr.join (l.take (j + 1)) = fr.join (l.take j) ++ fr.one f := by
  unfold fr.join
  rw [List.take_add_one, h]
  simp
theorem fr.one_len (f : List Nat) : (fr.one f).length = f.length + 4 := by
  unfold fr.one
  rw [List.length_append, wire.be_len]
  omega
/-- What was joined is walked as it was. -/
theorem fr.all_join : ∀ (l : List (List Nat)) (Z : List Nat), (∀ f ∈ l, f.length ≤ 131072) → fr.all (fr.join l ++ Z) = l ++ fr.all Z
  | [], Z, _ => rfl
  | f :: l, Z, h => by
    have hf := h f (by simp)
    have ih := fr.all_join l Z fun x hx => h x (by simp [hx])
    have e : fr.join (f :: l) ++ Z = wire.be f.length 4 ++ (f ++ (fr.join l ++ Z)) := by
      rw [fr.join_cons]
      unfold fr.one
      simp only [List.append_assoc]
    have hv : wire.val ((wire.be f.length 4 ++ (f ++ (fr.join l ++ Z))).take 4) = f.length := by
      rw [List.take_left' (wire.be_len _ _)]
      exact wire.val_be _ _ (by show f.length < 256 ^ 4; have : 256 ^ 4 = 4294967296 := by decide
                                omega)
    rw [e, fr.all_step, hv]
    have hl : (wire.be f.length 4 ++ (f ++ (fr.join l ++ Z))).length = 4 + (f.length + (fr.join l ++ Z).length) := by
      rw [List.length_append, List.length_append, wire.be_len]
    rw [if_neg (by omega), if_neg (by omega)]
    have h1 : (wire.be f.length 4 ++ (f ++ (fr.join l ++ Z))).drop 4 = f ++ (fr.join l ++ Z) := List.drop_left' (wire.be_len _ _)
    rw [show 4 + f.length = 4 + f.length from rfl, ← List.drop_drop, h1, List.take_left' rfl, List.drop_left' rfl, ih]
    rfl
theorem fr.join_mem {l : List (List Nat)} {f : List Nat} (h : f ∈ l) : f.length + 4 ≤ (fr.join l).length := by
  induction l with
  | nil => cases h
  | cons a l ih =>
    rw [fr.join_cons, List.length_append, fr.one_len]
    rcases List.mem_cons.1 h with rfl | h
    · omega
    · have := ih h
      omega
end Go.Proofs.Ytimcpbbcealkiaa

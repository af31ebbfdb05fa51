/- Texts in rising order: what a sort of them leaves (no program). -/
import Derived.Test.YtbbekgliaedigaaPfE
namespace Go.Proofs.Ytbbekgliaedigaa

def bytesOf (x : List UInt8) : ByteArray := ByteArray.mk x.toArray
theorem bytesOf_list (x : List UInt8) : (bytesOf x).toList = x := by rw [ByteArray.toList_eq]; simp [bytesOf]
theorem pf.lt_bytes (x y : List UInt8) : pf.lt (bytesOf x) (bytesOf y) = true ↔ x < y := by rw [pf.lt_iff, bytesOf_list, bytesOf_list]
theorem pf.sort_rises (ss : List (List UInt8)) (hnd : ss.Nodup) : ((ss.mergeSort fun x y => decide (x ≤ y)).map bytesOf).Pairwise fun a b => pf.lt a b = true := by
  rw [List.pairwise_map]
  have hs : (ss.mergeSort fun x y => decide (x ≤ y)).Pairwise fun x y => decide (x ≤ y) = true :=
    List.pairwise_mergeSort (le := fun x y : List UInt8 => decide (x ≤ y)) (fun a b c h1 h2 => decide_eq_true (List.le_trans (of_decide_eq_true h1) (of_decide_eq_true h2))) (fun a b => by
      rcases List.le_total a b with h | h
      · simp [h]
      · simp [h]) ss
  have hn : (ss.mergeSort fun x y => decide (x ≤ y)).Pairwise fun x y => x ≠ y := (List.mergeSort_perm ss _).symm.nodup hnd
  refine (hs.and hn).imp fun {a b} h => ?_
  rw [pf.lt_bytes]
  rw [← Decidable.not_not (p := a < b)]
  intro hlt
  exact h.2 (List.le_antisymm (of_decide_eq_true h.1) (List.not_lt.1 hlt))
/-- Two rows of rising keys with the same keys are the same. -/
theorem pf.rising_eq : ∀ (a b : List ByteArray), a.Pairwise (fun x y => pf.lt x y = true) → b.Pairwise (fun x y => pf.lt x y = true) → (∀ s, s ∈ a ↔ s ∈ b) → a = b
  | [], [], _, _, _ => rfl
  | [], y :: b, _, _, h => absurd ((h y).2 (by simp)) (by simp)
  | x :: a, [], _, _, h => absurd ((h x).1 (by simp)) (by simp)
  | x :: a, y :: b, ha, hb, h => by
    have ha' := List.pairwise_cons.1 ha
    have hb' := List.pairwise_cons.1 hb
    have e : x = y := by
      have h1 := (h x).1 (by simp)
      have h2 := (h y).2 (by simp)
      rcases List.mem_cons.1 h1 with e | h1
      · exact e
      · rcases List.mem_cons.1 h2 with e | h2
        · exact e.symm
        · have := pf.lt_trans (ha'.1 y h2) (hb'.1 x h1)
          rw [pf.lt_irrefl] at this
          cases this
    subst e
    refine congrArg (x :: ·) (pf.rising_eq a b ha'.2 hb'.2 fun s => ⟨fun hs => ?_, fun hs => ?_⟩)
    · rcases List.mem_cons.1 ((h s).1 (List.mem_cons_of_mem _ hs)) with rfl | h1
      · exact absurd rfl (pf.lt_ne (ha'.1 s hs))
      · exact h1
    · rcases List.mem_cons.1 ((h s).2 (List.mem_cons_of_mem _ hs)) with rfl | h1
      · exact absurd rfl (pf.lt_ne (hb'.1 s hs))
      · exact h1
end Go.Proofs.Ytbbekgliaedigaa

/- slices.Sorted over a map's keys, in rising order. -/
import Derived.Test.YtbbekgliaedigaaMapO
import Derived.Test.YtbbekgliaedigaaPfM
namespace Go.Proofs.Ytbbekgliaedigaa
open Go.RowKit Go.Maps

def RisePost (w1 : World) (N : Nat) (g : ByteArray → Option Int) (e : Ending) (w' : World) : Prop :=
  ∃ (v : Value) (ks : List ByteArray), e = .returned v ∧ IsKeys g ks ∧ ks.length = N ∧ ks.Pairwise (fun a b => pf.lt a b = true) ∧ w'.ownsRow w1.heap.size 9 1 v N (ks.map .string) ∧ Below w1.heap.size w1 w'

set_option maxHeartbeats 1000000 in
theorem keys_rising (b N : Nat) (g : ByteArray → Option Int) (w : World) (h : SM w b N g) (hN : N ≤ 1000000) :
    Calls Try.prog 76 #[.func (.func 106) #[] #[.pointer (some ⟨w.heap.size, 0, none⟩)]] (w.alloc (.cells #[.map (some b)] 118)) (RisePost (w.alloc (.cells #[.map (some b)] 118)) N g) := by
  obtain ⟨D, h1, h2, h3⟩ := h
  have hc := (callsIn_wide (n := 5)).1 (AnyZ.sorted_in Try.laySorted Fence.wide 5 trivial trivial trivial trivial rfl (by omega) (sorts_in _) (Go.Proofs.enters_of Try.func97 (by kernel_rfl) rfl) 106 #[.pointer (some ⟨w.heap.size, 0, none⟩)] trivial (Go.Proofs.enters_of Try.func106 (by kernel_rfl) rfl) _ (Maps.size D) (by rw [h2]; unfold maxLen; omega) (by rw [h2]; omega) _ (keys_gives b N w D _ (by omega) h1))
  refine hc.mono ?_
  rintro e w' ⟨v, ss, rfl, hS, hrow, -, hb⟩
  have hp : (ss.mergeSort (fun x y => decide (x ≤ y))).Perm (strKeys D) := (List.mergeSort_perm ss _).trans hS
  obtain ⟨hk, hl⟩ := keys_of_perm h1 h2 h3 hp
  have hnd : ss.Nodup := hS.symm.nodup (strKeys_facts h1).1
  refine ⟨v, (ss.mergeSort (fun x y => decide (x ≤ y))).map barr, rfl, hk, hl, pf.sort_rises ss hnd, ?_, hb⟩
  rw [List.length_map, (List.mergeSort_perm ss _).length_eq] at hl
  rw [← encStr_barr, ← hl]
  exact hrow
end Go.Proofs.Ytbbekgliaedigaa

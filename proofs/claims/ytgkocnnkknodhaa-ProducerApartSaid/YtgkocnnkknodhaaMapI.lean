/- maps.Keys and slices.Sorted over a map with int keys: the keys, rising, each once. -/
import Derived.Test.YtgkocnnkknodhaaMapG
import Derived.Test.YtgkocnnkknodhaaLay1
import Derived.Shelf.SortM.SortNone
namespace Go.Proofs.Ytgkocnnkknodhaa
open Go.RowKit Go.Maps

/-- The keys of a map, rising, each once. -/
structure KeysI (g : Int → Option Value) (ks : List Int) : Prop where
  rising : ks.Pairwise (fun x y => x < y)
  mem : ∀ x, x ∈ ks ↔ intOk x ∧ (g x).isSome = true

theorem intKeys_facts {w : World} {b N : Nat} {D : DataW Value} (h : w.ownsMap Try.prog 3 anyElem b N D) :
    (intKeys D).Nodup ∧ (∀ x, x ∈ intKeys D ↔ intOk x ∧ Maps.has D (.int .i64 x) = true) ∧ (intKeys D).length = Maps.size D := by
  obtain ⟨es, hD, hpw, hkl⟩ := h.entries (int_keyed Try.underlying3)
  obtain ⟨es0, clock, hb, F, hs, hD0⟩ := h
  have hk : ∀ p ∈ es, ∃ x, p.1 = .int .i64 x ∧ intOk x := fun p hp => by
    rw [hD] at hD0
    have e : es = (es0.toList.map (WideElems.rg Try.prog 3 anyElem)).foldr DataW.insert [] := by simpa using hD0
    rw [e] at hp
    obtain ⟨x, hx, rfl⟩ := List.mem_map.1 (mem_sorted.1 hp)
    obtain ⟨y, hy⟩ := F.reads x hx
    rw [WideElems.rg_of hy]
    obtain ⟨z, _, h2, hw⟩ := Maps.keyOf_i64 Try.underlying3 (WideElems.rd_key hy)
    exact ⟨z, h2, wf_i64.1 hw⟩
  subst hD
  refine ⟨?_, fun x => ?_, by simp [intKeys, Maps.size]⟩
  · refine List.pairwise_map.2 (hpw.imp_of_mem fun {p q} hp' hq' hne e => hne ?_)
    obtain ⟨a, ha, -⟩ := hk p hp'
    obtain ⟨c, hc, -⟩ := hk q hq'
    rw [ha, hc] at e ⊢
    exact congrArg (Lit.int .i64) e
  · rw [Maps.has_eq, List.any_eq_true]
    show x ∈ es.map (fun p => Go.intOf p.1) ↔ _
    rw [List.mem_map]
    constructor
    · rintro ⟨p, hp', hs⟩
      obtain ⟨a, ha, hok⟩ := hk p hp'
      rw [ha] at hs
      obtain rfl : a = x := hs
      exact ⟨hok, p, hp', by rw [ha]; simp [Lit.sameKey]⟩
    · rintro ⟨_, p, hp', h⟩
      obtain ⟨a, ha, _⟩ := hk p hp'
      rw [ha] at h
      refine ⟨p, hp', ?_⟩
      rw [ha]
      simpa [Lit.sameKey, Go.intOf] using h

theorem keysI_of {w : World} {b N : Nat} {g : Int → Option Value} {D : DataW Value} (h1 : w.ownsMap Try.prog 3 anyElem b N D) (h2 : Maps.size D = N) (h3 : Says intKey D g) {ss : List Int} (hp : ss.Perm (intKeys D)) :
    KeysI g (ss.mergeSort fun x y => decide (x ≤ y)) ∧ ss.length = N := by
  obtain ⟨hnd, hmem, hlen⟩ := intKeys_facts h1
  have hp2 := (List.mergeSort_perm ss (fun x y => decide (x ≤ y))).trans hp
  refine ⟨⟨?_, fun x => ?_⟩, by rw [hp.length_eq, hlen, h2]⟩
  · have h4 := List.pairwise_mergeSort (le := fun x y : Int => decide (x ≤ y)) (fun a b c h1 h2 => by simp only [decide_eq_true_eq] at *; omega) (fun a b => by simp only [Bool.or_eq_true, decide_eq_true_eq]; omega) ss
    have h5 : (ss.mergeSort fun x y => decide (x ≤ y)).Nodup := hp2.symm.nodup hnd
    refine (h4.and h5).imp fun {x y} h => ?_
    have := h.1
    have := h.2
    simp only [decide_eq_true_eq] at *
    omega
  · rw [hp2.mem_iff, hmem x]
    constructor
    · rintro ⟨a, b⟩; exact ⟨a, by rw [← (h3 x a).1]; exact b⟩
    · rintro ⟨a, b⟩; exact ⟨a, by rw [← (h3 x a).1] at b; exact b⟩

theorem sortsI_in (m : Nat) : AnyZI.SortsIn Try.prog Try.laySortedI_ren Fence.wide m :=
  ⟨fun blk off cap ss W hH hblk hsz => callsIn_wide.2 (AnyM.slices_Sort_int Try.laySortI blk off cap ss W hH hblk hsz),
   fun p cap W => callsIn_wide.2 (AnyM.slices_Sort_int_none Try.laySortI p cap W)⟩

/-- maps.Keys at a map. -/
theorem maps_keys_row (mb : Option Nat) (w : World) :
    Calls Try.prog 85 #[.map mb] w fun e w' => e = .returned (.func (.func 106) #[] #[.pointer (some ⟨w.heap.size, 0, none⟩)]) ∧ w' = w.alloc (.cells #[.map mb] 134) :=
  (callsIn_wide (n := 5)).1 (AnyZI.keys_in Try.layKeysI Fence.wide 5 trivial rfl mb w)

def SortedPost (w1 : World) (N : Nat) (g : Int → Option Value) (e : Ending) (w' : World) : Prop :=
  ∃ (v : Value) (ks : List Int), e = .returned v ∧ KeysI g ks ∧ ks.length = N ∧ w'.ownsRow w1.heap.size 3 1 v N (ks.map (.int .i64)) ∧ Below w1.heap.size w1 w'

set_option maxHeartbeats 1000000 in
/-- slices.Sorted at what maps.Keys handed back ('w': ahead of maps.Keys). -/
theorem keysI_sorted (mb : Option Nat) (N : Nat) (g : Int → Option Value) (w : World) (h : OMap intKey w mb N g) (hN : N ≤ 1000000) :
    Calls Try.prog 84 #[.func (.func 106) #[] #[.pointer (some ⟨w.heap.size, 0, none⟩)]] (w.alloc (.cells #[.map mb] 134)) (SortedPost (w.alloc (.cells #[.map mb] 134)) N g) := by
  have he := Go.Proofs.enters_of Try.func106 (by kernel_rfl) rfl
  cases mb with
  | none =>
    obtain ⟨rfl, hg⟩ := h
    have hc := (callsIn_wide (n := 5)).1 (AnyZI.sorted_in Try.laySortedI Fence.wide 5 trivial trivial trivial trivial rfl (by omega) (sortsI_in _) (Go.Proofs.enters_of Try.func105 (by kernel_rfl) rfl) 106 #[.pointer (some ⟨w.heap.size, 0, none⟩)] trivial he _ 0 (by unfold maxLen; omega) (by omega) (w.alloc (.cells #[.map none] 134))
      (AnyZI.keys_gives_nil (ρ := Try.layKeysI_ren) { Try.layKeysI with } Fence.wide _ trivial rfl w.heap.size _ (by simp) (by simp)))
    refine hc.mono ?_
    rintro e w' ⟨v, ss, rfl, rfl, hrow, -, hb⟩
    exact ⟨v, [], rfl, ⟨List.Pairwise.nil, fun x => by simp [hg x]⟩, rfl, by rw [List.mergeSort_nil] at hrow; exact hrow, hb⟩
  | some b =>
    obtain ⟨D, h1, h2, h3⟩ := h
    have hgv : SeqGives Fence.wide 2 Try.prog 106 #[.pointer (some ⟨w.heap.size, 0, none⟩)] encZ (fun ss => ss.Perm (intKeys D)) (Maps.size D) (w.alloc (.cells #[.map (some b)] 134)) := by
      have hbl := h1.lt
      refine AnyZI.keys_gives (ρ := Try.layKeysI_ren) (R := anyElem) { Try.layKeysI with } Fence.wide _ trivial rfl (by omega) w.heap.size b N D _ (by simp) (by simp) ?_
      obtain ⟨es, clock, hb, Ft, hs, hD⟩ := h1
      exact ⟨es, clock, (Below.heap_alloc _ _ b hbl).trans hb, Ft, hs, hD⟩
    have hc := (callsIn_wide (n := 5)).1 (AnyZI.sorted_in Try.laySortedI Fence.wide 5 trivial trivial trivial trivial rfl (by omega) (sortsI_in _) (Go.Proofs.enters_of Try.func105 (by kernel_rfl) rfl) 106 #[.pointer (some ⟨w.heap.size, 0, none⟩)] trivial he _ (Maps.size D) (by rw [h2]; unfold maxLen; omega) (by rw [h2]; omega) _ hgv)
    refine hc.mono ?_
    rintro e w' ⟨v, ss, rfl, hS, hrow, -, hb⟩
    obtain ⟨hk, hl⟩ := keysI_of h1 h2 h3 hS
    refine ⟨v, _, rfl, hk, by rw [(List.mergeSort_perm ss _).length_eq, hl], ?_, hb⟩
    rw [← hl]
    exact hrow
end Go.Proofs.Ytgkocnnkknodhaa

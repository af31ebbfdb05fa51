/- A map of names: its keys, sorted; its clone. -/
import Derived.Test.YthffkbcjidbdaaaDkH
import Derived.Test.YthffkbcjidbdaaaLay1
import Derived.Shelf.SortM.SortNone
namespace Go.Proofs.Ythffkbcjidbdaaa
open Go.RowKit Go.Maps Go.WideMaps
set_option maxRecDepth 100000

/-- The keys of a map, each once. -/
def dk.Keys (g : ByteArray → Option Value) (ks : List ByteArray) : Prop := ks.Nodup ∧ ∀ s : ByteArray, s ∈ ks ↔ s.size ≤ maxLen ∧ (g s).isSome = true
def barr (x : List UInt8) : ByteArray := ByteArray.mk x.toArray
theorem barr_data (s : ByteArray) : barr s.data.toList = s := rfl
theorem barr_size (x : List UInt8) : (barr x).size = x.length := by simp [barr, ByteArray.size]
theorem barr_inj {x y : List UInt8} (h : barr x = barr y) : x = y := by
  have := congrArg (fun s : ByteArray => s.data.toList) h
  simpa [barr] using this
theorem encStr_barr (ss : List (List UInt8)) : ss.map encStr = (ss.map barr).map Value.string := by
  rw [List.map_map]
  exact List.map_congr_left fun x _ => by simp [encStr, barr]

/-- In order. -/
def dk.Rise (ks : List ByteArray) : Prop := ∃ ss : List (List UInt8), ks = (ss.mergeSort (fun x y => decide (x ≤ y))).map barr ∧ ss.Nodup
def dk.KeysPost (w1 : World) (N : Nat) (g : ByteArray → Option Value) (e : Ending) (w' : World) : Prop :=
  ∃ (v : Value) (ks : List ByteArray), e = .returned v ∧ dk.Keys g ks ∧ ks.length = N ∧ dk.Rise ks ∧ w'.ownsRow w1.heap.size 9 1 v N (ks.map .string) ∧ Below w1.heap.size w1 w'
theorem sorts_in (m : Nat) : AnyZ.SortsIn Try.prog Try.laySorted_ren Fence.wide m :=
  ⟨fun blk off cap ss W hH hblk hsz => callsIn_wide.2 (AnyM.slices_Sort_string Try.laySort blk off cap ss W hH hblk hsz),
   fun p cap W => callsIn_wide.2 (AnyM.slices_Sort_string_none Try.laySort p cap W)⟩

theorem dk.strKeys_factsG {w : World} {b N : Nat} {D : DataW Value} (h : w.ownsMap Try.prog 9 anyElem b N D) :
    (strKeys D).Nodup ∧ (∀ x, x ∈ strKeys D ↔ Maps.has D (.string x) = true) ∧ (strKeys D).length = Maps.size D := by
  obtain ⟨es, hD, hpw, _⟩ := h.entries strKey.keyed
  obtain ⟨es', hD', hko⟩ := h.keysOf
  obtain rfl : es = es' := by rw [hD] at hD'; simpa using hD'
  subst hD
  have hk : ∀ p ∈ es, ∃ x, p.1 = .string x := fun p hp => by
    obtain ⟨v, hv⟩ := hko p hp
    obtain ⟨x, _, hx, _⟩ := Maps.keyOf_str Try.underlying9 hv
    exact ⟨x, hx⟩
  refine ⟨?_, fun x => ?_, by simp [strKeys, Maps.size]⟩
  · refine List.pairwise_map.2 (hpw.imp_of_mem fun {p q} hp' hq' hne e => hne ?_)
    obtain ⟨a, ha⟩ := hk p hp'
    obtain ⟨b, hb⟩ := hk q hq'
    rw [ha, hb] at e ⊢
    exact congrArg Lit.string e
  · rw [Maps.has_eq, List.any_eq_true]
    show x ∈ es.map (fun p => Go.strOf p.1) ↔ _
    rw [List.mem_map]
    constructor
    · rintro ⟨p, hp', hs⟩
      obtain ⟨a, ha⟩ := hk p hp'
      rw [ha] at hs
      exact ⟨p, hp', by rw [ha]; simpa [Lit.sameKey, Go.strOf] using hs⟩
    · rintro ⟨p, hp', h⟩
      obtain ⟨a, ha⟩ := hk p hp'
      rw [ha] at h
      exact ⟨p, hp', by rw [ha]; simpa [Lit.sameKey, Go.strOf] using h.symm⟩

theorem dk.keys_of_permG {w : World} {b N : Nat} {g : ByteArray → Option Value} {D : DataW Value} (h1 : w.ownsMap Try.prog 9 anyElem b N D) (h2 : Maps.size D = N) (h3 : Says strKey D g)
    {ss : List (List UInt8)} (hp : ss.Perm (strKeys D)) : dk.Keys g (ss.map barr) ∧ (ss.map barr).length = N := by
  obtain ⟨hnd, hmem, hlen⟩ := dk.strKeys_factsG h1
  have hle := strKeys_le h1 Try.underlying9
  have h4 : ∀ s : ByteArray, s.size ≤ maxLen → Maps.has D (.string s.data.toList) = (g s).isSome := fun s hs => (h3 s hs).1
  refine ⟨⟨?_, fun s => ?_⟩, by rw [List.length_map, hp.length_eq, hlen, h2]⟩
  · exact List.pairwise_map.2 ((hp.symm.nodup hnd).imp fun hne e => hne (barr_inj e))
  · rw [List.mem_map]
    constructor
    · rintro ⟨x, hx, rfl⟩
      have hx' := hp.mem_iff.1 hx
      have hl := hle x hx'
      refine ⟨by rw [barr_size]; exact hl, ?_⟩
      rw [← h4 (barr x) (by rw [barr_size]; exact hl)]
      simpa [barr] using (hmem x).1 hx'
    · rintro ⟨hs, hg⟩
      refine ⟨s.data.toList, hp.mem_iff.2 ((hmem _).2 ?_), rfl⟩
      rw [h4 s hs]; exact hg

/-- maps.Keys at a map. -/
theorem dk.maps_keysP (mb : Option Nat) (w : World) :
    Calls Try.prog 51 #[.map mb] w fun e w' => e = .returned (.func (.func 63) #[] #[.pointer (some ⟨w.heap.size, 0, none⟩)]) ∧ w' = w.alloc (.cells #[.map mb] 80) :=
  (callsIn_wide (n := 5)).1 (AnyZ.keys_in Try.layKeysF Fence.wide 5 trivial rfl mb w)
theorem dk.keys_givesP (b N : Nat) (w : World) (D : DataW Value) (n : Nat) (hn : 1 ≤ n) (hown : w.ownsMap Try.prog 9 anyElem b N D) :
    SeqGives Fence.wide n Try.prog 63 #[.pointer (some ⟨w.heap.size, 0, none⟩)] encStr (fun ss => ss.Perm (strKeys D)) (Maps.size D) (w.alloc (.cells #[.map (some b)] 80)) := by
  have hbl := hown.lt
  refine AnyZ.keys_gives (ρ := Try.layKeysF_ren) (R := anyElem) { Try.layKeysF with } Fence.wide n trivial rfl hn w.heap.size b N D _ (by simp) (by simp) ?_
  obtain ⟨es, clock, hb, Ft, hs, hD⟩ := hown
  exact ⟨es, clock, (Below.heap_alloc _ _ b hbl).trans hb, Ft, hs, hD⟩

set_option maxHeartbeats 1000000 in
theorem dk.keys_risingP (b N : Nat) (g : ByteArray → Option Value) (w : World) (h : GM strKey w b N g) (hN : N ≤ 1000000) :
    Calls Try.prog 50 #[.func (.func 63) #[] #[.pointer (some ⟨w.heap.size, 0, none⟩)]] (w.alloc (.cells #[.map (some b)] 80)) (dk.KeysPost (w.alloc (.cells #[.map (some b)] 80)) N g) := by
  obtain ⟨D, h1, h2, h3⟩ := h
  have hc := (callsIn_wide (n := 5)).1 (AnyZ.sorted_in Try.laySorted Fence.wide 5 trivial trivial trivial trivial rfl (by omega) (sorts_in _) (Go.Proofs.enters_of Try.func62 (by kernel_rfl) rfl) 63 #[.pointer (some ⟨w.heap.size, 0, none⟩)] trivial (Go.Proofs.enters_of Try.func63 (by kernel_rfl) rfl) _ (Maps.size D) (by rw [h2]; unfold maxLen; omega) (by rw [h2]; omega) _ (dk.keys_givesP b N w D _ (by omega) h1))
  refine hc.mono ?_
  rintro e w' ⟨v, ss, rfl, hS, hrow, -, hb⟩
  have hp : (ss.mergeSort (fun x y => decide (x ≤ y))).Perm (strKeys D) := (List.mergeSort_perm ss _).trans hS
  obtain ⟨hk, hl⟩ := dk.keys_of_permG h1 h2 h3 hp
  have hnd : ss.Nodup := hS.symm.nodup (dk.strKeys_factsG h1).1
  refine ⟨v, (ss.mergeSort (fun x y => decide (x ≤ y))).map barr, rfl, hk, hl, ⟨ss, rfl, hnd⟩, ?_, hb⟩
  rw [List.length_map, (List.mergeSort_perm ss _).length_eq] at hl
  rw [← encStr_barr, ← hl]
  exact hrow

/-- maps.Clone at a map of names. -/
theorem dk.clone_any (b N : Nat) (g : ByteArray → Option Value) (w : World) (h : GM strKey w b N g) :
    Calls Try.prog 48 #[.map (some b)] w fun e w' => e = .returned (.map (some w.heap.size)) ∧ GM strKey w' w.heap.size N g ∧ Below w.heap.size w w' := by
  obtain ⟨D, h1, h2, h3⟩ := h
  refine (AnyW.maps_Clone_owns Try.layClone 9 anyElem b N D w h1).mono ?_
  rintro e w' ⟨he, ho, -, hb⟩
  exact ⟨he, ⟨D, ho, h2, h3⟩, hb⟩
end Go.Proofs.Ythffkbcjidbdaaa

/- The keys of a map: gathered, sorted. -/
import Derived.Test.YtnlfdhoabbbheaaMapS
import Derived.Test.YtnlfdhoabbbheaaLay1
import Derived.Shelf.SortM.SortNone
import Derived.Test.YtnlfdhoabbbheaaPfX
namespace Go.Proofs.Ytnlfdhoabbbheaa
section
open Go.RowKit Go.Maps

/-- The keys of a map, each once. -/
def IsKeys (g : ByteArray → Option Int) (ks : List ByteArray) : Prop := ks.Nodup ∧ ∀ s : ByteArray, s ∈ ks ↔ s.size ≤ maxLen ∧ (g s).isSome = true
def barr (x : List UInt8) : ByteArray := ByteArray.mk x.toArray
theorem barr_data (s : ByteArray) : barr s.data.toList = s := rfl
theorem barr_size (x : List UInt8) : (barr x).size = x.length := by simp [barr, ByteArray.size]
theorem barr_inj {x y : List UInt8} (h : barr x = barr y) : x = y := by
  have := congrArg (fun s : ByteArray => s.data.toList) h
  simpa [barr] using this
theorem encStr_barr (ss : List (List UInt8)) : ss.map encStr = (ss.map barr).map Value.string := by
  rw [List.map_map]
  exact List.map_congr_left fun x _ => by simp [encStr, barr]

theorem strKeys_facts {w : World} {b N : Nat} {D : DataW Unit} (h : w.ownsMap Try.prog 9 (plainElem Try.prog 3) b N D) :
    (strKeys D).Nodup ∧ (∀ x, x ∈ strKeys D ↔ Maps.has D (.string x) = true) ∧ (strKeys D).length = Maps.size D := by
  obtain ⟨es, hD, hpw, _⟩ := h.entries mapLaw
  obtain ⟨es', hD', hko⟩ := h.keysOf
  obtain rfl : es = es' := by rw [hD] at hD'; simpa using hD'
  subst hD
  have hk : ∀ p ∈ es, ∃ x, p.1 = .string x := fun p hp => by
    obtain ⟨v, hv⟩ := hko p hp
    obtain ⟨x, _, hx, _⟩ := Maps.keyOf_str Try.underlying9 hv
    exact ⟨x, hx⟩
  refine ⟨?_, fun x => ?_, by simp [strKeys, Maps.size]⟩
  · refine List.pairwise_map.2 (hpw.imp_of_mem fun {p q} hp' hq' hne e => hne ?_)
    obtain ⟨a, ha⟩ := hk p hp'
    obtain ⟨b, hb⟩ := hk q hq'
    rw [ha, hb] at e ⊢
    exact congrArg Lit.string e
  · rw [Maps.has_eq, List.any_eq_true]
    show x ∈ es.map (fun p => Go.strOf p.1) ↔ _
    rw [List.mem_map]
    constructor
    · rintro ⟨p, hp', hs⟩
      obtain ⟨a, ha⟩ := hk p hp'
      rw [ha] at hs
      exact ⟨p, hp', by rw [ha]; simpa [Lit.sameKey, Go.strOf] using hs⟩
    · rintro ⟨p, hp', h⟩
      obtain ⟨a, ha⟩ := hk p hp'
      rw [ha] at h
      exact ⟨p, hp', by rw [ha]; simpa [Lit.sameKey, Go.strOf] using h.symm⟩

theorem keys_of_perm {w : World} {b N : Nat} {g : ByteArray → Option Int} {D : DataW Unit} (h1 : w.ownsMap Try.prog 9 (plainElem Try.prog 3) b N D) (h2 : Maps.size D = N)
    (h3 : ∀ s : ByteArray, s.size ≤ maxLen → Maps.has D (.string s.data.toList) = (g s).isSome ∧ D.atKey (.string s.data.toList) (.lit (.int .i64 0)) = .lit (.int .i64 ((g s).getD 0)))
    {ss : List (List UInt8)} (hp : ss.Perm (strKeys D)) : IsKeys g (ss.map barr) ∧ (ss.map barr).length = N := by
  obtain ⟨hnd, hmem, hlen⟩ := strKeys_facts h1
  have hle := strKeys_le h1 Try.underlying9
  refine ⟨⟨?_, fun s => ?_⟩, by rw [List.length_map, hp.length_eq, hlen, h2]⟩
  · exact List.pairwise_map.2 ((hp.symm.nodup hnd).imp fun hne e => hne (barr_inj e))
  · rw [List.mem_map]
    constructor
    · rintro ⟨x, hx, rfl⟩
      have hx' := hp.mem_iff.1 hx
      have hl := hle x hx'
      refine ⟨by rw [barr_size]; exact hl, ?_⟩
      rw [← (h3 (barr x) (by rw [barr_size]; exact hl)).1]
      simpa [barr] using (hmem x).1 hx'
    · rintro ⟨hs, hg⟩
      refine ⟨s.data.toList, hp.mem_iff.2 ((hmem _).2 ?_), rfl⟩
      rw [(h3 s hs).1]; exact hg

/-- The keys, as a list of the map alone. -/
theorem SM.keys {w : World} {b N : Nat} {g : ByteArray → Option Int} (h : SM w b N g) : ∃ ks, IsKeys g ks ∧ ks.length = N := by
  obtain ⟨D, h1, h2, h3⟩ := h
  exact ⟨_, keys_of_perm h1 h2 h3 (List.Perm.refl _)⟩
theorem IsKeys.length {g g' : ByteArray → Option Int} {ks ks' : List ByteArray} (h : IsKeys g ks) (h' : IsKeys g' ks') (hg : ∀ s : ByteArray, s.size ≤ maxLen → ((g s).isSome = (g' s).isSome)) : ks.length = ks'.length :=
  ((List.perm_ext_iff_of_nodup h.1 h'.1).2 fun s => by
    rw [h.2 s, h'.2 s]
    exact ⟨fun ⟨a, b⟩ => ⟨a, by rw [← hg s a]; exact b⟩, fun ⟨a, b⟩ => ⟨a, by rw [hg s a]; exact b⟩⟩).length_eq
theorem SM.congr {w : World} {b N : Nat} {g g' : ByteArray → Option Int} (h : SM w b N g) (hg : ∀ s : ByteArray, s.size ≤ maxLen → g' s = g s) : SM w b N g' := by
  obtain ⟨D, h1, h2, h3⟩ := h
  exact ⟨D, h1, h2, fun s hs => by rw [hg s hs]; exact h3 s hs⟩

def CollectPost (w1 : World) (N : Nat) (g : ByteArray → Option Int) (e : Ending) (w' : World) : Prop :=
  ∃ (v : Value) (ks : List ByteArray), e = .returned v ∧ IsKeys g ks ∧ ks.length = N ∧ w'.ownsRow w1.heap.size 9 1 v N (ks.map .string) ∧ Below w1.heap.size w1 w'

end
section
open Go.RowKit Go.Maps

theorem sorts_in (m : Nat) : AnyZ.SortsIn Try.prog Try.laySorted_ren Fence.wide m :=
  ⟨fun blk off cap ss W hH hblk hsz => callsIn_wide.2 (AnyM.slices_Sort_string Try.laySort blk off cap ss W hH hblk hsz),
   fun p cap W => callsIn_wide.2 (AnyM.slices_Sort_string_none Try.laySort p cap W)⟩

end
section
open Go.RowKit Go.Maps

def RisePost (w1 : World) (N : Nat) (g : ByteArray → Option Int) (e : Ending) (w' : World) : Prop :=
  ∃ (v : Value) (ks : List ByteArray), e = .returned v ∧ IsKeys g ks ∧ ks.length = N ∧ ks.Pairwise (fun a b => pf.lt a b = true) ∧ w'.ownsRow w1.heap.size 9 1 v N (ks.map .string) ∧ Below w1.heap.size w1 w'

end
end Go.Proofs.Ytnlfdhoabbbheaa

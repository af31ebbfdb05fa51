/- maps.Keys and slices.Collect over a map from texts to numbers: each key, once. -/
import Derived.Test.YtbbekgliaedigaaMapS
import Derived.Test.YtbbekgliaedigaaLay1
namespace Go.Proofs.Ytbbekgliaedigaa
open Go.RowKit Go.Maps

/-- The keys of a map, each once. -/
def IsKeys (g : ByteArray → Option Int) (ks : List ByteArray) : Prop := ks.Nodup ∧ ∀ s : ByteArray, s ∈ ks ↔ s.size ≤ maxLen ∧ (g s).isSome = true
def barr (x : List UInt8) : ByteArray := ByteArray.mk x.toArray
theorem barr_data (s : ByteArray) : barr s.data.toList = s := rfl
theorem barr_size (x : List UInt8) : (barr x).size = x.length := by simp [barr, ByteArray.size]
theorem barr_inj {x y : List UInt8} (h : barr x = barr y) : x = y := by
  have := congrArg (fun s : ByteArray => s.data.toList) h
  simpa [barr] using this
theorem encStr_barr (ss : List (List UInt8)) : ss.map encStr = (ss.map barr).map Value.string := by
  rw [List.map_map]
  exact List.map_congr_left fun x _ => by simp [encStr, barr]

theorem strKeys_facts {w : World} {b N : Nat} {D : DataW Unit} (h : w.ownsMap Try.prog 9 (plainElem Try.prog 3) b N D) :
    (strKeys D).Nodup ∧ (∀ x, x ∈ strKeys D ↔ Maps.has D (.string x) = true) ∧ (strKeys D).length = Maps.size D := by
  obtain ⟨es, hD, hpw, _⟩ := h.entries mapLaw
  obtain ⟨es', hD', hko⟩ := h.keysOf
  obtain rfl : es = es' := by rw [hD] at hD'; simpa using hD'
  subst hD
  have hk : ∀ p ∈ es, ∃ x, p.1 = .string x := fun p hp => by
    obtain ⟨v, hv⟩ := hko p hp
    obtain ⟨x, _, hx, _⟩ := Maps.keyOf_str Try.underlying9 hv
    exact ⟨x, hx⟩
  refine ⟨?_, fun x => ?_, by simp [strKeys, Maps.size]⟩
  · refine List.pairwise_map.2 (hpw.imp_of_mem fun {p q} hp' hq' hne e => hne ?_)
    obtain ⟨a, ha⟩ := hk p hp'
    obtain ⟨b, hb⟩ := hk q hq'
    rw [ha, hb] at e ⊢
    exact congrArg Lit.string e
  · rw [Maps.has_eq, List.any_eq_true]
    show x ∈ es.map (fun p => Go.strOf p.1) ↔ _
    rw [List.mem_map]
    constructor
    · rintro ⟨p, hp', hs⟩
      obtain ⟨a, ha⟩ := hk p hp'
      rw [ha] at hs
      exact ⟨p, hp', by rw [ha]; simpa [Lit.sameKey, Go.strOf] using hs⟩
    · rintro ⟨p, hp', h⟩
      obtain ⟨a, ha⟩ := hk p hp'
      rw [ha] at h
      exact ⟨p, hp', by rw [ha]; simpa [Lit.sameKey, Go.strOf] using h.symm⟩

theorem keys_of_perm {w : World} {b N : Nat} {g : ByteArray → Option Int} {D : DataW Unit} (h1 : w.ownsMap Try.prog 9 (plainElem Try.prog 3) b N D) (h2 : Maps.size D = N)
    (h3 : ∀ s : ByteArray, s.size ≤ maxLen → Maps.has D (.string s.data.toList) = (g s).isSome ∧ D.atKey (.string s.data.toList) (.lit (.int .i64 0)) = .lit (.int .i64 ((g s).getD 0)))
    {ss : List (List UInt8)} (hp : ss.Perm (strKeys D)) : IsKeys g (ss.map barr) ∧ (ss.map barr).length = N := by
  obtain ⟨hnd, hmem, hlen⟩ := strKeys_facts h1
  have hle := strKeys_le h1 Try.underlying9
  refine ⟨⟨?_, fun s => ?_⟩, by rw [List.length_map, hp.length_eq, hlen, h2]⟩
  · exact List.pairwise_map.2 ((hp.symm.nodup hnd).imp fun hne e => hne (barr_inj e))
  · rw [List.mem_map]
    constructor
    · rintro ⟨x, hx, rfl⟩
      have hx' := hp.mem_iff.1 hx
      have hl := hle x hx'
      refine ⟨by rw [barr_size]; exact hl, ?_⟩
      rw [← (h3 (barr x) (by rw [barr_size]; exact hl)).1]
      simpa [barr] using (hmem x).1 hx'
    · rintro ⟨hs, hg⟩
      refine ⟨s.data.toList, hp.mem_iff.2 ((hmem _).2 ?_), rfl⟩
      rw [(h3 s hs).1]; exact hg

/-- The keys, as a list of the map alone. -/
theorem SM.keys {w : World} {b N : Nat} {g : ByteArray → Option Int} (h : SM w b N g) : ∃ ks, IsKeys g ks ∧ ks.length = N := by
  obtain ⟨D, h1, h2, h3⟩ := h
  exact ⟨_, keys_of_perm h1 h2 h3 (List.Perm.refl _)⟩
theorem IsKeys.length {g g' : ByteArray → Option Int} {ks ks' : List ByteArray} (h : IsKeys g ks) (h' : IsKeys g' ks') (hg : ∀ s : ByteArray, s.size ≤ maxLen → ((g s).isSome = (g' s).isSome)) : ks.length = ks'.length :=
  ((List.perm_ext_iff_of_nodup h.1 h'.1).2 fun s => by
    rw [h.2 s, h'.2 s]
    exact ⟨fun ⟨a, b⟩ => ⟨a, by rw [← hg s a]; exact b⟩, fun ⟨a, b⟩ => ⟨a, by rw [hg s a]; exact b⟩⟩).length_eq
theorem SM.congr {w : World} {b N : Nat} {g g' : ByteArray → Option Int} (h : SM w b N g) (hg : ∀ s : ByteArray, s.size ≤ maxLen → g' s = g s) : SM w b N g' := by
  obtain ⟨D, h1, h2, h3⟩ := h
  exact ⟨D, h1, h2, fun s hs => by rw [hg s hs]; exact h3 s hs⟩

/-- maps.Keys at a map. -/
theorem maps_keys (mb : Option Nat) (w : World) :
    Calls Try.prog 94 #[.map mb] w fun e w' => e = .returned (.func (.func 106) #[] #[.pointer (some ⟨w.heap.size, 0, none⟩)]) ∧ w' = w.alloc (.cells #[.map mb] 118) :=
  (callsIn_wide (n := 5)).1 (AnyZ.keys_in Try.layKeys Fence.wide 5 trivial rfl mb w)

/-- What it gives, over a map. -/
theorem keys_gives (b N : Nat) (w : World) (D : DataW Unit) (n : Nat) (hn : 1 ≤ n) (hown : w.ownsMap Try.prog 9 (plainElem Try.prog 3) b N D) :
    SeqGives Fence.wide n Try.prog 106 #[.pointer (some ⟨w.heap.size, 0, none⟩)] encStr (fun ss => ss.Perm (strKeys D)) (Maps.size D) (w.alloc (.cells #[.map (some b)] 118)) := by
  have hbl := hown.lt
  refine AnyZ.keys_gives (ρ := Try.layKeys_ren) (R := plainElem Try.prog 3) { Try.layKeys with } Fence.wide n trivial rfl hn w.heap.size b N D _ (by simp) (by simp) ?_
  obtain ⟨es, clock, hb, Ft, hs, hD⟩ := hown
  exact ⟨es, clock, (Below.heap_alloc _ _ b hbl).trans hb, Ft, hs, hD⟩

def CollectPost (w1 : World) (N : Nat) (g : ByteArray → Option Int) (e : Ending) (w' : World) : Prop :=
  ∃ (v : Value) (ks : List ByteArray), e = .returned v ∧ IsKeys g ks ∧ ks.length = N ∧ w'.ownsRow w1.heap.size 9 1 v N (ks.map .string) ∧ Below w1.heap.size w1 w'

set_option maxHeartbeats 1000000 in
/-- slices.Collect at what maps.Keys handed back ('w': ahead of maps.Keys). -/
theorem keys_collect (b N : Nat) (g : ByteArray → Option Int) (w : World) (h : SM w b N g) (hN : N ≤ 1000000) :
    Calls Try.prog 96 #[.func (.func 106) #[] #[.pointer (some ⟨w.heap.size, 0, none⟩)]] (w.alloc (.cells #[.map (some b)] 118)) (CollectPost (w.alloc (.cells #[.map (some b)] 118)) N g) := by
  obtain ⟨D, h1, h2, h3⟩ := h
  have hc := (callsIn_wide (n := 5)).1 (AnyZ.collect_in Try.layCollect Fence.wide 5 trivial trivial rfl (by omega) 106 #[.pointer (some ⟨w.heap.size, 0, none⟩)] trivial (Go.Proofs.enters_of Try.func106 (by kernel_rfl) rfl) _ (Maps.size D) (by rw [h2]; unfold maxLen; omega) (by rw [h2]; omega) _ (keys_gives b N w D _ (by omega) h1))
  refine hc.mono ?_
  rintro e w' ⟨v, ss, rfl, hS, hrow, -, hb⟩
  obtain ⟨hk, hl⟩ := keys_of_perm h1 h2 h3 hS
  refine ⟨v, ss.map barr, rfl, hk, hl, ?_, hb⟩
  rw [List.length_map] at hl
  rw [← encStr_barr, ← hl]
  exact hrow
end Go.Proofs.Ytbbekgliaedigaa

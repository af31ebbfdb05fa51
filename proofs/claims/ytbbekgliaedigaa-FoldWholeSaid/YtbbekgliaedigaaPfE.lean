/- Rows of pairs by rising keys: what is put, what is found (no program). -/
import Derived.Test.YtbbekgliaedigaaPfD
import Derived.Test.YtbbekgliaedigaaKeyA
import Derived.Sort.Walk0
namespace Go.Proofs.Ytbbekgliaedigaa
open Go.RowKit

theorem pf.lt_iff (s t : ByteArray) : pf.lt s t = true ↔ s.toList < t.toList := by unfold pf.lt; rw [bytesLess_eq]; simp
theorem pf.lt_irrefl (s : ByteArray) : pf.lt s s = false := by
  rw [Bool.eq_false_iff]
  intro h
  exact List.lt_irrefl _ ((pf.lt_iff s s).1 h)
theorem pf.lt_trans {s t u : ByteArray} (h : pf.lt s t = true) (g : pf.lt t u = true) : pf.lt s u = true := (pf.lt_iff _ _).2 (List.lt_trans ((pf.lt_iff _ _).1 h) ((pf.lt_iff _ _).1 g))
theorem pf.toList_inj {s t : ByteArray} (h : s.toList = t.toList) : s = t := by
  rw [ByteArray.toList_eq, ByteArray.toList_eq] at h
  exact ByteArray.ext (Array.ext' h)
theorem pf.eq_of {s t : ByteArray} (h : pf.lt s t = false) (g : pf.lt t s = false) : s = t := by
  have h' : ¬ s.toList < t.toList := fun e => by rw [(pf.lt_iff s t).2 e] at h; cases h
  have g' : ¬ t.toList < s.toList := fun e => by rw [(pf.lt_iff t s).2 e] at g; cases g
  exact pf.toList_inj (List.le_antisymm (List.not_lt.1 g') (List.not_lt.1 h'))
theorem pf.lt_ne {s t : ByteArray} (h : pf.lt s t = true) : s ≠ t := fun e => by rw [e, pf.lt_irrefl] at h; cases h
/-- Keys rise. -/
abbrev Rises (l : List PItm) : Prop := l.Pairwise fun x y => pf.lt x.key y.key = true
theorem take_while_take {α : Type} (p : α → Bool) : ∀ (l : List α), l.take (l.takeWhile p).length = l.takeWhile p
  | [] => rfl
  | x :: l => by
    by_cases h : p x = true
    · rw [List.takeWhile_cons_of_pos h, List.length_cons, List.take_succ_cons, take_while_take p l]
    · rw [List.takeWhile_cons_of_neg h]; rfl
theorem mem_while {α : Type} (p : α → Bool) : ∀ (l : List α) (x : α), x ∈ l.takeWhile p → p x = true
  | [], _, h => by cases h
  | y :: l, x, h => by
    by_cases hp : p y = true
    · rw [List.takeWhile_cons_of_pos hp] at h
      rcases List.mem_cons.1 h with rfl | h
      · exact hp
      · exact mem_while p l x h
    · rw [List.takeWhile_cons_of_neg hp] at h; cases h
theorem pf.take_lt (l : List PItm) (s : ByteArray) : ∀ x ∈ l.take (pf.place l s), pf.lt x.key s = true := by
  intro x hx
  unfold pf.place at hx
  rw [take_while_take] at hx
  exact mem_while (fun y : PItm => pf.lt y.key s) _ _ hx
/-- What stands behind the place. -/
theorem pf.drop_gt {l : List PItm} (h : Rises l) (s : ByteArray) : ∀ x ∈ l.drop (pf.place l s + if pf.has l s then 1 else 0), pf.lt s x.key = true := by
  intro x hx
  obtain ⟨i, hi⟩ := List.getElem?_of_mem hx
  rw [List.getElem?_drop] at hi
  obtain ⟨y, hy⟩ : ∃ y, l[pf.place l s]? = some y := by
    have : pf.place l s < l.length := by have := (List.getElem?_eq_some_iff.1 hi).1; split at this <;> omega
    exact ⟨_, List.getElem?_eq_getElem this⟩
  have hstep := (while_step (fun y : PItm => pf.lt y.key s) l (pf.place l s) y (Nat.le_refl _) hy)
  have hny : pf.lt y.key s = false := by
    rw [Bool.eq_false_iff]
    intro e
    have h1 := hstep.1 e
    have h2 : (l.takeWhile fun y : PItm => pf.lt y.key s).length = pf.place l s := rfl
    omega
  have hle : ∀ j, pf.place l s < j → l[j]? = some x → pf.lt y.key x.key = true := fun j hj hx => by
    obtain ⟨a1, a2⟩ := List.getElem?_eq_some_iff.1 hy
    obtain ⟨b1, b2⟩ := List.getElem?_eq_some_iff.1 hx
    have := List.pairwise_iff_getElem.1 h _ _ a1 b1 hj
    rw [a2, b2] at this
    exact this
  cases hh : pf.has l s with
  | true =>
    rw [hh, if_pos rfl] at hi
    have hk : y.key = s := by
      unfold pf.has at hh
      rw [hy] at hh
      exact pf.toList_inj (by simpa using hh)
    have := hle _ (by omega) hi
    rwa [hk] at this
  | false =>
    rw [hh] at hi
    have hk : y.key ≠ s := fun e => by
      unfold pf.has at hh
      rw [hy] at hh
      simp [e] at hh
    have hys : pf.lt s y.key = true := by
      rw [← Bool.not_eq_false]
      intro e
      exact hk (pf.eq_of hny e)
    simp only [Bool.false_eq_true, if_false, Nat.add_zero] at hi
    by_cases hi0 : i = 0
    · subst hi0
      rw [Nat.add_zero, hy] at hi
      cases hi
      exact hys
    · exact pf.lt_trans hys (hle _ (by omega) hi)
theorem pf.has_key {l : List PItm} {s : ByteArray} {y : PItm} (h : pf.has l s = true) (hy : l[pf.place l s]? = some y) : y.key = s := by
  unfold pf.has at h
  rw [hy] at h
  exact pf.toList_inj (by simpa using h)
theorem pf.has_mem {l : List PItm} (h : Rises l) {s : ByteArray} : pf.has l s = true ↔ ∃ y ∈ l, y.key = s := by
  constructor
  · intro hh
    obtain ⟨y, hy⟩ := pf.has_at hh
    exact ⟨y, List.mem_of_getElem? hy, pf.has_key hh hy⟩
  · rintro ⟨y, hy, hk⟩
    rw [← Bool.not_eq_false]
    intro hh
    have hd := pf.drop_gt h s
    rw [hh] at hd
    rw [← List.take_append_drop (pf.place l s) l] at hy
    rcases List.mem_append.1 hy with hy | hy
    · exact pf.lt_ne (pf.take_lt l s y hy) hk
    · exact pf.lt_ne (hd y (by simpa using hy)) hk.symm
theorem pf.key_once {l : List PItm} (h : Rises l) {x y : PItm} (hx : x ∈ l) (hy : y ∈ l) (hk : x.key = y.key) : x = y := by
  obtain ⟨i, hi⟩ := List.getElem?_of_mem hx
  obtain ⟨j, hj⟩ := List.getElem?_of_mem hy
  obtain ⟨a1, a2⟩ := List.getElem?_eq_some_iff.1 hi
  obtain ⟨b1, b2⟩ := List.getElem?_eq_some_iff.1 hj
  rcases Nat.lt_trichotomy i j with hh | hh | hh
  · have := List.pairwise_iff_getElem.1 h i j a1 b1 hh
    rw [a2, b2] at this
    exact absurd hk (pf.lt_ne this)
  · subst hh; rw [← a2, ← b2]
  · have := List.pairwise_iff_getElem.1 h j i b1 a1 hh
    rw [a2, b2] at this
    exact absurd hk.symm (pf.lt_ne this)
theorem pf.look_mem {l : List PItm} (h : Rises l) {x : PItm} (hx : x ∈ l) : pf.look l x.key = some x.off := by
  have hh := (pf.has_mem h (s := x.key)).2 ⟨x, hx, rfl⟩
  obtain ⟨y, hy⟩ := pf.has_at hh
  have := pf.key_once h (List.mem_of_getElem? hy) hx (pf.has_key hh hy)
  subst this
  unfold pf.look
  rw [hh, hy]
theorem pf.look_none {l : List PItm} (h : Rises l) {s : ByteArray} (hn : ∀ y ∈ l, y.key ≠ s) : pf.look l s = none := by
  have hh : pf.has l s = false := by
    rw [Bool.eq_false_iff]
    intro e
    obtain ⟨y, hy, hk⟩ := (pf.has_mem h).1 e
    exact hn y hy hk
  unfold pf.look
  rw [hh]
theorem pf.look_some {l : List PItm} {s : ByteArray} : (pf.look l s).isSome = pf.has l s := by
  unfold pf.look
  cases hh : pf.has l s with
  | false => rfl
  | true =>
    obtain ⟨y, hy⟩ := pf.has_at hh
    rw [hy]
    rfl
theorem pf.put_rises {l : List PItm} (h : Rises l) (x : PItm) : Rises (pf.put l x) := by
  unfold pf.put
  rw [List.append_assoc]
  refine List.pairwise_append.2 ⟨h.sublist (List.take_sublist _ _), List.pairwise_cons.2 ⟨fun y hy => pf.drop_gt h _ y (by simpa using hy), h.sublist (List.drop_sublist _ _)⟩, fun a ha b hb => ?_⟩
  have h1 := pf.take_lt l x.key a ha
  rcases List.mem_cons.1 hb with rfl | hb
  · exact h1
  · exact pf.lt_trans h1 (pf.drop_gt h _ b (by simpa using hb))
theorem pf.put_has {l : List PItm} {x y : PItm} (hy : y ∈ l) (hk : y.key ≠ x.key) : y ∈ pf.put l x := by
  unfold pf.put
  rw [← List.take_append_drop (pf.place l x.key) l] at hy
  rcases List.mem_append.1 hy with hy | hy
  · exact List.mem_append.2 (.inl (List.mem_append.2 (.inl hy)))
  · refine List.mem_append.2 (.inr ?_)
    cases hh : pf.has l x.key with
    | false => simpa using hy
    | true =>
      obtain ⟨z, hz⟩ := pf.has_at hh
      obtain ⟨z1, z2⟩ := List.getElem?_eq_some_iff.1 hz
      rw [List.drop_eq_getElem_cons z1, z2] at hy
      rcases List.mem_cons.1 hy with rfl | hy
      · exact absurd (pf.has_key hh hz) hk
      · simpa using hy
theorem pf.look_put {l : List PItm} (h : Rises l) (x : PItm) (u : ByteArray) : pf.look (pf.put l x) u = if u = x.key then some x.off else pf.look l u := by
  have hr := pf.put_rises h x
  by_cases hu : u = x.key
  · rw [if_pos hu, hu]
    exact pf.look_mem hr (by unfold pf.put; simp)
  · rw [if_neg hu]
    by_cases he : ∃ y ∈ l, y.key = u
    · obtain ⟨y, hy, rfl⟩ := he
      rw [pf.look_mem h hy, pf.look_mem hr (pf.put_has hy hu)]
    · rw [pf.look_none h fun y hy e => he ⟨y, hy, e⟩]
      refine pf.look_none hr fun y hy e => ?_
      rcases pf.put_mem hy with rfl | hy
      · exact hu e.symm
      · exact he ⟨y, hy, e⟩
theorem pf.put_len {l : List PItm} (x : PItm) : (pf.put l x).length = l.length + if pf.has l x.key then 0 else 1 := by
  have hp := pf.place_le l x.key
  unfold pf.put
  rw [List.length_append, List.length_append, List.length_take, List.length_drop, List.length_singleton]
  cases hh : pf.has l x.key with
  | false => simp; omega
  | true =>
    obtain ⟨z, hz⟩ := pf.has_at hh
    have := (List.getElem?_eq_some_iff.1 hz).1
    simp; omega

/-- The program's map and the document's. -/
structure MapIs (N : Nat) (g : ByteArray → Option Int) (l : List PItm) : Prop where
  len : N = l.length
  rises : Rises l
  look : ∀ s, g s = pf.look l s
theorem MapIs.nil : MapIs 0 (fun _ => none) [] := ⟨rfl, List.Pairwise.nil, fun _ => rfl⟩
theorem MapIs.can {N : Nat} {g : ByteArray → Option Int} {l : List PItm} (h : MapIs N g l) (most : Int) (s : ByteArray) : key.can N most g s = pf.can l most s := by
  unfold key.can pf.can
  rw [h.look s, pf.look_some, h.len]
theorem MapIs.offer {N : Nat} {g : ByteArray → Option Int} {l : List PItm} (h : MapIs N g l) (most : Int) (x : PItm) : MapIs (key.cnt N most g x.key) (key.put N most g x.key x.off) (pf.offer l most x) := by
  have hs : (g x.key).isSome = pf.has l x.key := by rw [h.look, pf.look_some]
  cases hh : pf.has l x.key with
  | true =>
    rw [hh] at hs
    obtain ⟨y, hy⟩ := pf.has_at hh
    have hg : g x.key = some y.off := by rw [h.look]; unfold pf.look; rw [hh, hy]
    have hc : pf.can l most x.key = true := by unfold pf.can; rw [hh]; rfl
    have ho : pf.offer l most x = pf.put l { x with off := max x.off y.off } := by unfold pf.offer; rw [if_pos hc]; unfold pf.raise; rw [hh, hy]
    rw [ho]
    refine ⟨?_, pf.put_rises h.rises _, fun u => ?_⟩
    · unfold key.cnt
      rw [if_pos hs, pf.put_len]
      show N = l.length + if pf.has l x.key then 0 else 1
      rw [hh, h.len]
      rfl
    · rw [pf.look_put h.rises]
      show key.put N most g x.key x.off u = if u = x.key then some (max x.off y.off) else pf.look l u
      unfold key.put
      rw [hg]
      show (if y.off < x.off then upd g x.key x.off else g) u = _
      by_cases hu : u = x.key
      · rw [if_pos hu, hu]
        split
        · unfold upd; rw [if_pos rfl]; congr 1; omega
        · rw [hg]; congr 1; omega
      · rw [if_neg hu, ← h.look]
        split
        · unfold upd; rw [if_neg hu]
        · rfl
  | false =>
    rw [hh] at hs
    have hg : g x.key = none := by cases e : g x.key with | none => rfl | some _ => rw [e] at hs; cases hs
    by_cases hroom : (N : Int) < most
    · have hc : pf.can l most x.key = true := by unfold pf.can; rw [← h.len]; simpa using .inr hroom
      have ho : pf.offer l most x = pf.put l x := by unfold pf.offer; rw [if_pos hc]; unfold pf.raise; rw [hh]
      rw [ho]
      refine ⟨?_, pf.put_rises h.rises _, fun u => ?_⟩
      · unfold key.cnt
        rw [if_neg (by rw [hs]; decide), if_pos hroom, pf.put_len, hh, h.len]
        rfl
      · rw [pf.look_put h.rises]
        unfold key.put
        rw [hg]
        show (if (N : Int) < most then upd g x.key x.off else g) u = _
        rw [if_pos hroom]
        unfold upd
        split
        · rfl
        · exact h.look u
    · have hc : pf.can l most x.key = false := by unfold pf.can; rw [hh, ← h.len]; simpa using hroom
      have ho : pf.offer l most x = l := by unfold pf.offer; rw [if_neg (by rw [hc]; decide)]
      rw [ho]
      refine ⟨?_, h.rises, fun u => ?_⟩
      · unfold key.cnt
        rw [if_neg (by rw [hs]; decide), if_neg hroom, h.len]
      · unfold key.put
        rw [hg]
        show (if (N : Int) < most then upd g x.key x.off else g) u = _
        rw [if_neg hroom]
        exact h.look u
end Go.Proofs.Ytbbekgliaedigaa

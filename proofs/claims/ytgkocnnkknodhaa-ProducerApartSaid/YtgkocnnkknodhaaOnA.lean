/- ProducerOnce: what a producer's row holds behind so many batches, one behind the other. -/
import Derived.Test.YtgkocnnkknodhaaPrE
namespace Go.Proofs.Ytgkocnnkknodhaa
open Go.RowKit

/-- The first number of batch k. -/
def once.sq (cn : List Nat) (k : Nat) : Nat := (cn.take k).sum
def once.S (cn : List Nat) (k : Nat) : Sent := ⟨once.sq cn k, cn.getD k 0, once.sq cn k⟩
def once.sents (cn : List Nat) (m : Nat) : List Sent := (List.range m).map (once.S cn)
def once.fit (cn : List Nat) : Prop := ∀ n ∈ cn, 1 ≤ n ∧ n ≤ 9

theorem once.sq_succ (cn : List Nat) (k : Nat) : once.sq cn (k + 1) = once.sq cn k + cn.getD k 0 := by
  unfold once.sq
  by_cases h : k < cn.length
  · rw [List.take_add_one, List.sum_append]
    simp [List.getD, List.getElem?_eq_getElem h]
  · rw [List.take_of_length_le (by omega), List.take_of_length_le (by omega)]
    simp [List.getD, List.getElem?_eq_none (show cn.length ≤ k by omega)]
theorem once.get (cn : List Nat) (hf : once.fit cn) {k : Nat} (hk : k < cn.length) : 1 ≤ cn.getD k 0 ∧ cn.getD k 0 ≤ 9 := by
  have := hf (cn[k]) (List.getElem_mem hk)
  simpa [List.getD, List.getElem?_eq_getElem hk] using this
theorem once.sq_lt (cn : List Nat) (hf : once.fit cn) : ∀ (j k : Nat), j < k → k ≤ cn.length → once.sq cn j < once.sq cn k := by
  intro j k hjk
  induction k with
  | zero => omega
  | succ k ih =>
    intro hk
    rw [once.sq_succ]
    have := (once.get cn hf (k := k) (by omega)).1
    rcases Nat.lt_or_eq_of_le (Nat.le_of_lt_succ hjk) with h | rfl
    · have := ih h (by omega)
      omega
    · omega
theorem once.sq_le (cn : List Nat) (hf : once.fit cn) (k : Nat) (hk : k ≤ cn.length) : once.sq cn k ≤ 9 * k := by
  induction k with
  | zero => simp [once.sq]
  | succ k ih =>
    rw [once.sq_succ]
    have := (once.get cn hf (k := k) (by omega)).2
    have := ih (by omega)
    omega
theorem once.S_fit (cn : List Nat) (hf : once.fit cn) (k : Nat) (hk : k < cn.length) (hl : cn.length ≤ 20) : (once.S cn k).fit := by
  have h1 := once.sq_le cn hf k (by omega)
  have h2 := (once.get cn hf hk).2
  unfold once.S Sent.fit intOk
  dsimp only
  omega

theorem prod.window_snoc (l : List Sent) (s : Sent) : prod.window (prod.window l ++ [s]) = prod.window (l ++ [s]) := by
  unfold prod.window
  have e : List.drop (l.length - 5) l ++ [s] = List.drop (l.length - 5) (l ++ [s]) := by rw [List.drop_append_of_le_length (by omega)]
  rw [e, List.drop_drop]
  congr 1
  simp only [List.length_drop, List.length_append, List.length_singleton]
  omega
theorem once.sents_succ (cn : List Nat) (m : Nat) : once.sents cn (m + 1) = once.sents cn m ++ [once.S cn m] := by simp [once.sents, List.range_succ]
theorem once.sents_length (cn : List Nat) (m : Nat) : (once.sents cn m).length = m := by simp [once.sents]
theorem once.mem (cn : List Nat) (m : Nat) (x : Sent) : x ∈ prod.window (once.sents cn m) ↔ ∃ k, m - 5 ≤ k ∧ k < m ∧ x = once.S cn k := by
  unfold prod.window
  rw [List.mem_iff_getElem?]
  constructor
  · rintro ⟨i, hi⟩
    rw [List.getElem?_drop] at hi
    obtain ⟨h1, h2⟩ := List.getElem?_eq_some_iff.1 hi
    rw [once.sents_length] at h1
    refine ⟨m - 5 + i, by omega, h1, ?_⟩
    rw [← h2]
    simp [once.sents]
  · rintro ⟨k, h1, h2, rfl⟩
    refine ⟨k - (m - 5), ?_⟩
    rw [List.getElem?_drop, once.sents_length, show m - 5 + (k - (m - 5)) = k by omega]
    simp [once.sents, h2]
theorem find_only {l : List Sent} {p : Sent → Bool} {x : Sent} (hx : x ∈ l) (hp : p x = true) (h : ∀ y ∈ l, p y = true → y = x) : l.find? p = some x := by
  cases hf : l.find? p with
  | none => rw [List.find?_eq_none] at hf; exact absurd hp (hf x hx)
  | some y => rw [h y (List.mem_of_find?_eq_some hf) (List.find?_some hf)]

/-- The producer's row behind m batches. -/
def once.row (cn : List Nat) (m : Nat) : Option PRow := if m = 0 then none else some ⟨2, prod.window (once.sents cn m)⟩
theorem once.row_next (cn : List Nat) (m : Nat) : (⟨2, prod.window (once.sents cn (m + 1))⟩ : PRow).next = once.sq cn (m + 1) := by
  unfold PRow.next prod.window
  dsimp only
  rw [once.sents_length, once.sents_succ, List.drop_append_of_le_length (by rw [once.sents_length]; omega), List.getLast?_concat]
  unfold Sent.next once.S
  dsimp only
  rw [once.sq_succ]
  omega
theorem once.hit (cn : List Nat) (hf : once.fit cn) {k k' : Nat} (hk : k < cn.length) (hk' : k' < cn.length) : prod.hit (once.sq cn k) (cn.getD k 0) (once.S cn k') = true ↔ k' = k := by
  unfold prod.hit once.S
  dsimp only
  constructor
  · intro h
    simp only [Bool.and_eq_true, beq_iff_eq] at h
    rcases Nat.lt_trichotomy k k' with h' | h' | h'
    · have := once.sq_lt cn hf k k' h' (by omega); omega
    · exact h'.symm
    · have := once.sq_lt cn hf k' k h' (by omega); omega
  · rintro rfl
    simp

/-- What Check answers of batch k, behind m batches. -/
theorem once.chk (cn : List Nat) (hf : once.fit cn) (m k : Nat) (hm : m ≤ cn.length) (hk : k < cn.length) :
    prod.chk (once.row cn m) 3 2 (once.sq cn k) (cn.getD k 0) =
      if k = m then (0, false, 0) else if m < k then (0, false, 10) else if m - 5 ≤ k then ((once.sq cn k : Int), true, 0) else (0, false, 9) := by
  unfold prod.chk once.row
  rw [if_neg (by decide)]
  cases m with
  | zero =>
    rw [if_pos rfl]
    dsimp only
    by_cases h : k = 0
    · subst h; rw [if_pos rfl]; exact if_pos rfl
    · have := once.sq_lt cn hf 0 k (by omega) (by omega)
      rw [if_neg (show ¬ ((once.sq cn k : Nat) : Int) = 0 by omega), if_neg h, if_pos (show 0 < k by omega)]
  | succ m =>
    rw [if_neg (by omega)]
    dsimp only
    rw [if_neg (by omega), if_neg (by omega), once.row_next]
    by_cases h : k = m + 1
    · subst h; rw [if_pos rfl, if_pos rfl]
    · rw [if_neg h]
      by_cases h2 : m + 1 < k
      · have hlt := once.sq_lt cn hf (m + 1) k h2 (by omega)
        rw [if_pos h2, if_neg (by omega)]
        have hn : (prod.window (once.sents cn (m + 1))).find? (prod.hit (once.sq cn k) (cn.getD k 0)) = none := by
          rw [List.find?_eq_none]
          intro x hx hh
          obtain ⟨k', _, h3, rfl⟩ := (once.mem cn (m + 1) x).1 hx
          have := (once.hit cn hf hk (show k' < cn.length by omega)).1 hh
          omega
        rw [hn]
        dsimp only
        rw [if_neg (by omega)]
      · have hlt := once.sq_lt cn hf k (m + 1) (by omega) hm
        rw [if_neg h2, if_neg (by omega)]
        by_cases h3 : m + 1 - 5 ≤ k
        · rw [if_pos h3]
          have hn : (prod.window (once.sents cn (m + 1))).find? (prod.hit (once.sq cn k) (cn.getD k 0)) = some (once.S cn k) := by
            refine find_only ((once.mem cn (m + 1) _).2 ⟨k, h3, by omega, rfl⟩) ((once.hit cn hf hk hk).2 rfl) fun y hy hh => ?_
            obtain ⟨k', _, h4, rfl⟩ := (once.mem cn (m + 1) y).1 hy
            rw [(once.hit cn hf hk (show k' < cn.length by omega)).1 hh]
          rw [hn]
          rfl
        · rw [if_neg h3]
          have hn : (prod.window (once.sents cn (m + 1))).find? (prod.hit (once.sq cn k) (cn.getD k 0)) = none := by
            rw [List.find?_eq_none]
            intro x hx hh
            obtain ⟨k', h4, h5, rfl⟩ := (once.mem cn (m + 1) x).1 hx
            have := (once.hit cn hf hk (show k' < cn.length by omega)).1 hh
            omega
          rw [hn]
          dsimp only
          rw [if_pos (by omega)]
/-- The row behind one more. -/
theorem once.step (cn : List Nat) (m : Nat) : prod.row (once.row cn m) 2 (once.S cn m) = ⟨2, prod.window (once.sents cn (m + 1))⟩ := by
  unfold prod.row once.row
  rw [once.sents_succ]
  cases m with
  | zero => simp [prod.base, once.sents]
  | succ m =>
    rw [if_neg (by omega)]
    unfold prod.base
    dsimp only
    rw [if_pos rfl, prod.window_snoc]

theorem PTab.cut {w : World} {t N : Nat} {g : Int → Option PRow} {Bs : Nat → Prop} (h : PTab w t N g Bs) : PTab w t N g (fun k => Bs k ∧ k < w.heap.size) := by
  obtain ⟨b, gv, h1, h2, h3, h4, h5⟩ := h
  refine ⟨b, gv, h1, h2, ⟨h3.none', fun x r hx hr => ?_, h3.apart⟩, ⟨h4, h1.lt⟩, h5, h2.lt⟩
  obtain ⟨q1, v, q2, q3, q4⟩ := h3.row x r hx hr
  exact ⟨q1, v, q2, q3, fun k hk => ⟨q4 k hk, (q3.lt k hk).2⟩⟩
theorem PTab.congr {w : World} {t N : Nat} {g g' : Int → Option PRow} {Bs : Nat → Prop} (h : PTab w t N g Bs) (hg : ∀ x, g' x = g x) : PTab w t N g' Bs := by
  obtain rfl : g' = g := funext hg
  exact h
end Go.Proofs.Ytgkocnnkknodhaa

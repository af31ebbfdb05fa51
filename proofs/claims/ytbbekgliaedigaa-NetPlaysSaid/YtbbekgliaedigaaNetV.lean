/- The document's own net in plain words. -/
import Derived.Test.YtbbekgliaedigaaNetU
namespace Go.Proofs.Ytbbekgliaedigaa
open Go.RowKit
set_option maxRecDepth 20000

/-- The document's net at q: its last number, and what waits. -/
def RefS (w0 w : World) (q last : Nat) (S : List (Int × List Nat)) : Prop := ∃ l, RefAt w0 w q last l ∧ ref.says l = S
abbrev Apart (S : List (Int × List Nat)) : Prop := S.Pairwise fun x y => x.1 ≠ y.1
theorem ref.at_says {l : List RItm} {i : Nat} {x : RItm} (h : l[i]? = some x) : (ref.says l)[i]? = some (x.id, x.bs) := by unfold ref.says; rw [List.getElem?_map, h]; rfl
theorem ref.same {S : List (Int × List Nat)} (hp : Apart S) {i j : Nat} {k : Int} {L M : List Nat} (h1 : S[i]? = some (k, L)) (h2 : S[j]? = some (k, M)) : i = j := by
  obtain ⟨a1, a2⟩ := List.getElem?_eq_some_iff.1 h1
  obtain ⟨b1, b2⟩ := List.getElem?_eq_some_iff.1 h2
  rcases Nat.lt_trichotomy i j with hh | hh | hh
  · have := List.pairwise_iff_getElem.1 hp i j a1 b1 hh
    rw [a2, b2] at this
    exact absurd rfl this
  · exact hh
  · have := List.pairwise_iff_getElem.1 hp j i b1 a1 hh
    rw [a2, b2] at this
    exact absurd rfl this
theorem ref.hit {l : List RItm} (hp : Apart (ref.says l)) {k : Int} {L : List Nat} (h : (k, L) ∈ ref.says l) : ∃ (i : Nat) (x : RItm), ref.place l k = (i : Int) ∧ l[i]? = some x ∧ x.id = k ∧ x.bs = L := by
  obtain ⟨y, hy, he⟩ := List.mem_map.1 h
  have e := Prod.mk.inj he
  obtain ⟨i, x, h1, h2, h3, -⟩ := ref.place_some (l := l) (k := k) ⟨y, hy, e.1⟩
  refine ⟨i, x, h1, h2, h3, ?_⟩
  obtain ⟨j, hj⟩ := List.getElem?_of_mem hy
  have a := ref.at_says h2
  have b := ref.at_says hj
  rw [h3] at a
  rw [e.1] at b
  have := ref.same hp a b
  subst this
  rw [h2] at hj
  obtain rfl : x = y := by simpa using hj
  exact e.2
theorem ref.miss {l : List RItm} {k : Int} (h : ∀ y ∈ ref.says l, y.1 ≠ k) : ∀ x ∈ l, x.id ≠ k := fun x hx => h (x.id, x.bs) (List.mem_map.2 ⟨x, hx, rfl⟩)
theorem ref.says_cut {l : List RItm} (hp : Apart (ref.says l)) {i : Nat} {x : RItm} (hx : l[i]? = some x) : ref.says (l.take i ++ l.drop (i + 1)) = (ref.says l).filter fun y => decide (y.1 ≠ x.id) := by
  obtain ⟨hi, hxe⟩ := List.getElem?_eq_some_iff.1 hx
  have e : ref.says l = (ref.says l).take i ++ (x.id, x.bs) :: (ref.says l).drop (i + 1) := by
    have h1 := ref.at_says hx
    obtain ⟨h2, h3⟩ := List.getElem?_eq_some_iff.1 h1
    conv => lhs; rw [← List.take_append_drop i (ref.says l), List.drop_eq_getElem_cons h2, h3]
  have e2 : ref.says (l.take i ++ l.drop (i + 1)) = (ref.says l).take i ++ (ref.says l).drop (i + 1) := by
    unfold ref.says
    rw [List.map_append, List.map_take, List.map_drop]
  rw [e2]
  rw [e] at hp
  obtain ⟨h1, h2, h3⟩ := List.pairwise_append.1 hp
  have h4 := (List.pairwise_cons.1 h2).1
  conv => rhs; rw [e, List.filter_append, List.filter_cons]
  rw [List.filter_eq_self.2, List.filter_eq_self.2]
  · simp
  · intro y hy
    simpa using (h4 y hy).symm
  · intro y hy
    simpa using h3 y hy (x.id, x.bs) (by simp)
theorem ref.says_swap {l : List RItm} (hp : Apart (ref.says l)) {i j : Nat} {x y : RItm} (hx : l[i]? = some x) (hy : l[j]? = some y) : ref.says ((l.set i y).set j x) = (ref.says l).map (net.tr x.id x.bs y.id y.bs) := by
  have sx := ref.at_says hx
  have sy := ref.at_says hy
  have hi := (List.getElem?_eq_some_iff.1 hx).1
  have hj := (List.getElem?_eq_some_iff.1 hy).1
  apply List.ext_getElem?
  intro k
  rw [List.getElem?_map]
  by_cases e1 : j = k
  · subst e1
    rw [ref.at_says (x := x) (by rw [List.getElem?_set_self (by rw [List.length_set]; exact hj)]), sy, Option.map_some]
    unfold net.tr
    dsimp only
    by_cases e : y.id = x.id
    · rw [e] at sy
      have := ref.same hp sx sy
      subst this
      rw [hx] at hy
      obtain rfl : x = y := by simpa using hy
      simp
    · rw [if_neg e]; simp
  · by_cases e2 : i = k
    · subst e2
      rw [ref.at_says (x := y) (by rw [List.getElem?_set_ne e1, List.getElem?_set_self hi]), sx, Option.map_some]
      unfold net.tr
      simp
    · have e3 : (ref.says ((l.set i y).set j x))[k]? = (ref.says l)[k]? := by
        unfold ref.says
        rw [List.getElem?_map, List.getElem?_map, List.getElem?_set_ne e1, List.getElem?_set_ne e2]
      rw [e3]
      cases hs : (ref.says l)[k]? with
      | none => rfl
      | some u =>
        rw [Option.map_some]
        unfold net.tr
        rw [if_neg, if_neg]
        · intro e
          exact e1 (ref.same hp sy (L := y.bs) (M := u.2) (by rw [hs, ← e]))
        · intro e
          exact e2 (ref.same hp sx (L := x.bs) (M := u.2) (by rw [hs, ← e]))

theorem ref.sendS (w0 : World) (q last : Nat) (S : List (Int × List Nat)) (X : Option Addr) (m c : Nat) (L : List Nat) (w : World) (h : RefS w0 w q last S) (hlast : last ≤ 100000000) (hl : L.length = m) (hm : m ≤ 1000000) (hat : At w0 X m (byteAt L)) :
    Calls Try.prog 63 #[.pointer (some ⟨q, 0, none⟩), .slice X m c] w fun e w' => e = .returned (.int .i64 ((last : Int) + 1)) ∧ RefS w0 w' q (last + 1) (S ++ [((last : Int) + 1, L)]) ∧ Chg w w' (fun k => k = q) := by
  obtain ⟨l, h1, rfl⟩ := h
  refine (ref.send_any w0 q last l X m c L w h1 hlast ⟨hl, hm, hat⟩).mono ?_
  rintro e w' ⟨rfl, h2, h3⟩
  exact ⟨rfl, ⟨_, h2, by unfold ref.says; rw [List.map_append]; rfl⟩, h3⟩
theorem ref.take_noS (w0 : World) (q last : Nat) (S : List (Int × List Nat)) (k : Int) (w : World) (h : RefS w0 w q last S) (hlast : last ≤ 1000000) (hno : ∀ y ∈ S, y.1 ≠ k) :
    Calls Try.prog 64 #[.pointer (some ⟨q, 0, none⟩), .int .i64 k] w fun e w' => e = .returned (.tuple #[.slice none 0 0, .int .i64 5]) ∧ w' = w := by
  obtain ⟨l, h1, rfl⟩ := h
  exact ref.take_no w0 q last l k w h1 (by omega) (ref.miss hno)
theorem ref.takeS (w0 : World) (q last : Nat) (S : List (Int × List Nat)) (k : Int) (L : List Nat) (w : World) (h : RefS w0 w q last S) (hlast : last ≤ 1000000) (hp : Apart S) (hk : (k, L) ∈ S) :
    Calls Try.prog 64 #[.pointer (some ⟨q, 0, none⟩), .int .i64 k] w fun e w' => ∃ A m c, e = .returned (.tuple #[.slice A m c, .int .i64 0]) ∧ L.length = m ∧ At w0 A m (byteAt L) ∧ RefS w0 w' q last (S.filter fun y => decide (y.1 ≠ k)) ∧ Chg w w' (fun k => k = q) := by
  obtain ⟨l, h1, rfl⟩ := h
  obtain ⟨i, x, h2, h3, rfl, rfl⟩ := ref.hit hp hk
  have hb : RefB w0 x := by
    obtain ⟨v, -, -, hbs, -⟩ := h1
    exact hbs x (List.mem_of_getElem? h3)
  refine (ref.take_some w0 q last l x.id w h1 hlast i x h2 h3).mono ?_
  rintro e w' ⟨rfl, h4, h5⟩
  exact ⟨_, _, _, rfl, hb.1, hb.2.2, ⟨_, h4, ref.says_cut hp h3⟩, h5⟩
theorem ref.double_noS (w0 : World) (q last : Nat) (S : List (Int × List Nat)) (k : Int) (w : World) (h : RefS w0 w q last S) (hlast : last ≤ 1000000) (hno : ∀ y ∈ S, y.1 ≠ k) :
    Calls Try.prog 65 #[.pointer (some ⟨q, 0, none⟩), .int .i64 k] w fun e w' => e = .returned (.tuple #[.int .i64 0, .int .i64 5]) ∧ w' = w := by
  obtain ⟨l, h1, rfl⟩ := h
  exact ref.double_no w0 q last l k w h1 (by omega) (ref.miss hno)
theorem ref.doubleS (w0 : World) (q last : Nat) (S : List (Int × List Nat)) (k : Int) (L : List Nat) (w : World) (h : RefS w0 w q last S) (hlast : last ≤ 1000000) (hp : Apart S) (hk : (k, L) ∈ S) :
    Calls Try.prog 65 #[.pointer (some ⟨q, 0, none⟩), .int .i64 k] w fun e w' => e = .returned (.tuple #[.int .i64 ((last : Int) + 1), .int .i64 0]) ∧ RefS w0 w' q (last + 1) (S ++ [((last : Int) + 1, L)]) ∧ Chg w w' (fun k => k = q) := by
  obtain ⟨l, h1, rfl⟩ := h
  obtain ⟨i, x, h2, h3, rfl, rfl⟩ := ref.hit hp hk
  refine (ref.double_some w0 q last l x.id w h1 hlast i x h2 h3).mono ?_
  rintro e w' ⟨rfl, h4, h5⟩
  exact ⟨rfl, ⟨_, h4, by unfold ref.says; rw [List.map_append]; rfl⟩, h5⟩
theorem ref.swap_noS (w0 : World) (q last : Nat) (S : List (Int × List Nat)) (a b : Int) (w : World) (h : RefS w0 w q last S) (hlast : last ≤ 1000000) (hno : (∀ y ∈ S, y.1 ≠ a) ∨ (∀ y ∈ S, y.1 ≠ b)) :
    Calls Try.prog 66 #[.pointer (some ⟨q, 0, none⟩), .int .i64 a, .int .i64 b] w fun e w' => e = .returned (.int .i64 5) ∧ w' = w := by
  obtain ⟨l, h1, rfl⟩ := h
  exact ref.swap_no w0 q last l a b w h1 (by omega) (hno.imp ref.miss ref.miss)
theorem ref.swapS (w0 : World) (q last : Nat) (S : List (Int × List Nat)) (a b : Int) (L M : List Nat) (w : World) (h : RefS w0 w q last S) (hlast : last ≤ 1000000) (hp : Apart S) (ha : (a, L) ∈ S) (hb : (b, M) ∈ S) :
    Calls Try.prog 66 #[.pointer (some ⟨q, 0, none⟩), .int .i64 a, .int .i64 b] w fun e w' => e = .returned (.int .i64 0) ∧ RefS w0 w' q last (S.map (net.tr a L b M)) ∧ Chg w w' (fun k => k = q) := by
  obtain ⟨l, h1, rfl⟩ := h
  obtain ⟨i, x, h2, h3, rfl, rfl⟩ := ref.hit hp ha
  obtain ⟨j, y, h4, h5, rfl, rfl⟩ := ref.hit hp hb
  have hs := ref.says_swap hp h3 h5
  by_cases hij : i = j
  · subst hij
    rw [h3] at h5
    obtain rfl : x = y := by simpa using h5
    refine (ref.swap_same w0 q last l x.id x.id w h1 hlast i x h2 h3 h2).mono ?_
    rintro e w' ⟨rfl, h6, h7⟩
    exact ⟨rfl, ⟨_, h6, hs⟩, h7⟩
  · refine (ref.swap_apart w0 q last l x.id y.id w h1 hlast i j x y h2 h3 h4 h5 hij).mono ?_
    rintro e w' ⟨rfl, h6, h7⟩
    exact ⟨rfl, ⟨_, h6, hs⟩, h7⟩
end Go.Proofs.Ytbbekgliaedigaa

/- net: Swap in plain words. -/
import Derived.Test.YtbbekgliaedigaaNetL
namespace Go.Proofs.Ytbbekgliaedigaa
open Go.RowKit
set_option maxRecDepth 20000

/-- Two entries change places. -/
def net.tr (a : Int) (L : List Nat) (b : Int) (M : List Nat) (y : Int × List Nat) : Int × List Nat := if y.1 = a then (b, M) else if y.1 = b then (a, L) else y
/-- The same of a line. -/
def net.trl (x y u : NItm) : NItm := if u.gone = false ∧ u.id = x.id then y else if u.gone = false ∧ u.id = y.id then x else u
theorem net.trl_gone {x y : NItm} (hx : x.gone = false) (hy : y.gone = false) (u : NItm) : (net.trl x y u).gone = u.gone := by
  unfold net.trl
  split
  · rename_i h; rw [hy, h.1]
  · split
    · rename_i h; rw [hx, h.1]
    · rfl
theorem NInv.swap_map {last : Nat} {l : List NItm} {g : Int → Option Value} (h : NInv last l g) {i j : Nat} {x y : NItm} (hx : l[i]? = some x) (hxg : x.gone = false) (hy : l[j]? = some y) (hyg : y.gone = false) : (l.set i y).set j x = l.map (net.trl x y) := by
  have gx := h.at' i x hx hxg
  have gy := h.at' j y hy hyg
  have same : ∀ (k : Nat) (u : NItm) (m : Nat) (v : NItm), l[k]? = some u → u.gone = false → l[m]? = some v → v.gone = false → u.id = v.id → k = m := fun k u m v h1 h2 h3 h4 e => by
    have a := (h.at' k u h1 h2).1
    rw [e, (h.at' m v h3 h4).1] at a
    simp at a
    omega
  have hi := (List.getElem?_eq_some_iff.1 hx).1
  have hj := (List.getElem?_eq_some_iff.1 hy).1
  apply List.ext_getElem?
  intro k
  rw [List.getElem?_map]
  by_cases e1 : j = k
  · subst e1
    rw [List.getElem?_set_self (by rw [List.length_set]; exact hj), hy, Option.map_some]
    unfold net.trl
    by_cases e : y.id = x.id
    · have := same j y i x hy hyg hx hxg e
      subst this
      rw [hx] at hy
      obtain rfl : x = y := by simpa using hy
      rw [if_pos ⟨hxg, rfl⟩]
    · rw [if_neg (fun q => e q.2), if_pos ⟨hyg, rfl⟩]
  · rw [List.getElem?_set_ne e1]
    by_cases e2 : i = k
    · subst e2
      rw [List.getElem?_set_self hi, hx, Option.map_some]
      unfold net.trl
      rw [if_pos ⟨hxg, rfl⟩]
    · rw [List.getElem?_set_ne e2]
      cases hu : l[k]? with
      | none => rfl
      | some u =>
        rw [Option.map_some]
        unfold net.trl
        rw [if_neg (fun q => e2 (same k u i x hu q.1 hx hxg q.2).symm), if_neg (fun q => e1 (same k u j y hu q.1 hy hyg q.2).symm)]
theorem net.says_map {x y : NItm} (hx : x.gone = false) (hy : y.gone = false) (l : List NItm) : net.says (l.map (net.trl x y)) = (net.says l).map (net.tr x.id x.bs y.id y.bs) := by
  unfold net.says net.left
  induction l with
  | nil => rfl
  | cons u l ih =>
    rw [List.map_cons, List.filter_cons, List.filter_cons, net.trl_gone hx hy]
    cases hu : u.gone with
    | true => simpa using ih
    | false =>
      simp only [Bool.not_false, if_true, List.map_cons]
      rw [ih]
      congr 1
      unfold net.trl net.tr
      dsimp only
      by_cases e : u.id = x.id
      · rw [if_pos ⟨hu, e⟩, if_pos e]
      · rw [if_neg (fun q => e q.2), if_neg e]
        by_cases e' : u.id = y.id
        · rw [if_pos ⟨hu, e'⟩, if_pos e']
        · rw [if_neg (fun q => e' q.2), if_neg e']

theorem net.swapS (B C p last : Nat) (S : List (Int × List Nat)) (a b : Int) (L M : List Nat) (w : World) (h : NetS B C w p last S) (hlast : last ≤ 100000000) (ha : (a, L) ∈ S) (hb : (b, M) ∈ S) :
    Calls Try.prog 60 #[.pointer (some ⟨p, 0, none⟩), .int .i64 a, .int .i64 b] w fun e w' => e = .returned (.int .i64 0) ∧ NetS B C w' p last (S.map (net.tr a L b M)) ∧ NChg B w w' := by
  obtain ⟨l, h1, rfl⟩ := h
  obtain ⟨i, x, hx, hxg, rfl, rfl⟩ := net.says_mem ha
  obtain ⟨j, y, hy, hyg, rfl, rfl⟩ := net.says_mem hb
  have hm : (l.set i y).set j x = l.map (net.trl x y) := by
    obtain ⟨rv, mb, N, g, -, -, -, -, hinv, -⟩ := h1
    exact hinv.swap_map hx hxg hy hyg
  have hs : net.says ((l.set i y).set j x) = (net.says l).map (net.tr x.id x.bs y.id y.bs) := by rw [hm, net.says_map hxg hyg]
  by_cases hij : i = j
  · subst hij
    rw [hx] at hy
    obtain rfl : x = y := by simpa using hy
    refine (net.swap_same B C p last i l x w h1 hlast hx hxg).mono ?_
    rintro e w' ⟨rfl, h2, h3⟩
    refine ⟨rfl, ⟨l, h2, ?_⟩, h3⟩
    rw [← hs]
    obtain ⟨h1, h2⟩ := List.getElem?_eq_some_iff.1 hx
    rw [List.set_set, ← h2, List.set_getElem_self]
  · refine (net.swap_some B C p last i j l x y w h1 hlast hx hxg hy hyg hij).mono ?_
    rintro e w' ⟨rfl, h2, h3⟩
    exact ⟨rfl, ⟨_, h2, hs⟩, h3⟩

theorem net.place_what (B C p last : Nat) (S : List (Int × List Nat)) (k : Int) (w : World) (h : NetS B C w p last S) (hlast : last ≤ 100000000) (hk : intOk k) :
    ∃ (m : Int) (q : Bool), (q = true → ∃ L, (k, L) ∈ S) ∧ Calls Try.prog 88 #[.pointer (some ⟨p, 0, none⟩), .int .i64 k] w fun e w' => e = .returned (.tuple #[.int .i64 m, .bool q]) ∧ w' = w := by
  obtain ⟨l, h1, rfl⟩ := h
  by_cases hh : ∃ L, (k, L) ∈ net.says l
  · obtain ⟨L, hL⟩ := hh
    obtain ⟨i, x, hx, hxg, rfl, rfl⟩ := net.says_mem hL
    exact ⟨i, true, fun _ => ⟨x.bs, hL⟩, net.place_has h1 hlast hx hxg⟩
  · refine ⟨0, false, (fun h => nomatch h), ?_⟩
    exact net.place_none h1 hk fun y hy e => hh ⟨y.2, by rw [← e]; exact hy⟩
theorem net.swap_no (B C p last : Nat) (S : List (Int × List Nat)) (a b : Int) (w : World) (h : NetS B C w p last S) (hlast : last ≤ 100000000) (ha : intOk a) (hb : intOk b) (hno : (∀ y ∈ S, y.1 ≠ a) ∨ (∀ y ∈ S, y.1 ≠ b)) :
    Calls Try.prog 60 #[.pointer (some ⟨p, 0, none⟩), .int .i64 a, .int .i64 b] w fun e w' => e = .returned (.int .i64 5) ∧ w' = w := by
  obtain ⟨m1, b1, hb1, hp1⟩ := net.place_what B C p last S a w h hlast ha
  obtain ⟨m2, b2, hb2, hp2⟩ := net.place_what B C p last S b w h hlast hb
  have hd : b1 = false ∨ b2 = false := by
    cases hq1 : b1 with
    | false => exact .inl rfl
    | true =>
      cases hq2 : b2 with
      | false => exact .inr rfl
      | true =>
        exfalso
        obtain ⟨L, hL⟩ := hb1 hq1
        obtain ⟨M, hM⟩ := hb2 hq2
        rcases hno with h | h
        · exact h _ hL rfl
        · exact h _ hM rfl
  clear hb1 hb2
  clear h hno
  rcases hd with rfl | rfl
  · go_enter Try.func60, Try.ntmps60
    go_wp2_with fail
    refine hp1.mono ?_
    rintro e w0 ⟨rfl, rfl⟩
    clear hp1
    go_wp2_with fail
    refine hp2.mono ?_
    rintro e w1 ⟨rfl, rfl⟩
    clear hp2
    go_wp2
    go_ret
    exact ⟨rfl, rfl⟩
  · cases b1 <;>
    · go_enter Try.func60, Try.ntmps60
      go_wp2_with fail
      refine hp1.mono ?_
      rintro e w0 ⟨rfl, rfl⟩
      clear hp1
      go_wp2_with fail
      refine hp2.mono ?_
      rintro e w1 ⟨rfl, rfl⟩
      clear hp2
      go_wp2
      go_ret
      exact ⟨rfl, rfl⟩
end Go.Proofs.Ytbbekgliaedigaa

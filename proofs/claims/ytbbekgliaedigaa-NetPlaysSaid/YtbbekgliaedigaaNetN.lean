/- The law NetOrder: what is so of the net between its steps. -/
import Derived.Test.YtbbekgliaedigaaNetM
import Derived.Test.YtbbekgliaedigaaNetI
import Derived.Test.YtbbekgliaedigaaInts
import Derived.WalkLawsBesides
import Derived.Outline
namespace Go.Proofs.Ytbbekgliaedigaa
open Go.RowKit
set_option maxRecDepth 20000

/-- Round as one fixed number. -/
theorem rnd.fix (k n : Int) (hk : -9223372036854775808 ≤ k ∧ k ≤ 9223372036854775807) (hn : 0 < n) (hn2 : n ≤ 1099511627776) :
    ∃ r : Nat, (r : Int) < n ∧ ∀ w, Calls Try.prog 61 #[.int .i64 k, .int .i64 n] w fun e w' => e = .returned (.int .i64 (r : Int)) ∧ w' = w := by
  obtain ⟨k1, k2⟩ := hk
  have h1 := Int.tmod_lt_of_pos k hn
  have h2 : -n < k.tmod n := by
    have := Int.tmod_lt_of_pos (-k) hn
    rw [Int.neg_tmod] at this; omega
  have hne : n ≠ 0 := by omega
  by_cases hneg : k.tmod n < 0
  · refine ⟨(k.tmod n + n).toNat, by omega, fun w => ?_⟩
    go_enter Try.func61, Try.ntmps61
    go_wp2
    go_ret
    exact ⟨ret_num (by omega), rfl⟩
  · refine ⟨(k.tmod n).toNat, by omega, fun w => ?_⟩
    go_enter Try.func61, Try.ntmps61
    go_wp2
    go_ret
    exact ⟨ret_num (by omega), rfl⟩

theorem tdiv_bd (x : Int) (n : Nat) (h1 : -9223372036854775808 ≤ x) (h2 : x ≤ 9223372036854775807) (hn : 2 ≤ n) : -9223372036854775808 ≤ x.tdiv n ∧ x.tdiv n ≤ 9223372036854775807 := by
  have key : ∀ y : Int, 0 ≤ y → 0 ≤ y.tdiv n ∧ y.tdiv n ≤ y := fun y hy => by
    rw [Int.tdiv_eq_ediv_of_nonneg hy]
    exact ⟨Int.ediv_nonneg hy (by omega), Int.ediv_le_self _ hy⟩
  by_cases h : 0 ≤ x
  · have := key x h
    omega
  · have := key (-x) (by omega)
    rw [Int.neg_tdiv] at this
    omega
/-- Numbers as values. -/
def ids (l : List Int) : List Value := l.map fun x => .int .i64 x
theorem ids_len (l : List Int) : (ids l).length = l.length := List.length_map _
/-- What waits behind so many Sends of the law. -/
def ord.S (k : Nat) : List (Int × List Nat) := (List.range k).map fun (j : Nat) => ((j : Int) + 1, [j + 1])
theorem ord.S_succ (k : Nat) : ord.S (k + 1) = ord.S k ++ [((k : Int) + 1, [k + 1])] := by unfold ord.S; rw [List.range_succ, List.map_append]; rfl
def ord.want (k : Nat) : List Int := (List.range k).map fun (j : Nat) => (j : Int) + 1
theorem ord.want_len (k : Nat) : (ord.want k).length = k := by simp [ord.want]
theorem ord.want_succ (k : Nat) : ord.want (k + 1) = ord.want k ++ [(k : Int) + 1] := by unfold ord.want; rw [List.range_succ, List.map_append]; rfl
/-- The net shows what is wanted, each with the byte of its number. -/
structure Ord (S : List (Int × List Nat)) (want : List Int) : Prop where
  ids : S.map Prod.fst = want
  ap : S.Pairwise fun x y => x.1 ≠ y.1
  byte : ∀ y ∈ S, y.2 = [y.1.toNat] ∧ 1 ≤ y.1 ∧ y.1 ≤ 30
theorem Ord.first {k : Nat} (hk : k ≤ 30) (hap : (ord.S k).Pairwise fun x y => x.1 ≠ y.1) : Ord (ord.S k) (ord.want k) := by
  refine ⟨by unfold ord.S ord.want; rw [List.map_map]; rfl, hap, fun y hy => ?_⟩
  obtain ⟨j, hj, rfl⟩ := List.mem_map.1 hy
  have := List.mem_range.1 hj
  refine ⟨?_, by dsimp only; omega, by dsimp only; omega⟩
  dsimp only
  rw [show ((j : Int) + 1).toNat = j + 1 by omega]
theorem Ord.len {S : List (Int × List Nat)} {want : List Int} (h : Ord S want) : S.length = want.length := by rw [← h.ids, List.length_map]
theorem Ord.at' {S : List (Int × List Nat)} {want : List Int} (h : Ord S want) {i : Nat} {k : Int} (hi : want[i]? = some k) : S[i]? = some (k, [k.toNat]) ∧ 1 ≤ k ∧ k ≤ 30 := by
  rw [← h.ids, List.getElem?_map] at hi
  cases hs : S[i]? with
  | none => rw [hs] at hi; cases hi
  | some y =>
    rw [hs] at hi
    obtain rfl : y.1 = k := by simpa using hi
    obtain ⟨h1, h2, h3⟩ := h.byte y (List.mem_of_getElem? hs)
    exact ⟨by rw [← h1], h2, h3⟩
theorem Ord.apart {S : List (Int × List Nat)} {want : List Int} (h : Ord S want) {i j : Nat} {k : Int} (hi : want[i]? = some k) (hj : want[j]? = some k) : i = j := by
  have hp : want.Pairwise (fun x y => x ≠ y) := by rw [← h.ids, List.pairwise_map]; exact h.ap
  obtain ⟨a1, a2⟩ := List.getElem?_eq_some_iff.1 hi
  obtain ⟨b1, b2⟩ := List.getElem?_eq_some_iff.1 hj
  rcases Nat.lt_trichotomy i j with hh | hh | hh
  · exact absurd (a2.trans b2.symm) (List.pairwise_iff_getElem.1 hp i j a1 b1 hh)
  · exact hh
  · exact absurd (b2.trans a2.symm) (List.pairwise_iff_getElem.1 hp j i b1 a1 hh)
theorem Ord.swap {S : List (Int × List Nat)} {want : List Int} (h : Ord S want) {i j : Nat} {a b : Int} (hi : want[i]? = some a) (hj : want[j]? = some b)
    (hap : (S.map (net.tr a [a.toNat] b [b.toNat])).Pairwise fun x y => x.1 ≠ y.1) : Ord (S.map (net.tr a [a.toNat] b [b.toNat])) ((want.set i b).set j a) := by
  have ha := h.at' hi
  have hb := h.at' hj
  refine ⟨?_, hap, fun y hy => ?_⟩
  · have hil := (List.getElem?_eq_some_iff.1 hi).1
    have hjl := (List.getElem?_eq_some_iff.1 hj).1
    apply List.ext_getElem?
    intro k
    rw [List.map_map, List.getElem?_map]
    by_cases e1 : j = k
    · subst e1
      rw [List.getElem?_set_self (by rw [List.length_set]; exact hjl), hb.1, Option.map_some]
      simp only [Function.comp, net.tr]
      by_cases e : b = a
      · rw [if_pos e]; exact congrArg some e
      · rw [if_neg e]; simp
    · rw [List.getElem?_set_ne e1]
      by_cases e2 : i = k
      · subst e2
        rw [List.getElem?_set_self hil, ha.1, Option.map_some]
        simp [Function.comp, net.tr]
      · rw [List.getElem?_set_ne e2, ← h.ids, List.getElem?_map]
        cases hs : S[k]? with
        | none => rfl
        | some y =>
          rw [Option.map_some, Option.map_some]
          have hw : want[k]? = some y.1 := by rw [← h.ids, List.getElem?_map, hs]; rfl
          simp only [Function.comp, net.tr]
          rw [if_neg (fun e : y.1 = a => e2 (h.apart hi (e ▸ hw))), if_neg (fun e : y.1 = b => e1 (h.apart hj (e ▸ hw)))]
  · obtain ⟨z, hz, rfl⟩ := List.mem_map.1 hy
    unfold net.tr
    split
    · exact ⟨rfl, hb.2⟩
    · split
      · exact ⟨rfl, ha.2⟩
      · exact h.byte z hz
theorem Ord.drop {S : List (Int × List Nat)} {want : List Int} (h : Ord S want) {i : Nat} {k : Int} (hi : want[i]? = some k) : (S.drop i).filter (fun y => decide (y.1 ≠ k)) = S.drop (i + 1) := by
  have hs := (h.at' hi).1
  obtain ⟨hil, hx⟩ := List.getElem?_eq_some_iff.1 hs
  rw [List.drop_eq_getElem_cons hil, hx, List.filter_cons]
  simp only [ne_eq, not_true_eq_false, decide_false, Bool.false_eq_true, if_false]
  rw [List.filter_eq_self]
  intro y hy
  obtain ⟨m, hm, rfl⟩ := List.getElem_of_mem hy
  rw [List.length_drop] at hm
  have := List.pairwise_iff_getElem.1 h.ap i (i + 1 + m) hil (by omega) (by omega)
  rw [hx] at this
  rw [List.getElem_drop]
  simpa using this.symm
/-- A row of numbers is none of a net's own. -/
theorem net.free_row {w : World} {C base n : Nat} {v : Value} {xs : List Value} (h : w.ownsRow base 3 1 v n xs) {k : Nat} (hk : v.ownBlock = some k) : NetFree C w k := by
  rcases h.2 with ⟨rfl, _⟩ | ⟨g, cap, cur, rfl, _, hg, _⟩
  · cases hk
  · obtain rfl : g = k := by simpa [Value.ownBlock] using hk
    exact ⟨_, _, _, hg, by decide, by decide, fun e => absurd e (by decide)⟩
theorem ids_cells {w : World} {base n g c i : Nat} {l : List Int} {x : Int} (h : w.ownsRow base 3 1 (.slice (some ⟨g, 0, none⟩) n c) n (ids l)) (hx : l[i]? = some x) : w.cell? ⟨g, i, none⟩ = some (.int .i64 x) ∧ g < w.heap.size ∧ w.frozen? ⟨g, i, none⟩ = false := by
  have hx' : (ids l)[i]? = some (.int .i64 x) := by unfold ids; rw [List.getElem?_map, hx]; rfl
  have := h.cells (g := g) rfl i _ hx'
  rw [add_none, Nat.zero_add] at this
  refine ⟨this, (h.lt g rfl).2, ?_⟩
  rcases h.2 with ⟨h1, -⟩ | ⟨g', cap, cur, h1, h3, h4, -⟩
  · cases h1
  · obtain ⟨rfl, rfl⟩ : g = g' ∧ c = cap := by simpa using h1
    exact Blk.frozen (T := 3) (cs := cur) h4 i
theorem ids_at {w : World} {base n : Nat} {v : Value} {l : List Int} (h : w.ownsRow base 3 1 v n (ids l)) : ∃ A c, v = .slice A n c ∧ At w A n (fun j => .int .i64 (l.getD j 0)) := by
  have hl : l.length = n := by have := h.1; rw [ids_len] at this; omega
  obtain ⟨A, c, rfl, -, hat⟩ := own_at h
  refine ⟨A, c, rfl, (Nat.mul_one n ▸ hat).congr fun j hj => ?_⟩
  unfold ids
  simp [List.getD, List.getElem?_eq_getElem (show j < l.length by omega)]
end Go.Proofs.Ytbbekgliaedigaa

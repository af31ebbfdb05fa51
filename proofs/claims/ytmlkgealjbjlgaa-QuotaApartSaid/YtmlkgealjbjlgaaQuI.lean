/- Contracts of quota.Clients and of the iterator that it hands back: who is known, each once. -/
import Derived.RangeFuncBox
import Derived.RangeFuncNested
import Derived.RangeFuncLeaves
import Derived.Shelf.Abstract
import Derived.OwnWalkIn
import Derived.TacticsInMore
import Derived.LoopNIn
import Derived.LoopIn
import Derived.Maps.AppendAt
import Derived.Test.YtmlkgealjbjlgaaQuA
import Derived.Test.YtmlkgealjbjlgaaMapO
namespace Go.Proofs.Ytmlkgealjbjlgaa
open Go.RowKit Go.Shelf
attribute [local go_sem] Oper.semAt_some

/-- The block of the row that lies in the box at Bv. -/
def boxRow (W : World) (Bv : Nat) : Option Nat := (W.cell? ⟨Bv, 0, none⟩).bind Value.ownBlock
/-- What a round keeps that gathers in the box at Bv: every block of cells but the box and the row in it. -/
def RowKp (Bv : Nat) (A B : World) : Prop :=
  A.heap.size ≤ B.heap.size ∧ (∀ k o, A.heap[k]? = some o → o.isCells = true → k ≠ Bv → boxRow A Bv ≠ some k → B.heap[k]? = some o) ∧ (boxRow B Bv = boxRow A Bv ∨ ∀ k, boxRow B Bv = some k → A.heap.size ≤ k)
theorem heap_lt {W : World} {k : Nat} {o : Obj} (h : W.heap[k]? = some o) : k < W.heap.size := (Array.getElem?_eq_some_iff.1 h).1
theorem RowKp.trans {Bv : Nat} {A B C : World} (h : RowKp Bv A B) (k : RowKp Bv B C) : RowKp Bv A C := by
  obtain ⟨h1, h2, h3⟩ := h
  obtain ⟨k1, k2, k3⟩ := k
  refine ⟨Nat.le_trans h1 k1, fun j o hj ho hne hb => ?_, ?_⟩
  · refine k2 j o (h2 j o hj ho hne hb) ho hne fun e => ?_
    rcases h3 with h3 | h3
    · exact hb (by rw [← h3]; exact e)
    · have := h3 j e
      have := heap_lt hj
      omega
  · rcases k3 with k3 | k3
    · rcases h3 with h3 | h3
      · exact .inl (k3.trans h3)
      · exact .inr fun j e => h3 j (by rw [← k3]; exact e)
    · exact .inr fun j e => Nat.le_trans h1 (k3 j e)
theorem boxRow_put {W : World} {Bv l : Nat} {o' : Obj} (h : l ≠ Bv) : boxRow (W.putObj l o') Bv = boxRow W Bv := by
  unfold boxRow World.cell?
  rw [World.putObj_heap_other (show Bv ≠ l from fun e => h e.symm)]
theorem RowKp.put {Bv : Nat} {W : World} {l : Nat} {o o' : Obj} (hl : W.heap[l]? = some o) (ho : o.isCells = false) (hne : l ≠ Bv) : RowKp Bv W (W.putObj l o') := by
  refine ⟨by simp, fun k x hk hx _ _ => ?_, .inl (boxRow_put hne)⟩
  by_cases e : k = l
  · subst e
    rw [hl] at hk
    cases hk
    rw [ho] at hx
    cases hx
  · rw [World.putObj_heap_other e]
    exact hk

/-- A row of texts that no round touches. -/
def RowAt (W : World) (Bv : Nat) (A : Option Addr) (ks : List ByteArray) : Prop :=
  0 < ks.length → ∃ g0 cur, A = some ⟨g0, 0, none⟩ ∧ W.heap[g0]? = some (.cells cur 9) ∧ g0 ≠ Bv ∧ boxRow W Bv ≠ some g0 ∧ ∀ j (h : j < ks.length), cur[j]? = some (.string ks[j])
theorem RowAt.next {W W' : World} {Bv : Nat} {A : Option Addr} {ks : List ByteArray} (h : RowAt W Bv A ks) (hk : RowKp Bv W W') : RowAt W' Bv A ks := fun hn => by
  obtain ⟨g0, cur, hA, hh, hne, hb, hc⟩ := h hn
  refine ⟨g0, cur, hA, hk.2.1 g0 _ hh rfl hne hb, hne, fun e => ?_, hc⟩
  rcases hk.2.2 with h3 | h3
  · exact hb (by rw [← h3]; exact e)
  · have := h3 g0 e
    have := heap_lt hh
    omega
theorem RowAt.cell {W : World} {Bv : Nat} {A : Option Addr} {ks : List ByteArray} (h : RowAt W Bv A ks) (k : Nat) (hk : k < ks.length) : ∃ g0, A = some ⟨g0, 0, none⟩ ∧ g0 < W.heap.size ∧ W.cell? ⟨g0, k, none⟩ = some (.string ks[k]) := by
  obtain ⟨g0, cur, hA, hh, _, _, hc⟩ := h (by omega)
  refine ⟨g0, hA, heap_lt hh, ?_⟩
  simp only [World.cell?, hh]
  exact hc k hk
theorem grown_of {W W' : World} (h : Below W.heap.size W W') : W.grownBy W' none := ⟨h.os, h.tape, h.output, h.size, fun k hk _ => h.block k hk⟩

def ClientsPost (N : Nat) (J Jx : List ByteArray → World → Prop) (e : Ending) (W : World) : Prop :=
  (∃ v, e = .returned v) ∧ ((∃ ys : List ByteArray, ys.length = N ∧ J ys W) ∨ (∃ pre : List ByteArray, pre.length ≤ N ∧ Jx pre W))

set_option maxRecDepth 100000 in
set_option maxHeartbeats 2000000 in
theorem qu.clients1_in (n : Nat) (hn : 2 ≤ n) (l Bs Bv p b : Nat) (r B m t : Int) (N : Nat) (g : ByteArray → Option Int) (J Jx : List ByteArray → World → Prop) (W : World) (hN : N ≤ 1000000) (hBs : W.cell? ⟨Bs, 0, none⟩ = some (.pointer (some ⟨p, 0, none⟩))) (hq : QM W p b r B m t N g)
    (hBv : Bv < W.heap.size) (hrow : boxRow W Bv = none) (hJ : AbidesFrom W.heap.size J)
    (hY : ∀ pre x W1, J pre W1 → pre.length < N → YieldAt Fence.wide (n - 1) Try.prog l #[.string x] W1 fun e W' =>
      (e = .returned (.bool true) ∧ J (pre ++ [x]) W' ∧ RowKp Bv W1 W') ∨ (e = .returned (.bool false) ∧ Jx (pre ++ [x]) W')) (h0 : J [] W) :
    CallsIn Fence.wide n Try.prog 57 #[.func (.yield l) #[] #[], .pointer (some ⟨Bs, 0, none⟩)] W (ClientsPost N J Jx) := by
  refine callsIn_of_wp Try.func57 rfl trivial ?_ rfl
  simp only [Try.ntmps57, List.size_toArray, List.length_cons, List.length_nil, Nat.reduceAdd, Nat.reduceSub, Array.replicate_succ, Array.replicate_zero, List.push_toArray, List.append_toArray, List.nil_append, List.cons_append]
  have hc4 := hq.blk.cell 4 (v := .map (some b)) rfl
  have HM := Lib.hid hq.map; clear hq
  have HJ := Lib.hid hJ; clear hJ
  have HROW := Lib.hid hrow; clear hrow
  gi_wp2_with fail
  refine ⟨trivial, fun _ => by omega, ?_⟩
  refine (callsIn_wide.2 (maps_keys (some b) W)).mono ?_
  rintro e w1 ⟨rfl, rfl⟩
  gi_wp2_with fail
  refine ⟨trivial, fun _ => by omega, ?_⟩
  refine (callsIn_wide.2 (keys_sorted b N g W HM.out hN)).mono ?_
  rintro e w2 ⟨v, ks, rfl, -, hlen, hown, hb2⟩
  have hb02 : Below W.heap.size W w2 := ((Below.refl _ W).alloc (Nat.le_refl _) _).trans (hb2.mono (by simp))
  have hrow2 : boxRow w2 Bv = none := by
    have := HROW.out
    unfold boxRow at this ⊢
    rw [hb02.cell (p := ⟨Bv, 0, none⟩) hBv]
    exact this
  obtain ⟨A, c, hv, hNc, hra⟩ : ∃ A c, v = .slice A N c ∧ N ≤ c ∧ RowAt w2 Bv A ks := by
    rcases hown.2 with ⟨rfl, h⟩ | ⟨g0, cap, cur, rfl, hbg, hg, hnc, hcm, hcs, htake⟩
    · obtain rfl : N = 0 := h
      obtain rfl : ks = [] := List.length_eq_zero_iff.1 hlen
      exact ⟨none, 0, rfl, Nat.le_refl _, fun h => absurd h (by simp)⟩
    · refine ⟨_, cap, rfl, hnc, fun hpos => ⟨g0, cur, rfl, hg, ?_, by rw [hrow2]; simp, fun j hj => ?_⟩⟩
      · simp at hbg; omega
      · have h1 : (cur.toList.take (N * 1))[j]? = (ks.map Value.string)[j]? := by rw [htake]
        rw [List.getElem?_take_of_lt (by omega), List.getElem?_map, List.getElem?_eq_getElem hj] at h1
        simpa using h1
  subst hv
  have HRA := Lib.hid hra; clear hra hown
  have hJ2 : J [] w2 := HJ.out [] W w2 none h0 (grown_of hb02) (fun r e => by cases e)
  have HJ2 := Lib.hid hJ2; clear hJ2 h0 hb2 hb02 hrow2 hc4
  gi_wp2_with fail
  gi_loopw [14] (fun i wr => ∃ pre : List ByteArray, i = .int .i64 (pre.length : Int) ∧ pre.length ≤ N ∧ J pre wr ∧ RowAt wr Bv A ks) (fun i _ => N - (intOf i).toNat)
  case atStart => exact ⟨[], rfl, by simp, HJ2.out, HRA.out⟩
  case round =>
    obtain ⟨pre, rfl, hle, hJs, hra⟩ := hrel
    have HRB := Lib.hid hra; clear hra HRA HJ2
    by_cases hlt : pre.length < N
    · obtain ⟨g0, rfl, hg0, hck⟩ := HRB.out.cell pre.length (by omega)
      obtain ⟨fn, tmps, assign, body, hy, hR⟩ := hY pre (ks[pre.length]) wr hJs hlt
      generalize ks[pre.length] = x at *
      clear hJs
      gi_wp2
      refine ⟨fun _ => by omega, hR.mono ?_⟩
      rintro e W3 (⟨rfl, hJ3, hk3⟩ | ⟨rfl, hJx3⟩)
      · have HRC := Lib.hid (HRB.out.next hk3); clear hk3
        gi_wp2
        go_roundw
        case rel => exact ⟨pre ++ [x], by simp, by simp; omega, hJ3, HRC.out⟩
        case measure => simp [intOf]; omega
      · gi_wp2
        refine bodyPost_ret (results_none rfl _ _ _) rfl ?_
        exact ⟨⟨_, rfl⟩, .inr ⟨pre ++ [x], by simp; omega, hJx3⟩⟩
    · have hpl : pre.length = N := by omega
      gi_wp2
      go_end0
      exact ⟨⟨_, rfl⟩, .inl ⟨pre, hpl, hJs⟩⟩
end Go.Proofs.Ytmlkgealjbjlgaa

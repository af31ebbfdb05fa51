/- Contract of the law package's walk (cordwainlaw19): how many clients come. -/
import Derived.Test.YtmlkgealjbjlgaaQuI
import Derived.Test.YtmlkgealjbjlgaaBox
namespace Go.Proofs.Ytmlkgealjbjlgaa
open Go.RowKit Go.Shelf
attribute [local go_sem] Oper.semAt_some

theorem qu.clients_any (X : Option Addr) (w : World) :
    Calls Try.prog 46 #[.pointer X] w fun e w' => e = .returned (.func (.func 57) #[] #[.pointer (some ⟨w.heap.size, 0, none⟩)]) ∧ w' = w.alloc (.cells #[.pointer X] 57) := by
  go_enter Try.func46, Try.ntmps46
  go_wp2
  go_ret
  exact ⟨rfl, rfl⟩

set_option maxRecDepth 100000 in
theorem qu.clients1_nil (n : Nat) (l Bs : Nat) (J Jx : List ByteArray → World → Prop) (W : World) (hBs : W.cell? ⟨Bs, 0, none⟩ = some (.pointer none)) (h0 : J [] W) :
    CallsIn Fence.wide n Try.prog 57 #[.func (.yield l) #[] #[], .pointer (some ⟨Bs, 0, none⟩)] W (ClientsPost 0 J Jx) := by
  refine callsIn_of_wp Try.func57 rfl trivial ?_ rfl
  simp only [Try.ntmps57, List.size_toArray, List.length_cons, List.length_nil, Nat.reduceAdd, Nat.reduceSub, Array.replicate_succ, Array.replicate_zero, List.push_toArray, List.append_toArray, List.nil_append, List.cons_append]
  gi_wp2
  refine bodyPost_ret (results_none rfl _ _ _) rfl ?_
  exact ⟨⟨_, rfl⟩, .inl ⟨[], rfl, h0⟩⟩

/-- The iterator's value keeps its contract: N clients come, whatever the quota (nil: none). -/
theorem qu.stops (n : Nat) (hn : 2 ≤ n) (Bs Bv N : Nat) (w : World) (X : Option Addr) (hN : N ≤ 1000000) (hBsl : Bs < w.heap.size) (hBs : w.cell? ⟨Bs, 0, none⟩ = some (.pointer X)) (hBv : Bv < w.heap.size) (hrow : boxRow w Bv = none)
    (hX : (X = none ∧ N = 0) ∨ ∃ p b r B m t g, X = some ⟨p, 0, none⟩ ∧ QM w p b r B m t N g) :
    SeqStopsK Fence.wide n Try.prog 57 #[.pointer (some ⟨Bs, 0, none⟩)] (fun x : ByteArray => #[Value.string x]) (RowKp Bv) (fun ys => ys.length = N) (fun pre => pre.length ≤ N) N w := fun l J Jx W hW hJ _ hY h0 => by
  have hBs' := (hW.cell (p := ⟨Bs, 0, none⟩) hBsl).trans hBs
  rcases hX with ⟨rfl, rfl⟩ | ⟨p, b, r, B, m, t, g, rfl, hq⟩
  · exact qu.clients1_nil n l Bs J Jx W hBs' h0
  · refine qu.clients1_in n hn l Bs Bv p b r B m t N g J Jx W hN hBs' (hq.keep hW) (by have := hW.size; omega) ?_ hJ hY h0
    unfold boxRow at hrow ⊢
    rw [hW.cell (p := ⟨Bv, 0, none⟩) hBv]
    exact hrow

theorem infoStr : (Try.prog.info? 9).map (fun i => (i.zero, i.size, i.bytes)) = some (some (.string { data := #[] }), 1, 16) := by kernel_rfl
theorem boxRow_of {W : World} {Bv : Nat} {t : TypeId} {v : Value} (h : Boxed W Bv t v) : boxRow W Bv = v.ownBlock := by
  unfold boxRow
  rw [h.cell]
  rfl
end Go.Proofs.Ytmlkgealjbjlgaa

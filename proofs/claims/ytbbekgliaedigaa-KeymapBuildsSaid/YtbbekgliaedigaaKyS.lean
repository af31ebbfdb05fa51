/- What the walk gathers is what the document's map holds (no program). -/
import Derived.Test.YtbbekgliaedigaaKyR
namespace Go.Proofs.Ytbbekgliaedigaa
open Go.RowKit Go.Maps

theorem MapIs.keys {N : Nat} {g : ByteArray → Option Int} {l : List PItm} {ks : List ByteArray} (h : MapIs N g l) (hsz : ∀ x ∈ l, x.key.size ≤ maxLen) (hks : IsKeys g ks) (hri : ks.Pairwise fun x y => pf.lt x y = true) : l.map PItm.key = ks := by
  refine pf.rising_eq _ _ (List.pairwise_map.2 h.rises) hri fun s => ?_
  rw [hks.2 s, List.mem_map, h.look s, pf.look_some]
  constructor
  · rintro ⟨x, hx, rfl⟩
    exact ⟨hsz x hx, (pf.has_mem h.rises).2 ⟨x, hx, rfl⟩⟩
  · rintro ⟨-, hh⟩
    exact (pf.has_mem h.rises).1 hh
theorem MapIs.says {N : Nat} {g : ByteArray → Option Int} {l l2 : List PItm} {ks : List ByteArray} (h : MapIs N g l2) (hv : ∀ x ∈ l2, x.vs = []) (hsz : ∀ x ∈ l2, x.key.size ≤ maxLen) (hks : IsKeys g ks) (hri : ks.Pairwise fun x y => pf.lt x y = true)
    (hl : l.map (fun x => (x.bs, x.vs, x.off)) = (ky.pairs ks g).map fun y => (y.1, [], y.2)) : l.map PItm.says = l2.map PItm.says := by
  have e1 : l.map PItm.says = (l.map fun x => (x.bs, x.vs, x.off)).map fun t : List Nat × List Nat × Int => (strOf t.1, strOf t.2.1, t.2.2) := by rw [List.map_map]; rfl
  have e2 : l2.map PItm.says = (l2.map PItm.key).map fun s => (s, strOf [], (g s).getD 0) := by
    rw [List.map_map]
    refine List.map_congr_left fun x hx => ?_
    have h1 := h.look x.key
    rw [pf.look_mem h.rises hx] at h1
    show (strOf x.bs, strOf x.vs, x.off) = (x.key, strOf [], (g x.key).getD 0)
    rw [h1, hv x hx]
    rfl
  rw [e1, hl, e2, h.keys hsz hks hri]
  unfold ky.pairs
  rw [List.map_map, List.map_map]
  refine List.map_congr_left fun s _ => ?_
  show (strOf (strNats s), strOf [], (g s).getD 0) = _
  rw [strOf_strNats]
/-- What is offered keeps no value, and is no longer than its key. -/
theorem pf.offer_all {P : PItm → Prop} {l : List PItm} {most : Int} {x : PItm} (h : ∀ y ∈ l, P y) (hx : ∀ o, P { x with off := o }) : ∀ y ∈ pf.offer l most x, P y := by
  intro y hy
  unfold pf.offer at hy
  split at hy
  · rcases pf.put_mem hy with rfl | hy
    · unfold pf.raise
      split
      · exact hx _
      · exact hx x.off
    · exact h y hy
  · exact h y hy
end Go.Proofs.Ytbbekgliaedigaa

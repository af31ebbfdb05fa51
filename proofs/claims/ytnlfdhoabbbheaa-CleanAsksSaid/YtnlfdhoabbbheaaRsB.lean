/- The reference's Restrict (cordwainref10), and SameBatches of the same. -/
import Derived.Test.YtnlfdhoabbbheaaRsA
import Derived.Test.YtnlfdhoabbbheaaSmR
namespace Go.Proofs.Ytnlfdhoabbbheaa
open Go.RowKit
set_option maxRecDepth 100000

/-- A row of records whose bytes lie where they lay. -/
theorem rs.dep {w wx : World} {xs : List Value} {l : List Rec} {B n : Nat} {u : Value} (hrow : rc.Row w xs l) (hb : Below w.heap.size w wx) (hn : l.length = n) (ho : wx.ownsRow B 34 6 u n xs) :
    Dep (fun q => q < w.heap.size ∨ u.ownBlock = some q) wx (fun U => RecsV U u l) := by
  have hcm : ∃ A c, u = .slice A n c ∧ n ≤ c ∧ c ≤ maxLen ∧ At wx A (n * 6) (fun j => xs.getD j undef) := by
    have h := own_at ho
    obtain ⟨A, c, rfl, h1, h2⟩ := h
    exact ⟨A, c, rfl, h1, own_cap ho, h2⟩
  obtain ⟨A, c, rfl, hc1, hc2, hat⟩ := hcm
  refine ⟨fun k => (k < w.heap.size ∨ (Value.slice A n c).ownBlock = some k) ∧ CellsB wx k, fun k hk => hk, fun W' hv hs => ?_⟩
  have hrw : At W' A (n * 6) (fun j => xs.getD j undef) := fun h0 => by
    obtain ⟨b, off, hA, hlt, hc⟩ := hat h0
    refine ⟨b, off, hA, Nat.lt_of_lt_of_le hlt hs, fun j hj => (World.cell?_of_block (hv b ⟨.inr (by rw [hA]; rfl), .of_cell (hc 0 h0)⟩)).trans (hc j hj)⟩
  have hby : ∀ {v : Value} {L : List Nat}, BytesV w v L → BytesV W' v L := fun {v L} ⟨A, c, e, h1, h2⟩ => ⟨A, c, e, fun h0 => by
    obtain ⟨b, off, hA, hlt, hc⟩ := h1 h0
    have hbk := hb.block b hlt
    refine ⟨b, off, hA, Nat.lt_of_lt_of_le hlt (Nat.le_trans hb.size hs), fun j hj => ?_⟩
    have h3 : wx.cell? ⟨b, off + 0, none⟩ = _ := (World.cell?_of_block hbk).trans (hc 0 h0)
    exact ((World.cell?_of_block (hv b ⟨.inl hlt, .of_cell h3⟩)).trans (World.cell?_of_block hbk)).trans (hc j hj), h2⟩
  subst hn
  refine ⟨A, c, _, rfl, hc1, hc2, hrw, fun i r hi => ?_⟩
  obtain ⟨k, v, e, m1, m2, m3⟩ := hrow.2 i r hi
  exact ⟨k, v, e, hby m1, hby m2, m3⟩
theorem rc.Row.one {w : World} {cs : List Value} {r : Rec} (h : RecR w cs r) (hl : cs.length = 6) : rc.Row w cs [r] := by
  refine ⟨by rw [hl]; rfl, fun i x hi => ?_⟩
  match i, hi with
  | 0, hi =>
    obtain rfl : r = x := by simpa using hi
    have e : cellsAt (fun j => cs.getD j undef) 0 6 = cs := by
      match cs, hl with
      | [c0, c1, c2, c3, c4, c5], _ => rfl
    rw [e]
    exact h
  | i + 1, hi => simp at hi

end Go.Proofs.Ytnlfdhoabbbheaa

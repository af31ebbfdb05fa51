/- BatchLimits: the other batches of the law, and what they are told to be. -/
import Derived.Test.YtndingohckcmdaaLmA
namespace Go.Proofs.Ytndingohckcmdaa
open Go.RowKit

def lim.one (km vm : Nat) : Rec := ⟨0, 0, true, List.replicate km 0, true, List.replicate vm 0⟩
def lim.oneb (km vm : Nat) : Bat := ⟨0, 0, 0, 0, 0, [lim.one km vm]⟩
def lim.non : Rec := ⟨0, 0, false, [107], false, []⟩
def lim.noneb : Bat := ⟨0, 0, 0, 0, 0, [lim.non]⟩
theorem lim.none_check : lim.noneb.check = 1 := by decide
theorem lim.epoch_check : (⟨0, 0, 0, 1, 0, []⟩ : Bat).check = 1 := by decide
theorem lim.prod_check : (⟨0, 0, 1, 1, 0, []⟩ : Bat).check = 0 := by decide
theorem lim.one_size (km vm : Nat) (hk : km ≤ 210) (hv : vm ≤ 2010) : 50 ≤ (lim.oneb km vm).size ∧ (lim.oneb km vm).size ≤ 3000 := by
  have e : (lim.oneb km vm).size = 50 + (((num.widI ((lim.one km vm).body 0 0) : Nat) : Int) + (lim.one km vm).body 0 0 + 0) := by
    unfold Bat.size Bat.sum
    rfl
  have z0 := num.widI_le ((lim.one km vm).body 0 0)
  have z1 := num.widI_le ((lim.one km vm).time - 0)
  have z2 := num.widI_le ((lim.one km vm).off - 0)
  have z3 := num.widI_le (bat.len (lim.one km vm).hasKey (lim.one km vm).key.length)
  have z4 := num.widI_le (bat.len (lim.one km vm).hasVal (lim.one km vm).val.length)
  have k1 : (lim.one km vm).key.length = km := by unfold lim.one; simp
  have k2 : (lim.one km vm).val.length = vm := by unfold lim.one; simp
  have hb : (lim.one km vm).body 0 0 ≤ 2300 ∧ 0 ≤ (lim.one km vm).body 0 0 := by unfold Rec.body; omega
  omega
theorem lim.one_check (km vm : Nat) (hk : km ≤ 210) (hv : vm ≤ 2010) : (lim.oneb km vm).check = if 200 < km ∨ 2000 < vm then 3 else 0 := by
  have hmay : (lim.oneb km vm).may := by unfold lim.oneb Bat.may; simp
  have hs := lim.one_size km vm hk hv
  have k1 : (lim.one km vm).key.length = km := by unfold lim.one; simp
  have k2 : (lim.one km vm).val.length = vm := by unfold lim.one; simp
  have hchk : (lim.one km vm).chk = if 200 < km ∨ 2000 < vm then 3 else 0 := by
    unfold Rec.chk
    rw [k1, k2]
    simp [lim.one]
  have hc : bat.chks (lim.oneb km vm).last ((lim.oneb km vm).base - 1) (lim.oneb km vm).recs = if 200 < km ∨ 2000 < vm then 3 else 0 := by
    show bat.chks 0 (0 - 1) [lim.one km vm] = _
    rw [bat.chks_cons, hchk, if_neg (by show ¬ ((0 : Int) ≤ 0 - 1 ∨ (0 : Int) < 0); omega), bat.chks_nil]
    split <;> simp
  unfold Bat.check
  rw [if_neg (fun h => h hmay), hc, if_neg (by show ¬ 100 < 1; omega)]
  split
  · simp
  · simp only [ne_eq, not_true, if_false]
    rw [if_neg (by omega)]
theorem lim.one_sizeof (km vm : Nat) (hk : km ≤ 210) (hv : vm ≤ 2010) : 0 < (lim.oneb km vm).sizeof ↔ ¬ (200 < km ∨ 2000 < vm) := by
  have hs := lim.one_size km vm hk hv
  unfold Bat.sizeof
  rw [lim.one_check km vm hk hv]
  split
  · simp [*]
  · simp [*]; omega
theorem lim.noneV {wx : World} {p q : Nat} (h59 : Blk wx p 62 #[.int .i64 0, .int .i64 0, .bool false, .slice (some ⟨q, 0, none⟩) 1 1, .bool false, .slice none 0 0])
    (hq : wx.cell? ⟨q, 0, none⟩ = some (.int .u8 107)) (hql : q < wx.heap.size) : RecsV wx (.slice (some ⟨p, 0, none⟩) 1 1) [lim.non] := by
  refine ⟨some ⟨p, 0, none⟩, 1, fun j => (#[.int .i64 0, .int .i64 0, .bool false, .slice (some ⟨q, 0, none⟩) 1 1, .bool false, .slice none 0 0] : Array Value).getD j undef, rfl, Nat.le_refl _, by decide, fun _ => ⟨p, 0, rfl, h59.lt, fun j hj => ?_⟩, fun i r hi => ?_⟩
  · rw [Nat.zero_add]
    refine h59.cell j ?_
    match j, hj with
    | 0, _ => rfl
    | 1, _ => rfl
    | 2, _ => rfl
    | 3, _ => rfl
    | 4, _ => rfl
    | 5, _ => rfl
  · have h0 : i = 0 := by have := (List.getElem?_eq_some_iff.1 hi).1; simpa using this
    subst h0
    obtain rfl : lim.non = r := by simpa using hi
    refine ⟨_, _, rfl, ⟨some ⟨q, 0, none⟩, 1, rfl, fun _ => ⟨q, 0, rfl, hql, fun j hj => ?_⟩, Nat.le_refl _, by decide, fun x hx => ?_⟩, ⟨none, 0, rfl, fun h => absurd h (Nat.lt_irrefl 0), Nat.le_refl _, by decide, fun x hx => by cases hx⟩, by unfold i64ok lim.non; simp, by unfold i64ok lim.non; simp⟩
    · have h0 : j = 0 := by have h1 : j < 1 := hj; omega
      subst h0
      exact hq
    · have h1 : x = 107 := by have h2 : x ∈ [107] := hx; simpa using h2
      rw [h1]
      decide
end Go.Proofs.Ytndingohckcmdaa

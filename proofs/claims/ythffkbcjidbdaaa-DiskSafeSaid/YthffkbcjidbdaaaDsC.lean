/- A step of the law (cordwainlaw4) at a disk in plain words. -/
import Derived.Test.YthffkbcjidbdaaaDsB
import Derived.Test.YthffkbcjidbdaaaDmX
namespace Go.Proofs.Ythffkbcjidbdaaa
open Go.RowKit Go.Maps
set_option maxRecDepth 100000

def RDisk.step (M : RDisk) (x : DStep) : RDisk := if x.kind = 1 then M.app x.a x.b else if x.kind = 2 then M.trunc x.a x.n else if x.kind = 3 then M.sync x.a else if x.kind = 4 then M.ren x.a x.to else if x.kind = 5 then M.rem x.a else if x.kind = 6 then M.dir else if x.kind = 7 then M.cutAt x.n else M
def RDisk.stepE (M : RDisk) (x : DStep) : Int := if x.kind = 1 then M.appE x.a x.b else if x.kind = 2 then M.truncE x.a x.n else if x.kind = 3 then M.syncE x.a else if x.kind = 4 then M.renE x.a x.to else if x.kind = 5 then M.remE x.a else if x.kind = 6 then M.actE [] else 0
/-- A disk in plain words, as the program's would be. -/
def RDisk.dsk (M : RDisk) : Dsk := ⟨M.room, M.used, M.ops, M.off, decide (M.left ≠ -1), M.left, fun s => rd.look M.now s, fun s => rd.look M.safe s, M.acts.map (rd.toD id), M.file⟩
theorem RDisk.sim {M : RDisk} (hw : M.WF) : Sim M.dsk M id := by
  refine ⟨rfl, rfl, rfl, rfl, ?_, fun s => by show rd.look M.now s = _; rw [Option.map_id]; rfl, fun s => by show rd.look M.safe s = _; rw [Option.map_id]; rfl, rfl, fun i _ => rfl, fun i j _ _ h => h⟩
  have := hw.left
  by_cases h : M.left = -1
  · exact .inl ⟨by show decide (M.left ≠ -1) = false; simp [h], h⟩
  · exact .inr ⟨by show decide (M.left ≠ -1) = true; simp [h], by show 0 ≤ M.left; omega, rfl⟩
theorem RDisk.step_wf {M : RDisk} (hw : M.WF) {x : DStep} (hb : ∀ y ∈ x.b, y < 256) (hn : x.n ≤ 9223372036854775807) : (M.step x).WF := by
  have hs := RDisk.sim hw
  unfold RDisk.step
  by_cases h1 : x.kind = 1
  · rw [if_pos h1]
    have hl : ∃ f, M.dsk.Leads x.a M.files.length f := M.dsk.leads_any x.a M.files.length
    obtain ⟨f, hf⟩ := hl
    exact (hs.app hw hb (n := M.files.length) (f := f) (fun i hi => hi) hf).2
  rw [if_neg h1]
  by_cases h2 : x.kind = 2
  · rw [if_pos h2]; exact (hs.trunc hw x.a x.n).2.1
  rw [if_neg h2]
  by_cases h3 : x.kind = 3
  · rw [if_pos h3]; exact (hs.sync hw x.a).2.1
  rw [if_neg h3]
  by_cases h4 : x.kind = 4
  · rw [if_pos h4]; exact (hs.ren hw x.a x.to).2.1
  rw [if_neg h4]
  by_cases h5 : x.kind = 5
  · rw [if_pos h5]; exact (hs.rem hw x.a).2.1
  rw [if_neg h5]
  by_cases h6 : x.kind = 6
  · rw [if_pos h6]; exact (hs.dir hw).2.1
  rw [if_neg h6]
  by_cases h7 : x.kind = 7
  · rw [if_pos h7]; exact (hs.cutAt hw hn).2.1
  rw [if_neg h7]
  exact hw

/-- How much longer a step makes a disk's parts. -/
def RDisk.Near (M M' : RDisk) : Prop := M'.now.length ≤ M.now.length + 1 ∧ M'.acts.length ≤ M.acts.length + 1 ∧ M'.files.length ≤ M.files.length + 1 ∧ M.ops ≤ M'.ops ∧ M'.ops ≤ M.ops + 1
theorem RDisk.Near.acted (M : RDisk) : M.Near M.acted := ⟨Nat.le_succ _, Nat.le_succ _, Nat.le_succ _, by show M.ops ≤ M.ops + 1; omega, Int.le_refl _⟩
theorem RDisk.Near.same (M : RDisk) : M.Near M := ⟨Nat.le_succ _, Nat.le_succ _, Nat.le_succ _, Int.le_refl _, by omega⟩
theorem RDisk.Near.set {M M' : RDisk} (h : M.Near M') (i : Nat) (v : FileV) : M.Near (M'.set i v) := by
  obtain ⟨h1, h2, h3, h4⟩ := h
  exact ⟨h1, h2, by show (M'.files.set i v).length ≤ _; rw [List.length_set]; exact h3, h4⟩
theorem RDisk.lead_near (M : RDisk) (a : RAct) : M.Near (M.acted.lead a) := by
  refine ⟨rd.apply_len M.now a, ?_, Nat.le_succ _, by show M.ops ≤ M.ops + 1; omega, Int.le_refl _⟩
  show (M.acts ++ [a]).length ≤ _
  simp
theorem RDisk.step_near (M : RDisk) (x : DStep) : M.Near (M.step x) := by
  have ha := RDisk.Near.acted M
  unfold RDisk.step
  by_cases h1 : x.kind = 1
  · rw [if_pos h1]
    unfold RDisk.app
    split
    · exact ha
    · split
      · exact ha.set _ _
      · refine ⟨RDisk.lead_now_len (M.acted.add ⟨x.b, 0⟩) _, ?_, ?_, by show M.ops ≤ M.ops + 1; omega, Int.le_refl _⟩
        · show (M.acts ++ [_]).length ≤ _
          simp
        · show (M.files ++ [_]).length ≤ _
          simp
  rw [if_neg h1]
  by_cases h2 : x.kind = 2
  · rw [if_pos h2]
    unfold RDisk.trunc
    split
    · exact ha
    · split
      · exact ha.set _ _
      · exact ha
  rw [if_neg h2]
  by_cases h3 : x.kind = 3
  · rw [if_pos h3]
    unfold RDisk.sync
    split
    · exact ha
    · split
      · exact ha.set _ _
      · exact ha
  rw [if_neg h3]
  by_cases h4 : x.kind = 4
  · rw [if_pos h4]
    unfold RDisk.ren
    split
    · exact ha
    · split
      · exact M.lead_near _
      · exact ha
  rw [if_neg h4]
  by_cases h5 : x.kind = 5
  · rw [if_pos h5]
    unfold RDisk.rem
    split
    · exact ha
    · exact M.lead_near _
  rw [if_neg h5]
  by_cases h6 : x.kind = 6
  · rw [if_pos h6]
    unfold RDisk.dir
    split
    · exact ha
    · exact ⟨Nat.le_succ _, Nat.zero_le _, Nat.le_succ _, by show M.ops ≤ M.ops + 1; omega, Int.le_refl _⟩
  rw [if_neg h6]
  by_cases h7 : x.kind = 7
  · rw [if_pos h7]
    exact RDisk.Near.same M
  rw [if_neg h7]
  exact RDisk.Near.same M

theorem PDisk.wide {w : World} {p : Nat} {M : RDisk} {F F' : Nat → Prop} {n : Nat} (h : PDisk w p M F n) (hup : ∀ k, F k → F' k) (hl : ∀ k, F' k → k < w.heap.size) : PDisk w p M F' n := by
  obtain ⟨D, ι, m, ⟨S, bn, bs, sv, dat, h1⟩, h2⟩ := h
  exact ⟨D, ι, m, ⟨S, bn, bs, sv, dat, h1.wide hup hl⟩, h2⟩
/-- Both disks, side by side: their blocks are no older than B, and apart; n bounds what has come. -/
def DTwo (B : Nat) (w : World) (p q : Nat) (M Q : RDisk) (n : Nat) : Prop :=
  ∃ F G, PDisk w p M F n ∧ RefD w q Q G ∧ Q.WF ∧ (∀ k, F k → B ≤ k) ∧ (∀ k, G k → B ≤ k) ∧ (∀ k, F k → ¬ G k) ∧ (Q.now.length ≤ n ∧ Q.acts.length ≤ n ∧ Q.files.length ≤ n) ∧ (0 ≤ M.ops ∧ M.ops ≤ n) ∧ (0 ≤ Q.ops ∧ Q.ops ≤ n)
theorem DTwo.below {B : Nat} {w w' : World} {p q : Nat} {M Q : RDisk} {n : Nat} (h : DTwo B w p q M Q n) (hb : Below w.heap.size w w') : DTwo B w' p q M Q n := by
  obtain ⟨F, G, h1, h2, h3⟩ := h
  exact ⟨F, G, h1.below hb, h2.below hb, h3⟩
/-- The program's disk alone. -/
theorem DTwo.mine {B : Nat} {w : World} {p q : Nat} {M Q : RDisk} {n : Nat} (h : DTwo B w p q M Q n) : ∃ F, PDisk w p M F n ∧ (∀ k, F k → B ≤ k) ∧ M.WF ∧ (0 ≤ M.ops ∧ M.ops ≤ n) := by
  obtain ⟨F, G, h1, h2, h3, h4, h5, h6, h7, h8, h9⟩ := h
  exact ⟨F, h1, h4, h1.up.2.2.2, h8⟩
/-- An act of the program's, then one of the document's. -/
theorem DTwo.next {B : Nat} {w wa wb : World} {p q : Nat} {M Q M' Q' : RDisk} {F G : Nat → Prop} {n : Nat} (hB : B ≤ w.heap.size) (h2 : RefD w q Q G) (hF : ∀ k, F k → B ≤ k) (hG : ∀ k, G k → B ≤ k) (hFG : ∀ k, F k → ¬ G k) (hw : Q'.WF)
    (hl : (Q.now.length ≤ n ∧ Q.acts.length ≤ n ∧ Q.files.length ≤ n) ∧ (0 ≤ M.ops ∧ M.ops ≤ n) ∧ (0 ≤ Q.ops ∧ Q.ops ≤ n)) (hm : M.Near M') (hq : Q.Near Q')
    (g1 : PDisk wa p M' (dk.grow F w wa) (n + 2)) (g2 : Chg w wa F) (g3 : RefD wb q Q' (dk.grow G wa wb)) (g4 : Chg wa wb (fun k => k = q)) : DTwo B wb p q M' Q' (n + 2) ∧ Below B w wb := by
  have hs1 := g2.size
  have hs2 := g4.size
  obtain ⟨hGq, hGl⟩ := h2.up
  have hnq : ¬ dk.grow F w wa q := fun h => h.1.elim (fun x => hFG q x hGq) fun x => by
    have := hGl q hGq
    omega
  obtain ⟨⟨l1, l2, l3⟩, ⟨l4, l5⟩, l6, l7⟩ := hl
  obtain ⟨m1, m2, m3, m4, m5⟩ := hm
  obtain ⟨q1, q2, q3, q4, q5⟩ := hq
  refine ⟨⟨dk.grow F w wa, dk.grow G wa wb, g1.keep g4 (fun k hk e => hnq (e ▸ hk)), g3, hw, fun k hk => hk.1.elim (hF k) fun x => Nat.le_trans hB x, fun k hk => hk.1.elim (hG k) fun x => by omega, fun k hk hg => ?_, ⟨by omega, by omega, by omega⟩, ⟨by omega, by omega⟩, by omega, by omega⟩, ?_⟩
  · rcases hk.1 with a | a
    · rcases hg.1 with b | b
      · exact hFG k a b
      · have := hk.2
        omega
    · rcases hg.1 with b | b
      · have := hGl k b
        omega
      · have := hk.2
        omega
  · exact (g2.below hB fun k hk => hF k hk).trans (g4.below (by omega) fun k hk => by rw [hk]; exact hG q hGq)
end Go.Proofs.Ythffkbcjidbdaaa

/- commits: the program's table: New, Put, Get, Floor (chapter 18). -/
import Derived.BigQuiet
import Derived.Test.YtkkpbnhagobhmaaCmC
import Derived.Test.YtkkpbnhagobhmaaCmK
import Derived.Test.YtkkpbnhagobhmaaPlanE
import Derived.Deep.QuietTactic
namespace Go.Proofs.Ytkkpbnhagobhmaa
open Go.RowKit Go.Maps
set_option maxRecDepth 100000
/-- A table, in plain words. -/
structure CTab where
  off : PlK → Option Int
  flo : ByteArray → Int
def CTab.zero : CTab := ⟨fun _ => Option.none, fun _ => 0⟩
noncomputable def CTab.put (T : CTab) (x : PlK) (n : Int) : CTab := open Classical in ⟨fun u => if u = x then some n else T.off u, T.flo⟩
noncomputable def CTab.del (T : CTab) (x : PlK) : CTab := open Classical in ⟨fun u => if u = x then Option.none else T.off u, T.flo⟩
def CTab.raise (T : CTab) (g : ByteArray) (n : Int) : CTab := ⟨T.off, fun u => if u = g then max (T.flo g) n else T.flo u⟩
def CTab.sink (T : CTab) (g : ByteArray) : CTab := ⟨T.off, fun u => if u = g then 0 else T.flo u⟩
def CTab.goff (T : CTab) : PlK → Option Value := fun x => (T.off x).map (Value.int .i64)
def CTab.gflo (T : CTab) : ByteArray → Option Value := fun s => if 0 < T.flo s then some (.int .i64 (T.flo s)) else Option.none
/-- A table as it lies: its struct at p, its maps at mo and mf, of n keys at most. -/
def TabAt (w : World) (p mo mf : Nat) (T : CTab) (n : Nat) : Prop :=
  ∃ No Nf, Blk w p 70 #[.map (some mo), .map (some mf)] ∧ GM placeKey w mo No T.goff ∧ GM strKey w mf Nf T.gflo ∧ No ≤ n ∧ Nf ≤ n ∧ mo ≠ mf ∧ ∀ s, 0 ≤ T.flo s
theorem TabAt.keep {w w' : World} {P : Nat → Prop} {p mo mf : Nat} {T : CTab} {n : Nat} (h : TabAt w p mo mf T n) (hc : Chg w w' P) (h1 : ¬ P p) (h2 : ¬ P mo) (h3 : ¬ P mf) : TabAt w' p mo mf T n := by
  obtain ⟨No, Nf, a, b, c, d⟩ := h
  exact ⟨No, Nf, hc.blk a h1, b.chg hc h2, c.chg hc h3, d⟩
theorem TabAt.below {w w' : World} {p mo mf : Nat} {T : CTab} {n : Nat} (h : TabAt w p mo mf T n) (hb : Below w.heap.size w w') : TabAt w' p mo mf T n := h.keep (chg_of (P := fun _ => False) hb) (fun q => q) (fun q => q) fun q => q
theorem TabAt.lt {w : World} {p mo mf : Nat} {T : CTab} {n : Nat} (h : TabAt w p mo mf T n) : p < w.heap.size ∧ mo < w.heap.size ∧ mf < w.heap.size ∧ p ≠ mo ∧ p ≠ mf ∧ mo ≠ mf := by
  obtain ⟨No, Nf, a, b, c, -, -, d, -⟩ := h
  exact ⟨a.lt, b.lt, c.lt, b.not_blk a, c.not_blk a, d⟩
theorem TabAt.up {w : World} {p mo mf : Nat} {T : CTab} {n m : Nat} (h : TabAt w p mo mf T n) (hm : n ≤ m) : TabAt w p mo mf T m := by
  obtain ⟨No, Nf, a, b, c, d, e, f⟩ := h
  exact ⟨No, Nf, a, b, c, by omega, by omega, f⟩
theorem cm.zero_int (w : World) : (zeroValue 3).run Try.prog w = .ok (.int .i64 0) w := by kernel_rfl
set_option maxHeartbeats 1000000 in
theorem cm.new_any (w : World) : Calls Try.prog 10 #[] w fun en w' => en = .returned (.pointer (some ⟨w.heap.size + 2, 0, none⟩)) ∧ TabAt w' (w.heap.size + 2) w.heap.size (w.heap.size + 1) CTab.zero 0 ∧ Below w.heap.size w w' := by
  have hmm := @run_makeMap Try.prog
  go_enter Try.func10, Try.ntmps10
  go_wp2_with fail
  obtain ⟨w1, hw1⟩ : ∃ w1, w1 = w.alloc (.map #[] 0) := ⟨_, rfl⟩
  rw [← hw1]
  obtain ⟨w2, hw2⟩ : ∃ w2, w2 = w1.alloc (.map #[] 0) := ⟨_, rfl⟩
  rw [← hw2]
  have s1 : w1.heap.size = w.heap.size + 1 := by rw [hw1]; simp
  have s2 : w2.heap.size = w.heap.size + 2 := by rw [hw2]; simp [s1]
  obtain ⟨w3, hw3⟩ : ∃ w3, w3 = w2.alloc (.cells #[.map (some w.heap.size), .map (some (w.heap.size + 1))] 70) := ⟨_, rfl⟩
  have hb1 : Below w.heap.size w w1 := by rw [hw1]; exact (Below.refl _ _).alloc (Nat.le_refl _) _
  have hb2 : Below w.heap.size w w2 := by rw [hw2]; exact hb1.alloc hb1.size _
  have hb3 : Below w.heap.size w w3 := by rw [hw3]; exact hb2.alloc hb2.size _
  have hc2 : Chg w1 w2 (fun _ => False) := by rw [hw2]; exact Chg.alloc _ _ _
  have hc3 : Chg w2 w3 (fun _ => False) := by rw [hw3]; exact Chg.alloc _ _ _
  have g1 : GM placeKey w3 w.heap.size 0 CTab.zero.goff := GM.chg (GM.chg (by rw [hw1]; exact GM.made placeKey w) hc2 fun q => q) hc3 fun q => q
  have g2 : GM strKey w3 (w.heap.size + 1) 0 CTab.zero.gflo := GM.chg (by rw [hw2, ← s1]; exact GM.made strKey w1) hc3 fun q => q
  have hk : Blk w3 (w.heap.size + 2) 70 #[.map (some w.heap.size), .map (some (w.heap.size + 1))] := by rw [hw3, ← s2]; exact Blk.new _ _ _
  have HH := Lib.hid (And.intro hk (And.intro g1 (And.intro g2 hb3))); clear hk g1 g2 hb3 hc2 hc3 hb1 hb2
  have HW := Lib.hid (And.intro hw3 (And.intro s1 s2)); clear hw1 hw2 hw3 s1 s2
  go_ret
  rw [← HW.out.1]
  exact ⟨rfl, ⟨0, 0, HH.out.1, HH.out.2.1, HH.out.2.2.1, Nat.le_refl _, Nat.le_refl _, by omega, fun _ => Int.le_refl _⟩, HH.out.2.2.2⟩
set_option maxHeartbeats 1000000 in
theorem cm.get_any (x : PlK) (p mo mf : Nat) (T : CTab) (n : Nat) (w : World) (h : TabAt w p mo mf T n) :
    Calls Try.prog 21 #[.pointer (some ⟨p, 0, none⟩), .string x.g, .string x.t, .int .i64 x.p] w fun e w' => e = .returned (.tuple #[.int .i64 ((T.off x).getD 0), .bool (T.off x).isSome]) ∧ w = w' := by
  obtain ⟨No, Nf, h1, h2, -⟩ := h
  have c0 := h1.cell 0 rfl
  have hl := h1.lt
  have hk : (Instr.lookup 67 (.map (some mo)) (.agg #[.string x.g, .string x.t, .int .i64 x.p]) true).run Try.prog w = .ok (.tuple #[.int .i64 ((T.off x).getD 0), .bool (T.off x).isSome]) w := by
    have h3 := h2.look Try.underlying67 (cm.zero_int w) x trivial
    have e1 : (T.goff x).getD (.int .i64 0) = .int .i64 ((T.off x).getD 0) := by
      unfold CTab.goff
      cases T.off x <;> rfl
    have e2 : (T.goff x).isSome = (T.off x).isSome := by
      unfold CTab.goff
      cases T.off x <;> rfl
    rw [e1, e2] at h3
    exact h3
  obtain ⟨A, hA⟩ : ∃ A, A = (T.off x).getD 0 := ⟨_, rfl⟩
  obtain ⟨B, hB⟩ : ∃ B, B = (T.off x).isSome := ⟨_, rfl⟩
  rw [← hA, ← hB] at hk ⊢
  clear hA hB h2 h1
  go_enter Try.func21, Try.ntmps21
  go_wp2_with fail
  go_ret2
  exact ⟨rfl, rfl⟩
theorem cm.get_nil (g t : ByteArray) (q : Int) (w : World) : Calls Try.prog 21 #[.pointer none, .string g, .string t, .int .i64 q] w fun e w' => e = .returned (.tuple #[.int .i64 0, .bool false]) ∧ w = w' := by
  go_enter Try.func21, Try.ntmps21
  go_wp2_with fail
  go_ret2
  exact ⟨rfl, rfl⟩
set_option maxHeartbeats 1000000 in
theorem cm.floor_any (g : ByteArray) (hg : g.size ≤ maxLen) (p mo mf : Nat) (T : CTab) (n : Nat) (w : World) (h : TabAt w p mo mf T n) :
    Calls Try.prog 18 #[.pointer (some ⟨p, 0, none⟩), .string g] w fun e w' => e = .returned (.int .i64 (T.flo g)) ∧ w = w' := by
  obtain ⟨No, Nf, h1, -, h2, -, -, -, h0⟩ := h
  have c1 := h1.cell 1 rfl
  have hl := h1.lt
  have hk : (Instr.lookup 68 (.map (some mf)) (.string g) false).run Try.prog w = .ok (.int .i64 (T.flo g)) w := by
    have h3 := h2.look1 Try.underlying68 (cm.zero_int w) g hg
    have e1 : (T.gflo g).getD (.int .i64 0) = .int .i64 (T.flo g) := by
      unfold CTab.gflo
      by_cases e : 0 < T.flo g
      · rw [if_pos e]; rfl
      · rw [if_neg e, show T.flo g = 0 by have := h0 g; omega]; rfl
    rw [e1] at h3
    exact h3
  obtain ⟨A, hA⟩ : ∃ A, A = T.flo g := ⟨_, rfl⟩
  rw [← hA] at hk ⊢
  clear hA h2 h1 h0 hg
  go_enter Try.func18, Try.ntmps18
  go_wp2_with fail
  go_ret
  exact ⟨rfl, rfl⟩
theorem cm.floor_nil (g : ByteArray) (w : World) : Calls Try.prog 18 #[.pointer none, .string g] w fun e w' => e = .returned (.int .i64 0) ∧ w = w' := by
  go_enter Try.func18, Try.ntmps18
  go_wp2_with fail
  go_ret
  exact ⟨rfl, rfl⟩
end Go.Proofs.Ytkkpbnhagobhmaa

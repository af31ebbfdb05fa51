/- commits: the table: New, Put, Gen, Get, Floor, Apply (chapter 18). -/
import Derived.BigQuiet
import Derived.Test.YtkkpbnhagobhmaaCmX
import Derived.Test.YtkkpbnhagobhmaaCmK
import Derived.Test.YtkkpbnhagobhmaaPlanE
import Derived.Deep.QuietTactic
import Derived.Test.YtkkpbnhagobhmaaRdB
import Derived.Test.YtkkpbnhagobhmaaRdL
namespace Go.Proofs.Ytkkpbnhagobhmaa
section
open Go.RowKit Go.Maps
set_option maxRecDepth 100000
/-- A table, in plain words. -/
structure CTab where
  off : PlK → Option Int
  flo : ByteArray → Int
def CTab.zero : CTab := ⟨fun _ => Option.none, fun _ => 0⟩
noncomputable def CTab.put (T : CTab) (x : PlK) (n : Int) : CTab := open Classical in ⟨fun u => if u = x then some n else T.off u, T.flo⟩
noncomputable def CTab.del (T : CTab) (x : PlK) : CTab := open Classical in ⟨fun u => if u = x then Option.none else T.off u, T.flo⟩
def CTab.raise (T : CTab) (g : ByteArray) (n : Int) : CTab := ⟨T.off, fun u => if u = g then max (T.flo g) n else T.flo u⟩
def CTab.sink (T : CTab) (g : ByteArray) : CTab := ⟨T.off, fun u => if u = g then 0 else T.flo u⟩
def CTab.goff (T : CTab) : PlK → Option Value := fun x => (T.off x).map (Value.int .i64)
def CTab.gflo (T : CTab) : ByteArray → Option Value := fun s => if 0 < T.flo s then some (.int .i64 (T.flo s)) else Option.none
/-- A table as it lies: its struct at p, its maps at mo and mf, of n keys at most. -/
def TabAt (w : World) (p mo mf : Nat) (T : CTab) (n : Nat) : Prop :=
  ∃ No Nf, Blk w p 70 #[.map (some mo), .map (some mf)] ∧ GM placeKey w mo No T.goff ∧ GM strKey w mf Nf T.gflo ∧ No ≤ n ∧ Nf ≤ n ∧ mo ≠ mf ∧ ∀ s, 0 ≤ T.flo s
theorem TabAt.keep {w w' : World} {P : Nat → Prop} {p mo mf : Nat} {T : CTab} {n : Nat} (h : TabAt w p mo mf T n) (hc : Chg w w' P) (h1 : ¬ P p) (h2 : ¬ P mo) (h3 : ¬ P mf) : TabAt w' p mo mf T n := by
  obtain ⟨No, Nf, a, b, c, d⟩ := h
  exact ⟨No, Nf, hc.blk a h1, b.chg hc h2, c.chg hc h3, d⟩
theorem TabAt.below {w w' : World} {p mo mf : Nat} {T : CTab} {n : Nat} (h : TabAt w p mo mf T n) (hb : Below w.heap.size w w') : TabAt w' p mo mf T n := h.keep (chg_of (P := fun _ => False) hb) (fun q => q) (fun q => q) fun q => q
theorem TabAt.lt {w : World} {p mo mf : Nat} {T : CTab} {n : Nat} (h : TabAt w p mo mf T n) : p < w.heap.size ∧ mo < w.heap.size ∧ mf < w.heap.size ∧ p ≠ mo ∧ p ≠ mf ∧ mo ≠ mf := by
  obtain ⟨No, Nf, a, b, c, -, -, d, -⟩ := h
  exact ⟨a.lt, b.lt, c.lt, b.not_blk a, c.not_blk a, d⟩
theorem TabAt.up {w : World} {p mo mf : Nat} {T : CTab} {n m : Nat} (h : TabAt w p mo mf T n) (hm : n ≤ m) : TabAt w p mo mf T m := by
  obtain ⟨No, Nf, a, b, c, d, e, f⟩ := h
  exact ⟨No, Nf, a, b, c, by omega, by omega, f⟩
theorem cm.zero_int (w : World) : (zeroValue 3).run Try.prog w = .ok (.int .i64 0) w := by kernel_rfl
set_option maxHeartbeats 1000000 in
theorem cm.new_any (w : World) : Calls Try.prog 10 #[] w fun en w' => en = .returned (.pointer (some ⟨w.heap.size + 2, 0, none⟩)) ∧ TabAt w' (w.heap.size + 2) w.heap.size (w.heap.size + 1) CTab.zero 0 ∧ Below w.heap.size w w' := by
  have hmm := @run_makeMap Try.prog
  go_enter Try.func10, Try.ntmps10
  go_wp2_with fail
  obtain ⟨w1, hw1⟩ : ∃ w1, w1 = w.alloc (.map #[] 0) := ⟨_, rfl⟩
  rw [← hw1]
  obtain ⟨w2, hw2⟩ : ∃ w2, w2 = w1.alloc (.map #[] 0) := ⟨_, rfl⟩
  rw [← hw2]
  have s1 : w1.heap.size = w.heap.size + 1 := by rw [hw1]; simp
  have s2 : w2.heap.size = w.heap.size + 2 := by rw [hw2]; simp [s1]
  obtain ⟨w3, hw3⟩ : ∃ w3, w3 = w2.alloc (.cells #[.map (some w.heap.size), .map (some (w.heap.size + 1))] 70) := ⟨_, rfl⟩
  have hb1 : Below w.heap.size w w1 := by rw [hw1]; exact (Below.refl _ _).alloc (Nat.le_refl _) _
  have hb2 : Below w.heap.size w w2 := by rw [hw2]; exact hb1.alloc hb1.size _
  have hb3 : Below w.heap.size w w3 := by rw [hw3]; exact hb2.alloc hb2.size _
  have hc2 : Chg w1 w2 (fun _ => False) := by rw [hw2]; exact Chg.alloc _ _ _
  have hc3 : Chg w2 w3 (fun _ => False) := by rw [hw3]; exact Chg.alloc _ _ _
  have g1 : GM placeKey w3 w.heap.size 0 CTab.zero.goff := GM.chg (GM.chg (by rw [hw1]; exact GM.made placeKey w) hc2 fun q => q) hc3 fun q => q
  have g2 : GM strKey w3 (w.heap.size + 1) 0 CTab.zero.gflo := GM.chg (by rw [hw2, ← s1]; exact GM.made strKey w1) hc3 fun q => q
  have hk : Blk w3 (w.heap.size + 2) 70 #[.map (some w.heap.size), .map (some (w.heap.size + 1))] := by rw [hw3, ← s2]; exact Blk.new _ _ _
  have HH := Lib.hid (And.intro hk (And.intro g1 (And.intro g2 hb3))); clear hk g1 g2 hb3 hc2 hc3 hb1 hb2
  have HW := Lib.hid (And.intro hw3 (And.intro s1 s2)); clear hw1 hw2 hw3 s1 s2
  go_ret
  rw [← HW.out.1]
  exact ⟨rfl, ⟨0, 0, HH.out.1, HH.out.2.1, HH.out.2.2.1, Nat.le_refl _, Nat.le_refl _, by omega, fun _ => Int.le_refl _⟩, HH.out.2.2.2⟩
set_option maxHeartbeats 1000000 in
theorem cm.get_any (x : PlK) (p mo mf : Nat) (T : CTab) (n : Nat) (w : World) (h : TabAt w p mo mf T n) :
    Calls Try.prog 21 #[.pointer (some ⟨p, 0, none⟩), .string x.g, .string x.t, .int .i64 x.p] w fun e w' => e = .returned (.tuple #[.int .i64 ((T.off x).getD 0), .bool (T.off x).isSome]) ∧ w = w' := by
  obtain ⟨No, Nf, h1, h2, -⟩ := h
  have c0 := h1.cell 0 rfl
  have hl := h1.lt
  have hk : (Instr.lookup 67 (.map (some mo)) (.agg #[.string x.g, .string x.t, .int .i64 x.p]) true).run Try.prog w = .ok (.tuple #[.int .i64 ((T.off x).getD 0), .bool (T.off x).isSome]) w := by
    have h3 := h2.look Try.underlying67 (cm.zero_int w) x trivial
    have e1 : (T.goff x).getD (.int .i64 0) = .int .i64 ((T.off x).getD 0) := by
      unfold CTab.goff
      cases T.off x <;> rfl
    have e2 : (T.goff x).isSome = (T.off x).isSome := by
      unfold CTab.goff
      cases T.off x <;> rfl
    rw [e1, e2] at h3
    exact h3
  obtain ⟨A, hA⟩ : ∃ A, A = (T.off x).getD 0 := ⟨_, rfl⟩
  obtain ⟨B, hB⟩ : ∃ B, B = (T.off x).isSome := ⟨_, rfl⟩
  rw [← hA, ← hB] at hk ⊢
  clear hA hB h2 h1
  go_enter Try.func21, Try.ntmps21
  go_wp2_with fail
  go_ret2
  exact ⟨rfl, rfl⟩
theorem cm.get_nil (g t : ByteArray) (q : Int) (w : World) : Calls Try.prog 21 #[.pointer none, .string g, .string t, .int .i64 q] w fun e w' => e = .returned (.tuple #[.int .i64 0, .bool false]) ∧ w = w' := by
  go_enter Try.func21, Try.ntmps21
  go_wp2_with fail
  go_ret2
  exact ⟨rfl, rfl⟩
set_option maxHeartbeats 1000000 in
theorem cm.floor_any (g : ByteArray) (hg : g.size ≤ maxLen) (p mo mf : Nat) (T : CTab) (n : Nat) (w : World) (h : TabAt w p mo mf T n) :
    Calls Try.prog 18 #[.pointer (some ⟨p, 0, none⟩), .string g] w fun e w' => e = .returned (.int .i64 (T.flo g)) ∧ w = w' := by
  obtain ⟨No, Nf, h1, -, h2, -, -, -, h0⟩ := h
  have c1 := h1.cell 1 rfl
  have hl := h1.lt
  have hk : (Instr.lookup 68 (.map (some mf)) (.string g) false).run Try.prog w = .ok (.int .i64 (T.flo g)) w := by
    have h3 := h2.look1 Try.underlying68 (cm.zero_int w) g hg
    have e1 : (T.gflo g).getD (.int .i64 0) = .int .i64 (T.flo g) := by
      unfold CTab.gflo
      by_cases e : 0 < T.flo g
      · rw [if_pos e]; rfl
      · rw [if_neg e, show T.flo g = 0 by have := h0 g; omega]; rfl
    rw [e1] at h3
    exact h3
  obtain ⟨A, hA⟩ : ∃ A, A = T.flo g := ⟨_, rfl⟩
  rw [← hA] at hk ⊢
  clear hA h2 h1 h0 hg
  go_enter Try.func18, Try.ntmps18
  go_wp2_with fail
  go_ret
  exact ⟨rfl, rfl⟩
theorem cm.floor_nil (g : ByteArray) (w : World) : Calls Try.prog 18 #[.pointer none, .string g] w fun e w' => e = .returned (.int .i64 0) ∧ w = w' := by
  go_enter Try.func18, Try.ntmps18
  go_wp2_with fail
  go_ret
  exact ⟨rfl, rfl⟩
end
section
open Go.RowKit Go.Maps
set_option maxRecDepth 100000
theorem CTab.goff_put (T : CTab) (x : PlK) (n : Int) : (T.put x n).goff = gput T.goff x (.int .i64 n) := by
  funext u
  unfold CTab.goff CTab.put gput
  by_cases h : u = x
  · simp [h]
  · simp [h]
theorem CTab.goff_del (T : CTab) (x : PlK) : (T.del x).goff = gdel T.goff x := by
  funext u
  unfold CTab.goff CTab.del gdel
  by_cases h : u = x
  · simp [h]
  · simp [h]
theorem CTab.gflo_raise (T : CTab) (g : ByteArray) (n : Int) (h : T.flo g < n) (h0 : 0 ≤ T.flo g) : (T.raise g n).gflo = gput T.gflo g (.int .i64 n) := by
  funext u
  unfold CTab.gflo CTab.raise gput
  by_cases e : u = g
  · simp only [e, if_true, Int.max_eq_right (Int.le_of_lt h)]
    rw [if_pos (by omega)]
  · simp [e]
theorem CTab.raise_same (T : CTab) (g : ByteArray) (n : Int) (h : n ≤ T.flo g) : T.raise g n = T := by
  unfold CTab.raise
  obtain ⟨a, b⟩ := T
  simp only at h
  have : (fun u => if u = g then max (b g) n else b u) = b := by
    funext u
    by_cases e : u = g
    · rw [if_pos e, e, Int.max_eq_left h]
    · rw [if_neg e]
  simp only [this]
theorem CTab.gflo_sink (T : CTab) (g : ByteArray) : (T.sink g).gflo = gdel T.gflo g := by
  funext u
  unfold CTab.gflo CTab.sink gdel
  by_cases e : u = g
  · simp [e]
  · simp [e]
theorem cm.put_nil (e : CEnt) (w : World) : Calls Try.prog 11 #[.pointer none, .agg e.cells] w fun en w' => en = .returned (.int .i64 1) ∧ Below w.heap.size w w' := by
  unfold CEnt.cells
  go_enter Try.func11, Try.ntmps11
  go_wp2_with fail
  go_ret
  exact ⟨rfl, (Below.refl w.heap.size w).alloc (Nat.le_refl _) _⟩
set_option maxHeartbeats 2000000 in
theorem cm.put_bad (e : CEnt) (p : Nat) (w : World) (hf : e.fit) (hok : e.ok = false) :
    Calls Try.prog 11 #[.pointer (some ⟨p, 0, none⟩), .agg e.cells] w fun en w' => en = .returned (.int .i64 1) ∧ Below w.heap.size w w' := by
  have hck := fun wx => cm.check_any e wx hf
  rw [hok, if_neg (by simp)] at hck
  clear hok hf
  unfold CEnt.cells at hck ⊢
  obtain ⟨w1, hw1⟩ : ∃ w1, w1 = w.alloc (.cells #[.string e.grp, .string e.top, .int .i64 e.part, .int .i64 e.off] 42) := ⟨_, rfl⟩
  have hk1 : Blk w1 w.heap.size 42 #[.string e.grp, .string e.top, .int .i64 e.part, .int .i64 e.off] := by rw [hw1]; exact Blk.new _ _ _
  have hb1 : Below w.heap.size w w1 := by rw [hw1]; exact (Below.refl _ _).alloc (Nat.le_refl _) _
  have H := Lib.hid (And.intro hck (And.intro hk1 hb1)); clear hck hk1 hb1
  go_enter Try.func11, Try.ntmps11
  go_upto_region 1 with fail
  rw [← hw1]
  clear hw1
  have k0 := H.out.2.1.cell 0 (v := .string e.grp) rfl
  have k1 := H.out.2.1.cell 1 (v := .string e.top) rfl
  have k2 := H.out.2.1.cell 2 (v := .int .i64 e.part) rfl
  have k3 := H.out.2.1.cell 3 (v := .int .i64 e.off) rfl
  have kl := H.out.2.1.lt
  go_wp2_with fail
  clear k0 k1 k2 k3
  refine (H.out.1 w1).mono ?_
  rintro en w2 ⟨rfl, h2⟩
  have hb2 : Below w.heap.size w w2 := H.out.2.2.trans (h2.mono H.out.2.2.size)
  have HB := Lib.hid hb2; clear hb2 h2 H
  go_wp2
  go_ret
  exact ⟨rfl, HB.out⟩
/-- A place as a key, out of an entry that may be. -/
theorem cm.place_fit {g t : ByteArray} {p : Int} (h : cm.place g t p = true) : g.size ≤ 20 ∧ t.size ≤ 20 ∧ 0 ≤ p ∧ p ≤ 999 := by
  unfold cm.place cm.topic at h
  simp only [Bool.and_eq_true, decide_eq_true_eq] at h
  omega
def cm.mk (g t : ByteArray) (p : Int) (hg : g.size ≤ 20) (ht : t.size ≤ 20) (h0 : 0 ≤ p) (h1 : p ≤ 999) : PlK := ⟨g, t, p, by unfold maxLen; omega, by unfold maxLen; omega, by constructor <;> omega⟩
/-- What a Table does where it puts. -/
def cm.tabPost (w : World) (p mo mf : Nat) (T : CTab) (n : Nat) (c : Int) (en : Ending) (w' : World) : Prop := en = .returned (.int .i64 c) ∧ TabAt w' p mo mf T n ∧ Chg w w' (fun k => k = mo ∨ k = mf)
set_option maxHeartbeats 2000000 in
theorem cm.put_ok (e : CEnt) (x : PlK) (hx1 : x.g = e.grp) (hx2 : x.t = e.top) (hx3 : x.p = e.part) (p mo mf : Nat) (T : CTab) (n : Nat) (w : World) (h : TabAt w p mo mf T n) (hok : e.ok = true) (hn : n < maxLen) :
    Calls Try.prog 11 #[.pointer (some ⟨p, 0, none⟩), .agg e.cells] w (cm.tabPost w p mo mf (T.put x e.off) (n + 1) 0) := by
  obtain ⟨g, t, q, o⟩ := e
  simp only at hx1 hx2 hx3
  subst hx1 hx2 hx3
  have hck := fun wx => cm.check_any ⟨x.g, x.t, x.p, o⟩ wx ⟨x.hg, x.ht⟩
  rw [hok, if_pos rfl] at hck
  have hpl := fun wx => cm.place_any ⟨x.g, x.t, x.p, o⟩ wx
  clear hok
  simp only [CEnt.cells] at hck hpl ⊢
  have hlt := h.lt
  obtain ⟨b0, hb0⟩ : ∃ b, b = w.heap.size := ⟨_, rfl⟩
  obtain ⟨w1, hw1⟩ : ∃ w1, w1 = w.alloc (.cells #[.string x.g, .string x.t, .int .i64 x.p, .int .i64 o] 42) := ⟨_, rfl⟩
  have hk1 : Blk w1 b0 42 #[.string x.g, .string x.t, .int .i64 x.p, .int .i64 o] := by rw [hw1, hb0]; exact Blk.new _ _ _
  have hb1 : Below w.heap.size w w1 := by rw [hw1]; exact (Below.refl _ _).alloc (Nat.le_refl _) _
  have ht1 : TabAt w1 p mo mf T n := h.below hb1
  have H := Lib.hid (And.intro hck (And.intro hpl (And.intro hk1 (And.intro hb1 (And.intro ht1 (And.intro hb0 (And.intro hn hlt))))))); clear hck hpl hk1 hb1 ht1 h hlt hn
  go_enter Try.func11, Try.ntmps11
  go_upto_region 1 with fail
  rw [← hw1, ← hb0]
  clear hw1 hb0
  have k0 := H.out.2.2.1.cell 0 (v := .string x.g) rfl
  have k1 := H.out.2.2.1.cell 1 (v := .string x.t) rfl
  have k2 := H.out.2.2.1.cell 2 (v := .int .i64 x.p) rfl
  have k3 := H.out.2.2.1.cell 3 (v := .int .i64 o) rfl
  have kl := H.out.2.2.1.lt
  go_wp2_with fail
  clear k0 k1 k2 k3
  refine (H.out.1 w1).mono ?_
  rintro en w2 ⟨rfl, h2⟩
  have hb2 : Below w.heap.size w w2 := H.out.2.2.2.1.trans (h2.mono H.out.2.2.2.1.size)
  have hk2 : Blk w2 b0 42 #[.string x.g, .string x.t, .int .i64 x.p, .int .i64 o] := (chg_of (P := fun _ => False) h2).blk H.out.2.2.1 fun q => q
  have ht2 : TabAt w2 p mo mf T n := H.out.2.2.2.2.1.below h2
  obtain ⟨No, Nf, a1, a2, a3, a4, a5, a6, a7⟩ := ht2
  have c0 := a1.cell 0 rfl
  have cl := a1.lt
  have hmn := eql_map_nil Try.underlying67 (some mo)
  have H2 := Lib.hid (And.intro hb2 (And.intro hk2 (And.intro a1 (And.intro a2 (And.intro a3 (And.intro a4 (And.intro a5 (And.intro a6 a7)))))))); clear hb2 hk2 h2 a1 a2 a3 a4 a5 a6 a7
  go_upto_region 5 with fail
  clear c0 cl hmn
  have hne : b0 ≠ mo := by have := H.out.2.2.2.2.2.1; have := H.out.2.2.2.2.2.2.2.2.1; omega
  have hkd : ∀ y : Later w2 (fun k => k = mo), Blk y.1 b0 42 #[.string x.g, .string x.t, .int .i64 x.p, .int .i64 o] := fun y => y.2.blk H2.out.2.1 hne
  have z3 : ∀ y : Later w2 (fun k => k = mo), y.1.cell? ⟨b0, 3, none⟩ = some (.int .i64 o) := fun y => (hkd y).cell 3 rfl
  have z0 : ∀ y : Later w2 (fun k => k = mo), y.1.cell? ⟨p, 0, none⟩ = some (.map (some mo)) := fun y => (y.2.blk H2.out.2.2.1 (H2.out.2.2.2.1.not_blk H2.out.2.2.1)).cell 0 rfl
  have HKD := Lib.hid hkd; clear hkd
  have hS0 : later w2 (fun k => k = mo) w2.drew := later_of ((Chg.refl _ _).drew)
  refine wp_plan (S := fun w0 => ∃ y : Later w2 (fun k => k = mo), w0 = y.1) (by kernel_rfl) hS0 ?_
  intro hS' K5 hK5
  have HS := Lib.hid hS'; clear hS' hS0
  refine plan_group [true, true, true, true, true, false, true, true] [0, 1, 2, 3, 4, 6, 7] 2 (by dsimp only [sel]) (by rfl) rfl (by kernel_rfl) (by kernel_rfl) HS.out ?_
  iterate 4 go_big_quiet_step (fail)
  refine cm.quiet_row rfl 42 (.tmp 3) rfl b0 rfl 42 #[.string x.g, .string x.t, .int .i64 x.p, .int .i64 o] _ (fun w0 ⟨x, hx⟩ => hx ▸ HKD.out x) Try.underlying42 rfl cm.info_entry ?_
  go_simp
  (repeat go_big_quiet_step (fail)); refine wpQuiet_nil ?_
  clear z3 z0
  refine plan_one [false, false, false, false, false, true] 5 1 (by dsimp only [sel]) (by rfl) rfl (by kernel_rfl) ?_; intro K1 hK1
  have hpl := H.out.2.1
  have HPL := Lib.hid hpl; clear hpl
  go_wp2_with (go_at_call 31; refine (HPL.out _).mono ?_; rintro en w3 ⟨rfl, h3⟩; have HB3 := Lib.hid h3; clear h3)
  have hc3 : Chg w2 w3 (fun k => k = mo) := ((Chg.refl w2 _).drew).trans (chg_of (P := fun _ => False) HB3.out) fun _ _ q => q.elim
  have hb3' : Below w2.heap.size w2 w3 := (bdrew (Below.refl _ _) 1).trans (HB3.out.mono (Nat.le_of_eq (by simp)))
  have H3 := Lib.hid (And.intro hc3 hb3'); clear hc3 hb3' HB3
  refine ⟨by first | exact later_of H3.out.1 | exact fun _ => later_of H3.out.1, ?_⟩
  refine plan_one [false, false, false, false, false, false, false, false, true] 8 0 (by dsimp only [sel]) (by rfl) rfl (by kernel_rfl) ?_; intro K2 hK2
  have hgm := H2.out.2.2.2.1.below H3.out.2 H2.out.2.2.2.1.lt
  refine GM.list_put (κ := placeKey) _ rfl (.tmp 24) (.tmp 26) (.tmp 28) Try.underlying67 rfl hgm x trivial (.int .i64 o) (Nat.lt_of_le_of_lt H2.out.2.2.2.2.2.1 H.out.2.2.2.2.2.2.1) rfl rfl rfl ?_
  intro w4 hgm4 hc4 hs4
  have hc24 : Chg w2 w4 (fun k => k = mo) := (chg_of (P := fun k => k = mo) H3.out.2).trans hc4 fun _ _ q => q
  have H4 := Lib.hid (And.intro hgm4 hc24); clear hgm4 hc4 hc24 hgm
  go_wp2_with fail
  refine ⟨later_of H4.out.2, ?_⟩
  refine wp_plan_end (by kernel_rfl) ?_
  refine hK5 _ _ ?_
  clear HS
  go_wp2
  go_ret
  refine ⟨rfl, ⟨if (T.goff x).isSome then No else No + 1, Nf, H4.out.2.blk H2.out.2.2.1 (H2.out.2.2.2.1.not_blk H2.out.2.2.1), by rw [CTab.goff_put]; exact H4.out.1, H2.out.2.2.2.2.1.chg H4.out.2 (fun q => H2.out.2.2.2.2.2.2.2.1 q.symm), ?_, ?_, H2.out.2.2.2.2.2.2.2.1, H2.out.2.2.2.2.2.2.2.2⟩, ?_⟩
  · have := H2.out.2.2.2.2.2.1; split <;> omega
  · have := H2.out.2.2.2.2.2.2.1; omega
  · exact (chg_of (P := fun k => k = mo ∨ k = mf) H2.out.1).trans H4.out.2 fun _ _ q => .inl q
theorem cm.tgen_nil (g : ByteArray) (u : Int) (w : World) : Calls Try.prog 14 #[.pointer none, .string g, .int .i64 u] w fun en w' => en = .returned (.int .i64 1) ∧ w = w' := by
  go_enter Try.func14, Try.ntmps14
  go_wp2_with fail
  go_ret
  exact ⟨rfl, rfl⟩
theorem cm.tgen_bad (g : ByteArray) (u : Int) (p : Nat) (w : World) (hg : g.size ≤ maxLen) (hok : cm.gen g u = false) : Calls Try.prog 14 #[.pointer (some ⟨p, 0, none⟩), .string g, .int .i64 u] w fun en w' => en = .returned (.int .i64 1) ∧ w = w' := by
  have hck := fun wx => cm.gen_any g u wx hg
  rw [cm.gen_iff, hok, if_neg (by simp)] at hck
  clear hok hg
  have H := Lib.hid hck; clear hck
  go_enter Try.func14, Try.ntmps14
  go_wp2_with fail
  refine (H.out _).mono ?_
  rintro en w2 ⟨rfl, h2⟩
  subst h2
  go_wp2_with fail
  go_ret
  exact ⟨rfl, rfl⟩
set_option maxHeartbeats 2000000 in
theorem cm.tgen_ok (g : ByteArray) (u : Int) (p mo mf : Nat) (T : CTab) (n : Nat) (w : World) (h : TabAt w p mo mf T n) (hok : cm.gen g u = true) (hn : n < maxLen) :
    Calls Try.prog 14 #[.pointer (some ⟨p, 0, none⟩), .string g, .int .i64 u] w (cm.tabPost w p mo mf (T.raise g u) (n + 1) 0) := by
  have hgs := cm.gen_facts hok
  have hg : g.size ≤ maxLen := by unfold maxLen; omega
  have hck := fun wx => cm.gen_any g u wx hg
  rw [cm.gen_iff, hok, if_pos rfl] at hck
  clear hok
  have hup := h.up (Nat.le_succ n)
  obtain ⟨No, Nf, a1, a2, a3, a4, a5, a6, a7⟩ := h
  have c1 := a1.cell 1 rfl
  have cl := a1.lt
  have hmn := eql_map_nil Try.underlying68 (some mf)
  have hk : (Instr.lookup 68 (.map (some mf)) (.string g) false).run Try.prog w = .ok (.int .i64 (T.flo g)) w := by
    have h3 := a3.look1 Try.underlying68 (cm.zero_int w) g hg
    have e1 : (T.gflo g).getD (.int .i64 0) = .int .i64 (T.flo g) := by
      unfold CTab.gflo
      by_cases e : 0 < T.flo g
      · rw [if_pos e]; rfl
      · rw [if_neg e, show T.flo g = 0 by have := a7 g; omega]; rfl
    rw [e1] at h3
    exact h3
  have h0 := a7 g
  have hraise := CTab.gflo_raise T g u
  have hsame := CTab.raise_same T g u
  obtain ⟨F, hF⟩ : ∃ F, F = T.flo g := ⟨_, rfl⟩
  rw [← hF] at hk h0 hraise hsame
  clear hF
  have H := Lib.hid (And.intro hck (And.intro hup (And.intro a1 (And.intro a2 (And.intro a3 (And.intro a4 (And.intro a5 (And.intro a6 (And.intro a7 (And.intro hraise (And.intro hsame (And.intro h0 (And.intro hn (And.intro hg hgs)))))))))))))); clear hck hup a1 a2 a3 a4 a5 a6 a7 hraise hsame h0 hn hg hgs
  by_cases hc : F < u
  · have d1 : decide (F < u) = true := decide_eq_true hc
    go_enter Try.func14, Try.ntmps14
    go_wp2_with fail
    refine (H.out.1 _).mono ?_
    rintro en w2 ⟨rfl, h2⟩
    subst h2
    go_upto_region 6 with fail
    go_wp2_with (refine GM.list_put (κ := strKey) _ rfl (.tmp 35) (.tmp 36) (.tmp 37) Try.underlying68 rfl H.out.2.2.2.2.1 g H.out.2.2.2.2.2.2.2.2.2.2.2.2.2.1 (.int .i64 u) (Nat.lt_of_le_of_lt H.out.2.2.2.2.2.2.1 H.out.2.2.2.2.2.2.2.2.2.2.2.2.1) rfl rfl rfl ?_; intro w4 hgm4 hc4 hs4; have H4 := Lib.hid (And.intro hgm4 hc4); clear hgm4 hc4)
    go_ret
    refine ⟨rfl, ⟨No, if (T.gflo g).isSome then Nf else Nf + 1, H4.out.2.blk H.out.2.2.1 (H.out.2.2.2.2.1.not_blk H.out.2.2.1), H.out.2.2.2.1.chg H4.out.2 H.out.2.2.2.2.2.2.2.1, by rw [H.out.2.2.2.2.2.2.2.2.2.1 hc H.out.2.2.2.2.2.2.2.2.2.2.2.1]; exact H4.out.1, ?_, ?_, H.out.2.2.2.2.2.2.2.1, ?_⟩, ?_⟩
    · have := H.out.2.2.2.2.2.1; omega
    · have := H.out.2.2.2.2.2.2.1; split <;> omega
    · intro s
      have := H.out.2.2.2.2.2.2.2.2.1 s
      show 0 ≤ if s = g then max (T.flo g) u else T.flo s
      by_cases e : s = g
      · rw [if_pos e, ← e]; omega
      · rw [if_neg e]; exact this
    · exact H4.out.2.mono fun _ _ q => .inr q
  · have d1 : decide (F < u) = false := decide_eq_false hc
    go_enter Try.func14, Try.ntmps14
    go_wp2_with fail
    refine (H.out.1 _).mono ?_
    rintro en w2 ⟨rfl, h2⟩
    subst h2
    go_wp2_with fail
    go_ret
    refine ⟨rfl, ?_, Chg.refl _ _⟩
    rw [H.out.2.2.2.2.2.2.2.2.2.2.1 (by omega)]
    exact H.out.2.1
end
section
open Go.RowKit Go.Maps
set_option maxRecDepth 100000
def cm.end_ (e : Int) (L : List Nat) : Bool := decide (e = 0) && L.isEmpty
theorem cm.ended_any (r : Nat) (L : List Nat) (e : Int) (w : World) (h : RdIs w r L e) : Calls Try.prog 57 #[.pointer (some ⟨r, 0, none⟩)] w fun en w' => en = .returned (.bool (cm.end_ e L)) ∧ w = w' := by
  obtain ⟨A, c, h⟩ := h
  have h1 := wire.err_any r A c L e w h
  have h2 := wire.left_any r A c L e w h
  have H := Lib.hid (And.intro h1 h2); clear h1 h2 h
  by_cases he : e = 0
  · subst he
    go_enter Try.func57, Try.ntmps57
    go_wp2_with fail
    refine H.out.1.mono ?_
    rintro en w2 ⟨rfl, h2⟩
    subst h2
    go_wp2_with fail
    refine H.out.2.mono ?_
    rintro en w2 ⟨rfl, h2⟩
    subst h2
    cases L with
    | nil =>
      go_wp2_with fail
      go_ret
      exact ⟨rfl, rfl⟩
    | cons x L =>
      have h0 : (((x :: L).length : Nat) == (0 : Int)) = false := by simp; omega
      obtain ⟨n, hn⟩ : ∃ n : Int, n = ((x :: L).length : Nat) := ⟨_, rfl⟩
      rw [← hn] at h0 ⊢
      clear hn
      go_wp2_with fail
      go_ret
      exact ⟨rfl, rfl⟩
  · have h0 : (e == 0) = false := by simpa using he
    have h3 : cm.end_ e L = false := by unfold cm.end_; rw [decide_eq_false he]; rfl
    rw [h3]
    clear h3
    go_enter Try.func57, Try.ntmps57
    go_wp2_with fail
    refine H.out.1.mono ?_
    rintro en w2 ⟨rfl, h2⟩
    subst h2
    go_wp2_with fail
    go_ret
    exact ⟨rfl, rfl⟩
/-- What a value says: a number. -/
def cm.numOk (V : List Nat) : Bool := cm.end_ (rd.num V 0).2.2 (rd.num V 0).2.1
theorem cm.number_any (u : Value) (V : List Nat) (w : World) (h : BytesV w u V) : Calls Try.prog 58 #[u] w fun en w' => en = .returned (.tuple #[.int .i64 (rd.num V 0).1, .bool (cm.numOk V)]) ∧ Below w.heap.size w w' := by
  obtain ⟨A, c, rfl, h1, h2, h3, h4⟩ := h
  have hb := wire.borrow_any A c V w h1 h2 h3 h4
  unfold cm.numOk
  have hn := fun r w1 (hr : RdIs w1 r V 0) => hr.elim fun A hr => hr.elim fun c hr => wire.rnum_any r A c V 0 w1 hr
  obtain ⟨⟨n, L1, e1⟩, hq⟩ : ∃ q, q = rd.num V 0 := ⟨_, rfl⟩
  rw [← hq] at hn ⊢
  simp only at hn ⊢
  clear hq
  obtain ⟨m, hm⟩ : ∃ m, m = V.length := ⟨_, rfl⟩
  rw [← hm] at hb ⊢
  have H := Lib.hid (And.intro hb hn); clear hb hn h1 h2 h3 h4 hm
  go_enter Try.func58, Try.ntmps58
  go_wp2_with fail
  refine H.out.1.mono ?_
  rintro en w1 ⟨r, rfl, hr1, hr, hb1⟩
  have H1 := Lib.hid (And.intro (H.out.2 r w1 hr1) (And.intro hr hb1)); clear hr1 hr hb1 H
  go_wp2_with fail
  refine H1.out.1.mono ?_
  rintro en w2 ⟨rfl, hr2, hc2⟩
  have hb2 : Below w.heap.size w w2 := H1.out.2.2.trans (hc2.below H1.out.2.2.size fun k q => by have q : k = r := q; have := H1.out.2.1; omega)
  have H2 := Lib.hid (And.intro (cm.ended_any r L1 e1 w2 hr2) hb2); clear hr2 hb2 hc2 H1
  go_wp2_with fail
  refine H2.out.1.mono ?_
  rintro en w3 ⟨rfl, h3⟩
  subst h3
  go_wp2_with fail
  go_ret2
  exact ⟨rfl, H2.out.2⟩
end
section
open Go.RowKit Go.Maps
set_option maxRecDepth 100000
/-- What a record asks of a table. -/
inductive CAct where
  | put (e : CEnt)
  | del (e : CEnt)
  | up (g : ByteArray) (n : Int)
  | down (g : ByteArray)
open Classical in
noncomputable def CEnt.plk (e : CEnt) : Option PlK := if h : e.grp.size ≤ maxLen ∧ e.top.size ≤ maxLen ∧ intOk e.part then some ⟨e.grp, e.top, e.part, h.1, h.2.1, h.2.2⟩ else none
noncomputable def CTab.does (T : CTab) : CAct → CTab
  | .put e => match e.plk with | some x => T.put x e.off | none => T
  | .del e => match e.plk with | some x => T.del x | none => T
  | .up g n => T.raise g n
  | .down g => T.sink g
noncomputable def CTab.app (T : CTab) : Option CAct → CTab
  | none => T
  | some a => T.does a
def cm.code : Option CAct → Int
  | none => 2
  | some _ => 0
theorem CEnt.plk_of {e : CEnt} {x : PlK} (h1 : x.g = e.grp) (h2 : x.t = e.top) (h3 : x.p = e.part) : e.plk = some x := by
  unfold CEnt.plk
  have h : e.grp.size ≤ maxLen ∧ e.top.size ≤ maxLen ∧ intOk e.part := ⟨h1 ▸ x.hg, h2 ▸ x.ht, h3 ▸ x.hp⟩
  rw [dif_pos h]
  exact congrArg some (PlK.eq h1.symm h2.symm h3.symm)
def cm.keyG (L : List Nat) (e : Int) : Option ByteArray := if (cm.end_ (rd.piece L e 20).2.2 (rd.piece L e 20).2.1 && cm.topic (strOf (rd.piece L e 20).1)) = true then some (strOf (rd.piece L e 20).1) else none
def cm.valG (g : ByteArray) (x : Rec) : Option CAct := if x.hasVal = true then (if (cm.numOk x.val && cm.gen g (rd.num x.val 0).1) = true then some (.up g (rd.num x.val 0).1) else none) else some (.down g)
def cm.actG (L : List Nat) (e : Int) (x : Rec) : Option CAct := match cm.keyG L e with | none => none | some g => cm.valG g x
def cm.appPost (w : World) (p mo mf r : Nat) (T : CTab) (n : Nat) (c : Int) (en : Ending) (w' : World) : Prop := en = .returned (.int .i64 c) ∧ TabAt w' p mo mf T n ∧ Chg w w' (fun k => k = r ∨ k = mo ∨ k = mf)
theorem BytesV.past {w w' : World} {u : Value} {V L : List Nat} {r : Nat} {e : Int} (h : BytesV w u V) (hr : RdIs w r L e) (hc : Chg w w' (rdT r)) : BytesV w' u V := by
  obtain ⟨A, c, h1, h2, h3⟩ := h
  obtain ⟨B, d, hr⟩ := hr
  exact ⟨A, c, h1, hc.at' h2 fun hm b off hb hh => hr.apart h2 hm b off hb hh, h3⟩
theorem RdIs.text {w : World} {r : Nat} {L : List Nat} {e : Int} (h : RdIs w r L e) (most : Int) : Calls Try.prog 37 #[.pointer (some ⟨r, 0, none⟩), .int .i64 most] w (TextPost w r (rd.piece L e most).1 (rd.piece L e most).2.1 (rd.piece L e most).2.2) := h.elim fun A h => h.elim fun c h => wire.rtext_any r A c L e most w h
theorem RdIs.num {w : World} {r : Nat} {L : List Nat} {e : Int} (h : RdIs w r L e) : Calls Try.prog 56 #[.pointer (some ⟨r, 0, none⟩)] w (RdPost w r (.int .i64 (rd.num L e).1) (rd.num L e).2.1 (rd.num L e).2.2) := h.elim fun A h => h.elim fun c h => wire.rnum_any r A c L e w h
theorem RdIs.len {w : World} {r : Nat} {L : List Nat} {e : Int} (h : RdIs w r L e) : L.length ≤ maxLen := h.elim fun _ h => h.elim fun _ h => Nat.le_trans h.len h.cap
theorem TabAt.del {w' : World} {p mo mf : Nat} {T : CTab} {n N' Nf : Nat} {x : PlK} (hb : Blk w' p 70 #[.map (some mo), .map (some mf)]) (h1 : GM placeKey w' mo N' (gdel T.goff x)) (h2 : GM strKey w' mf Nf T.gflo) (h3 : N' ≤ n) (h4 : Nf ≤ n) (h5 : mo ≠ mf) (h6 : ∀ s, 0 ≤ T.flo s) : TabAt w' p mo mf (T.del x) n :=
  ⟨N', Nf, hb, by rw [CTab.goff_del]; exact h1, h2, h3, h4, h5, h6⟩
theorem TabAt.sink {w' : World} {p mo mf : Nat} {T : CTab} {n No N' : Nat} {g : ByteArray} (hb : Blk w' p 70 #[.map (some mo), .map (some mf)]) (h1 : GM placeKey w' mo No T.goff) (h2 : GM strKey w' mf N' (gdel T.gflo g)) (h3 : No ≤ n) (h4 : N' ≤ n) (h5 : mo ≠ mf) (h6 : ∀ s, 0 ≤ T.flo s) : TabAt w' p mo mf (T.sink g) n := by
  refine ⟨No, N', hb, h1, by rw [CTab.gflo_sink]; exact h2, h3, h4, h5, fun s => ?_⟩
  show 0 ≤ if s = g then 0 else T.flo s
  split
  · exact Int.le_refl _
  · exact h6 s
set_option maxHeartbeats 4000000 in
theorem cm.applyG_any (r : Nat) (L : List Nat) (e : Int) (X : Rec) (k u : Value) (p mo mf : Nat) (T : CTab) (n : Nat) (w : World) (hr : RdIs w r L e) (hu : BytesV w u X.val) (h : TabAt w p mo mf T n) (hn : n < maxLen) (hne : r ≠ p ∧ r ≠ mo ∧ r ≠ mf) :
    Calls Try.prog 39 #[.pointer (some ⟨p, 0, none⟩), .pointer (some ⟨r, 0, none⟩), .agg #[.int .i64 X.off, .int .i64 X.time, .bool X.hasKey, k, .bool X.hasVal, u]] w (cm.appPost w p mo mf r (T.app (cm.actG L e X)) (n + 1) (cm.code (cm.actG L e X))) := by
  have hsz : (strOf (rd.piece L e 20).1).size ≤ maxLen := by rw [strOf_size]; exact Nat.le_trans (rd.piece_le L e 20) hr.len
  have hl := h.lt
  obtain ⟨b0, hb0⟩ : ∃ b, b = w.heap.size := ⟨_, rfl⟩
  obtain ⟨w1, hw1⟩ : ∃ w1, w1 = w.alloc (.cells #[.int .i64 X.off, .int .i64 X.time, .bool X.hasKey, k, .bool X.hasVal, u] 37) := ⟨_, rfl⟩
  have hk1 : Blk w1 b0 37 #[.int .i64 X.off, .int .i64 X.time, .bool X.hasKey, k, .bool X.hasVal, u] := by rw [hw1, hb0]; exact Blk.new _ _ _
  have hb1 : Below w.heap.size w w1 := by rw [hw1]; exact (Below.refl _ _).alloc (Nat.le_refl _) _
  have hrl : r < w.heap.size := hr.elim fun A q => q.elim fun c q => q.blk.lt
  have hr1 := hr.keep hb1
  have ht1 := h.below hb1
  have hu1 := hu.below hb1 (Nat.le_refl _)
  have htx := hr1.text 20
  obtain ⟨act, hact⟩ : ∃ a, a = cm.actG L e X := ⟨_, rfl⟩
  rw [← hact]
  unfold cm.actG cm.keyG at hact
  obtain ⟨⟨P, L1, e1⟩, hq⟩ : ∃ q, q = rd.piece L e 20 := ⟨_, rfl⟩
  rw [← hq] at hact htx hsz
  simp only at hact htx hsz
  clear hq
  obtain ⟨s, hs⟩ : ∃ s, s = strOf P := ⟨_, rfl⟩
  unfold TextPost at htx
  rw [← hs] at hact htx hsz
  clear hs
  obtain ⟨E, hE⟩ : ∃ E, E = cm.end_ e1 L1 := ⟨_, rfl⟩
  have hend := fun wx hx => cm.ended_any r L1 e1 wx hx
  rw [← hE] at hact hend
  clear hE
  obtain ⟨t, ht⟩ : ∃ t, t = cm.topic s := ⟨_, rfl⟩
  have htp := fun wx => cm.topic_any s wx hsz
  rw [← ht] at hact htp
  clear ht
  have hbr : b0 ≠ r := by omega
  have hbm : b0 ≠ mo ∧ b0 ≠ mf ∧ b0 ≠ p := by omega
  have H := Lib.hid (And.intro htx (And.intro hend (And.intro htp (And.intro hk1 (And.intro hb1 (And.intro hr1 (And.intro ht1 (And.intro hu1 (And.intro hb0 (And.intro hn (And.intro hl (And.intro hsz (And.intro hbr hbm)))))))))))))
  clear htx hend htp hk1 hb1 hr1 ht1 hu1 hn hl hsz hr hu h hrl hbr hbm
  have HACT := Lib.hid hact; clear hact
  have HNE := Lib.hid hne; clear hne
  go_enter Try.func39, Try.ntmps39
  go_upto_region 1 with fail
  rw [← hw1, ← hb0]
  clear hw1 hb0
  go_wp2_with fail
  refine H.out.1.mono ?_
  rintro en w2 ⟨rfl, hr2, hc2⟩
  have ht2 := H.out.2.2.2.2.2.2.1.keep hc2 (fun q => HNE.out.1 (by exact q.symm)) (fun q => HNE.out.2.1 (by exact q.symm)) fun q => HNE.out.2.2 (by exact q.symm)
  have hu2 := H.out.2.2.2.2.2.2.2.1.past H.out.2.2.2.2.2.1 hc2
  have hk2 := hc2.blk H.out.2.2.2.1 H.out.2.2.2.2.2.2.2.2.2.2.2.2.1
  have hc2' : Chg w w2 (fun k => k = r ∨ k = mo ∨ k = mf) := (chg_of (P := fun k => k = r ∨ k = mo ∨ k = mf) H.out.2.2.2.2.1).trans hc2 fun k _ q => .inl q
  have H2 := Lib.hid (And.intro (H.out.2.1 w2 hr2) (And.intro ht2 (And.intro hu2 (And.intro hk2 hc2')))); clear hr2 hc2 ht2 hu2 hk2 hc2'
  go_wp2_with fail
  refine H2.out.1.mono ?_
  rintro en w3 ⟨rfl, h3⟩
  subst h3
  have hbad : act = none → ∀ c, c = 2 → cm.appPost w p mo mf r (T.app act) (n + 1) (cm.code act) (.returned (.int .i64 c)) w2 := fun h c hc => by
    rw [h, hc]
    exact ⟨rfl, H2.out.2.1.up (Nat.le_succ _), H2.out.2.2.2.2⟩
  have HBAD := Lib.hid hbad; clear hbad
  cases E with
  | false =>
    have HA := Lib.hid (HBAD.out (by rw [HACT.out]; rfl) 2 rfl)
    go_wp2_with fail
    go_ret
    exact HA.out
  | true =>
    go_wp2_with fail
    refine (H.out.2.2.1 _).mono ?_
    rintro en w3 ⟨rfl, h3⟩
    subst h3
    cases t with
    | false =>
      have HA := Lib.hid (HBAD.out (by rw [HACT.out]; rfl) 2 rfl)
      go_wp2_with fail
      go_ret
      exact HA.out
    | true =>
      have hact : act = cm.valG s X := HACT.out
      unfold cm.valG at hact
      have c4 := H2.out.2.2.2.1.cell 4 (v := .bool X.hasVal) rfl
      have c5 := H2.out.2.2.2.1.cell 5 (v := u) rfl
      have cl := H2.out.2.2.2.1.lt
      obtain ⟨hv, hhv⟩ : ∃ b, b = X.hasVal := ⟨_, rfl⟩
      rw [← hhv] at hact c4
      clear hhv
      obtain ⟨No, Nf, a1, a2, a3, a4, a5, a6, a7⟩ := H2.out.2.1
      have m1 := a1.cell 1 rfl
      have A := Lib.hid (And.intro a1 (And.intro a2 (And.intro a3 (And.intro a4 (And.intro a5 (And.intro a6 a7)))))); clear a1 a2 a3 a4 a5 a6 a7
      cases hv with
      | false =>
        rw [if_neg (by simp)] at hact
        have HA := Lib.hid hact; clear hact
        obtain ⟨w4, hdel, hgm4, hc4, hs4⟩ := A.out.2.2.1.drop Try.underlying68 s H.out.2.2.2.2.2.2.2.2.2.2.2.1 0
        replace hdel : (Builtin.delete_ #[68, 9] 0 #[.map (some mf), .string s]).run Try.prog w2 = .ok (.tuple #[]) w4 := hdel
        have H4 := Lib.hid (And.intro hgm4 hc4); clear hgm4 hc4 hs4
        go_wp2_with fail
        go_ret
        rw [HA.out]
        refine ⟨rfl, TabAt.sink (H4.out.2.blk A.out.1 (A.out.2.2.1.not_blk A.out.1)) (A.out.2.1.chg H4.out.2 A.out.2.2.2.2.2.1) H4.out.1 ?_ ?_ A.out.2.2.2.2.2.1 A.out.2.2.2.2.2.2, H2.out.2.2.2.2.trans H4.out.2 fun _ _ q => .inr (.inr q)⟩
        · have := A.out.2.2.2.1; omega
        · have := A.out.2.2.2.2.1; split <;> omega
      | true =>
        rw [if_pos rfl] at hact
        have hnum := cm.number_any u X.val w2 H2.out.2.2.1
        obtain ⟨b, hb⟩ : ∃ b, b = cm.numOk X.val := ⟨_, rfl⟩
        rw [← hb] at hact hnum
        clear hb
        obtain ⟨q, hq⟩ : ∃ q, q = (rd.num X.val 0).1 := ⟨_, rfl⟩
        rw [← hq] at hact hnum
        clear hq
        have HA := Lib.hid (And.intro hact hnum); clear hact hnum m1
        go_wp2_with fail
        refine HA.out.2.mono ?_
        rintro en w3 ⟨rfl, h3⟩
        have ht3 := H2.out.2.1.below h3
        have hc3 : Chg w w3 (fun k => k = r ∨ k = mo ∨ k = mf) := H2.out.2.2.2.2.trans (chg_of (P := fun _ => False) h3) fun _ _ q => q.elim
        have H3 := Lib.hid (And.intro ht3 hc3); clear ht3 hc3 h3 c4 c5 cl
        cases b with
        | false =>
          have HX : act = none := by rw [HA.out.1]; rfl
          have HY := Lib.hid HX; clear HX
          go_wp2_with fail
          go_ret
          rw [HY.out]
          exact ⟨rfl, H3.out.1.up (Nat.le_succ _), H3.out.2⟩
        | true =>
          obtain ⟨G, hG⟩ : ∃ G, G = cm.gen s q := ⟨_, rfl⟩
          have hact := HA.out.1
          rw [← hG, Bool.true_and] at hact
          cases G with
          | false =>
            rw [if_neg (by simp)] at hact
            have HY := Lib.hid (And.intro hact (cm.tgen_bad s q p w3 H.out.2.2.2.2.2.2.2.2.2.2.2.1 hG.symm)); clear hact hG
            go_wp2_with fail
            refine HY.out.2.mono ?_
            rintro en w4 ⟨rfl, h4⟩
            subst h4
            go_wp2_with fail
            go_ret
            rw [HY.out.1]
            exact ⟨rfl, H3.out.1.up (Nat.le_succ _), H3.out.2⟩
          | true =>
            rw [if_pos rfl] at hact
            have HY := Lib.hid (And.intro hact (cm.tgen_ok s q p mo mf T n w3 H3.out.1 hG.symm H.out.2.2.2.2.2.2.2.2.2.1)); clear hact hG
            go_wp2_with fail
            refine HY.out.2.mono ?_
            rintro en w4 ⟨rfl, ht4, hc4⟩
            have H4 := Lib.hid (And.intro ht4 hc4); clear ht4 hc4
            go_wp2_with fail
            go_ret
            rw [HY.out.1]
            exact ⟨rfl, H4.out.1, H3.out.2.trans H4.out.2 fun _ _ q => .inr q⟩
end
section
open Go.RowKit Go.Maps
set_option maxRecDepth 100000
def cm.valE (e : CEnt) (x : Rec) : Option CAct := if x.hasVal = true then (if (cm.numOk x.val && (⟨e.grp, e.top, e.part, (rd.num x.val 0).1⟩ : CEnt).ok) = true then some (.put ⟨e.grp, e.top, e.part, (rd.num x.val 0).1⟩) else none) else some (.del e)
def cm.keyE (L : List Nat) (e : Int) : Option CEnt :=
  let a := rd.piece L e 20
  let b := rd.piece a.2.1 a.2.2 20
  let n := rd.num b.2.1 b.2.2
  if (cm.end_ n.2.2 n.2.1 && cm.place (strOf a.1) (strOf b.1) n.1) = true then some ⟨strOf a.1, strOf b.1, n.1, 0⟩ else none
def cm.actE (L : List Nat) (e : Int) (x : Rec) : Option CAct := match cm.keyE L e with | none => none | some e => cm.valE e x
theorem cm.no_byte (s t : ByteArray) (q o : Int) (L : List Nat) (j : Nat) (u : Value) (hj : (#[.string s, .string t, .int .i64 q, .int .i64 o] : Array Value)[j]? = some u) : u ≠ byteAt L 0 := by
  have hj6 : j < 4 := by
    have := (Array.getElem?_eq_some_iff.1 hj).1
    simpa using this
  unfold byteAt
  rcases (by omega : j = 0 ∨ j = 1 ∨ j = 2 ∨ j = 3) with rfl | rfl | rfl | rfl <;> (injection hj with hj; rw [← hj]; intro h; cases h)
theorem CTab.app_del (T : CTab) {e : CEnt} {x : PlK} (h1 : x.g = e.grp) (h2 : x.t = e.top) (h3 : x.p = e.part) : T.app (some (.del e)) = T.del x := by
  have h := CEnt.plk_of h1 h2 h3
  simp only [CTab.app, CTab.does, h]
theorem CTab.app_put (T : CTab) {e : CEnt} {x : PlK} (h1 : x.g = e.grp) (h2 : x.t = e.top) (h3 : x.p = e.part) : T.app (some (.put e)) = T.put x e.off := by
  have h := CEnt.plk_of h1 h2 h3
  simp only [CTab.app, CTab.does, h]
/-- How it stands within applyEntry. -/
structure ESt (w w' : World) (p mo mf r b0 b1 : Nat) (T : CTab) (n : Nat) (X : Rec) (k u : Value) (s t : ByteArray) (q o : Int) (L : List Nat) (e : Int) : Prop where
  tab : TabAt w' p mo mf T n
  rc : Blk w' b0 37 #[.int .i64 X.off, .int .i64 X.time, .bool X.hasKey, k, .bool X.hasVal, u]
  ent : Blk w' b1 42 #[.string s, .string t, .int .i64 q, .int .i64 o]
  rd : RdIs w' r L e
  val : BytesV w' u X.val
  chg : Chg w w' (fun k => (k = r ∨ k = mo ∨ k = mf) ∨ w.heap.size ≤ k)
  n0 : b0 = w.heap.size
  n1 : b0 < b1
  n2 : r < b0
  n3 : p < b0 ∧ mo < b0 ∧ mf < b0 ∧ mo ≠ mf
  n4 : r ≠ p ∧ r ≠ mo ∧ r ≠ mf
theorem ESt.below {w w' w'' : World} {p mo mf r b0 b1 n : Nat} {T : CTab} {X : Rec} {k u : Value} {s t : ByteArray} {q o e : Int} {L : List Nat} (h : ESt w w' p mo mf r b0 b1 T n X k u s t q o L e) (hb : Below w'.heap.size w' w'') : ESt w w'' p mo mf r b0 b1 T n X k u s t q o L e :=
  ⟨h.tab.below hb, (chg_of (P := fun _ => False) hb).blk h.rc fun q => q, (chg_of (P := fun _ => False) hb).blk h.ent fun q => q, h.rd.keep hb, h.val.below hb (Nat.le_refl _), h.chg.trans (chg_of (P := fun _ => False) hb) fun _ _ q => q.elim, h.n0, h.n1, h.n2, h.n3, h.n4⟩
theorem ESt.read {w w' w'' : World} {p mo mf r b0 b1 n : Nat} {T : CTab} {X : Rec} {k u : Value} {s t : ByteArray} {q o e e2 : Int} {L L2 : List Nat} (h : ESt w w' p mo mf r b0 b1 T n X k u s t q o L e) (hr : RdIs w'' r L2 e2) (hc : Chg w' w'' (rdT r)) : ESt w w'' p mo mf r b0 b1 T n X k u s t q o L2 e2 := by
  have h3 := h.n3
  have h4 := h.n4
  have h1 := h.n1
  have h2 := h.n2
  exact ⟨h.tab.keep hc (fun q => by have q : p = r := q; omega) (fun q => by have q : mo = r := q; omega) (fun q => by have q : mf = r := q; omega), hc.blk h.rc (fun q => by have q : b0 = r := q; omega), hc.blk h.ent (fun q => by have q : b1 = r := q; omega), hr, h.val.past h.rd hc, h.chg.trans hc fun k _ q => .inl (.inl q), h.n0, h.n1, h.n2, h.n3, h.n4⟩
theorem ESt.set {w w' : World} {p mo mf r b0 b1 n : Nat} {T : CTab} {X : Rec} {k u : Value} {s t s' t' : ByteArray} {q o q' o' e : Int} {L : List Nat} (h : ESt w w' p mo mf r b0 b1 T n X k u s t q o L e) (j : Nat) (v : Value)
    (hs : (#[.string s, .string t, .int .i64 q, .int .i64 o] : Array Value).setIfInBounds j v = #[.string s', .string t', .int .i64 q', .int .i64 o']) : ESt w (w'.setCell ⟨b1, j, none⟩ v) p mo mf r b0 b1 T n X k u s' t' q' o' L e := by
  have h3 := h.n3
  have h4 := h.n4
  have h1 := h.n1
  have h2 := h.n2
  have h0 := h.n0
  have hc := Chg.setCell w' b1 j v
  obtain ⟨A, c, hr⟩ := h.rd
  obtain ⟨A', c', hu, hv, hv2⟩ := h.val
  refine ⟨h.tab.keep hc (fun q => by have q : p = b1 := q; omega) (fun q => by have q : mo = b1 := q; omega) (fun q => by have q : mf = b1 := q; omega), hc.blk h.rc (fun q => by have q : b0 = b1 := q; omega), hs ▸ h.ent.set j v, ⟨A, c, hc.blk hr.blk (fun q => by have q : r = b1 := q; omega), hc.at' hr.lie (fun hn b off e q => hr.lie.not_blk hn h.ent (fun j u hj => cm.no_byte _ _ _ _ _ j u hj) b off e q), hr.len, hr.cap, hr.byte⟩, ⟨A', c', hu, hc.at' hv (fun hn b off e q => hv.not_blk hn h.ent (fun j u hj => cm.no_byte _ _ _ _ _ j u hj) b off e q), hv2⟩, h.chg.trans hc (fun k _ q => .inr (by have q : k = b1 := q; omega)), h.n0, h.n1, h.n2, h.n3, h.n4⟩
theorem ESt.end_ {w w' : World} {p mo mf r b0 b1 n : Nat} {T T2 : CTab} {X : Rec} {k u : Value} {s t : ByteArray} {q o e : Int} {L : List Nat} (h : ESt w w' p mo mf r b0 b1 T n X k u s t q o L e) {w'' : World} {N : Nat} (ht : TabAt w'' p mo mf T2 N) (hc : Chg w' w'' (fun k => k = mo ∨ k = mf)) (c : Int) : cm.appPost w p mo mf r T2 N c (.returned (.int .i64 c)) w'' := by
  have h1 := h.chg.trans hc fun k _ q => .inl (.inr q)
  exact ⟨rfl, ht, ⟨h1.os, h1.tape, h1.output, h1.size, fun k hk hp => h1.block k hk fun q => q.elim hp fun q => by omega⟩⟩
theorem ESt.same {w w' : World} {p mo mf r b0 b1 n : Nat} {T : CTab} {X : Rec} {k u : Value} {s t : ByteArray} {q o e : Int} {L : List Nat} (h : ESt w w' p mo mf r b0 b1 T n X k u s t q o L e) (c : Int) : cm.appPost w p mo mf r T (n + 1) c (.returned (.int .i64 c)) w' := h.end_ (h.tab.up (Nat.le_succ _)) (Chg.refl _ _) c
set_option maxHeartbeats 4000000 in
theorem cm.applyE_any (r : Nat) (L : List Nat) (e : Int) (X : Rec) (k u : Value) (p mo mf : Nat) (T : CTab) (n : Nat) (w : World) (hr : RdIs w r L e) (hu : BytesV w u X.val) (h : TabAt w p mo mf T n) (hn : n < maxLen) (hne : r ≠ p ∧ r ≠ mo ∧ r ≠ mf) :
    Calls Try.prog 38 #[.pointer (some ⟨p, 0, none⟩), .pointer (some ⟨r, 0, none⟩), .agg #[.int .i64 X.off, .int .i64 X.time, .bool X.hasKey, k, .bool X.hasVal, u]] w (cm.appPost w p mo mf r (T.app (cm.actE L e X)) (n + 1) (cm.code (cm.actE L e X))) := by
  have hl := h.lt
  have hrl : r < w.heap.size := hr.elim fun A q => q.elim fun c q => q.blk.lt
  have hLl := hr.len
  obtain ⟨b0, hb0⟩ : ∃ b, b = w.heap.size := ⟨_, rfl⟩
  obtain ⟨w1, hw1⟩ : ∃ w1, w1 = w.alloc (.cells #[.int .i64 X.off, .int .i64 X.time, .bool X.hasKey, k, .bool X.hasVal, u] 37) := ⟨_, rfl⟩
  have hk1 : Blk w1 b0 37 #[.int .i64 X.off, .int .i64 X.time, .bool X.hasKey, k, .bool X.hasVal, u] := by rw [hw1, hb0]; exact Blk.new _ _ _
  have hb1 : Below w.heap.size w w1 := by rw [hw1]; exact (Below.refl _ _).alloc (Nat.le_refl _) _
  have hr1 := hr.keep hb1
  have ht1 := h.below hb1
  have hu1 := hu.below hb1 (Nat.le_refl _)
  obtain ⟨act, hact⟩ : ∃ a, a = cm.actE L e X := ⟨_, rfl⟩
  rw [← hact]
  unfold cm.actE cm.keyE at hact
  have htx := hr1.text 20
  have hsz : (strOf (rd.piece L e 20).1).size ≤ maxLen := by rw [strOf_size]; exact Nat.le_trans (rd.piece_le L e 20) hLl
  unfold TextPost at htx
  obtain ⟨⟨P, L1, e1⟩, hq⟩ : ∃ q, q = rd.piece L e 20 := ⟨_, rfl⟩
  rw [← hq] at hact htx hsz
  simp only at hact htx hsz
  clear hq
  obtain ⟨s, hs⟩ : ∃ s, s = strOf P := ⟨_, rfl⟩
  rw [← hs] at hact htx hsz
  clear hs
  have htx2 := fun wx (hx : RdIs wx r L1 e1) => hx.text 20
  have hsz2 : ∀ wx, RdIs wx r L1 e1 → (strOf (rd.piece L1 e1 20).1).size ≤ maxLen := fun wx hx => by rw [strOf_size]; exact Nat.le_trans (rd.piece_le L1 e1 20) hx.len
  unfold TextPost at htx2
  obtain ⟨⟨P2, L2, e2⟩, hq⟩ : ∃ q, q = rd.piece L1 e1 20 := ⟨_, rfl⟩
  rw [← hq] at hact htx2 hsz2
  simp only at hact htx2 hsz2
  clear hq
  obtain ⟨t, hs⟩ : ∃ s, s = strOf P2 := ⟨_, rfl⟩
  rw [← hs] at hact htx2 hsz2
  clear hs
  have hnm := fun wx (hx : RdIs wx r L2 e2) => hx.num
  unfold RdPost at hnm
  obtain ⟨⟨q, L3, e3⟩, hq⟩ : ∃ q, q = rd.num L2 e2 := ⟨_, rfl⟩
  rw [← hq] at hact hnm
  simp only at hact hnm
  clear hq
  obtain ⟨E, hE⟩ : ∃ E, E = cm.end_ e3 L3 := ⟨_, rfl⟩
  have hend := fun wx hx => cm.ended_any r L3 e3 wx hx
  rw [← hE] at hact hend
  clear hE
  have H := Lib.hid (And.intro htx (And.intro htx2 (And.intro hnm (And.intro hend (And.intro hk1 (And.intro hb1 (And.intro hr1 (And.intro ht1 (And.intro hu1 (And.intro hb0 (And.intro hn (And.intro hl (And.intro hsz (And.intro hsz2 hrl))))))))))))))
  clear htx htx2 hnm hend hk1 hb1 hr1 ht1 hu1 hn hl hsz hsz2 hr hu h hrl hLl
  have HACT := Lib.hid hact; clear hact
  have HNE := Lib.hid hne; clear hne
  go_enter Try.func38, Try.ntmps38
  go_upto_region 1 with fail
  rw [← hw1, ← hb0]
  clear hw1 hb0
  go_wp2_with fail
  refine H.out.1.mono ?_
  rintro en w2 ⟨rfl, hr2, hc2⟩
  obtain ⟨b1, hb1⟩ : ∃ b, b = w2.heap.size := ⟨_, rfl⟩
  obtain ⟨w3, hw3⟩ : ∃ w3, w3 = w2.alloc (.cells #[.string s, .string ⟨#[]⟩, .int .i64 0, .int .i64 0] 42) := ⟨_, rfl⟩
  have hE3 : ESt w w3 p mo mf r b0 b1 T n X k u s ⟨#[]⟩ 0 0 L1 e1 := by
    have hbb : Below w2.heap.size w2 w3 := by rw [hw3]; exact (Below.refl _ _).alloc (Nat.le_refl _) _
    have hlw := H.out.2.2.2.2.2.2.2.2.2.2.2.1
    have h0 := H.out.2.2.2.2.2.2.2.2.2.1
    have hrl := H.out.2.2.2.2.2.2.2.2.2.2.2.2.2.2
    have hrb : r < b0 := by omega
    have hs2 := hc2.size
    have hs1 := H.out.2.2.2.2.2.1.size
    have hk1 := H.out.2.2.2.2.1.lt
    have hd := HNE.out
    have h2 : TabAt w2 p mo mf T n := H.out.2.2.2.2.2.2.2.1.keep hc2 (fun q => HNE.out.1 (by exact q.symm)) (fun q => HNE.out.2.1 (by exact q.symm)) fun q => HNE.out.2.2 (by exact q.symm)
    have hcc : Chg w w2 (fun k => (k = r ∨ k = mo ∨ k = mf) ∨ w.heap.size ≤ k) := (chg_of (P := fun k => (k = r ∨ k = mo ∨ k = mf) ∨ w.heap.size ≤ k) H.out.2.2.2.2.2.1).trans hc2 fun k _ q => .inl (.inl q)
    exact ⟨h2.below hbb, (chg_of (P := fun _ => False) hbb).blk (hc2.blk H.out.2.2.2.2.1 (fun q => by have q : b0 = r := q; omega)) fun q => q, by rw [hw3, hb1]; exact Blk.new _ _ _, hr2.keep hbb, ((H.out.2.2.2.2.2.2.2.2.1).past H.out.2.2.2.2.2.2.1 hc2).below hbb (Nat.le_refl _), hcc.trans (chg_of (P := fun _ => False) hbb) fun _ _ q => q.elim, h0, by omega, hrb, by omega, HNE.out⟩
  have H2 := Lib.hid hE3; clear hE3 hr2 hc2
  go_upto_region 2 with fail
  rw [← hw3, ← hb1]
  clear hw3 hb1
  go_wp2_with fail
  refine (H.out.2.1 w3 H2.out.rd).mono ?_
  rintro en w4 ⟨rfl, hr4, hc4⟩
  have hE4 := H2.out.read hr4 hc4
  have htl := H.out.2.2.2.2.2.2.2.2.2.2.2.2.2.1 w3 H2.out.rd
  have f1 := hE4.ent.cell 1 (v := .string ⟨#[]⟩) rfl
  have g1 := hE4.ent.frozen 1
  have l1 := hE4.ent.lt
  have H4 := Lib.hid hE4; clear hE4 hr4 hc4 H2
  go_upto_region 3 with fail
  clear f1 g1 l1
  have hE5 := H4.out.set (s' := s) (t' := t) (q' := 0) (o' := 0) 1 (.string t) rfl
  obtain ⟨w5, hw5⟩ : ∃ w5, w5 = w4.setCell ⟨b1, 1, none⟩ (.string t) := ⟨_, rfl⟩
  rw [← hw5] at hE5 ⊢
  clear hw5
  have H5 := Lib.hid hE5; clear hE5 H4
  go_wp2_with fail
  refine (H.out.2.2.1 w5 H5.out.rd).mono ?_
  rintro en w6 ⟨rfl, hr6, hc6⟩
  have hE6 := H5.out.read hr6 hc6
  have f1 := hE6.ent.cell 2 (v := .int .i64 0) rfl
  have g1 := hE6.ent.frozen 2
  have l1 := hE6.ent.lt
  have H6 := Lib.hid hE6; clear hE6 hr6 hc6 H5
  go_upto_region 4 with fail
  clear f1 g1 l1
  have hE7 := H6.out.set (s' := s) (t' := t) (q' := q) (o' := 0) 2 (.int .i64 q) rfl
  obtain ⟨w7, hw7⟩ : ∃ w7, w7 = w6.setCell ⟨b1, 2, none⟩ (.int .i64 q) := ⟨_, rfl⟩
  rw [← hw7] at hE7 ⊢
  clear hw7
  have H7 := Lib.hid hE7; clear hE7 H6
  go_wp2_with fail
  refine (H.out.2.2.2.1 w7 H7.out.rd).mono ?_
  rintro en w8 ⟨rfl, h8⟩
  subst h8
  have hbad : act = none → cm.appPost w p mo mf r (T.app act) (n + 1) (cm.code act) (.returned (.int .i64 2)) w7 := fun h => by rw [h]; exact H7.out.same 2
  have HBAD := Lib.hid hbad; clear hbad
  have HSZ := Lib.hid (And.intro H.out.2.2.2.2.2.2.2.2.2.2.2.2.1 (And.intro htl H.out.2.2.2.2.2.2.2.2.2.2.1)); clear htl H
  cases E with
  | false =>
    have HA := Lib.hid (HBAD.out (by rw [HACT.out]; rfl))
    go_wp2_with fail
    go_ret
    exact HA.out
  | true =>
    have f0 := H7.out.ent.cell 0 (v := .string s) rfl
    have f1 := H7.out.ent.cell 1 (v := .string t) rfl
    have f2 := H7.out.ent.cell 2 (v := .int .i64 q) rfl
    have f3 := H7.out.ent.cell 3 (v := .int .i64 0) rfl
    have fl := H7.out.ent.lt
    go_wp2_with fail
    clear f0 f1 f2 f3 fl
    refine (cm.place_any ⟨s, t, q, 0⟩ w7).mono ?_
    rintro en w9 ⟨rfl, h9⟩
    have H9 := Lib.hid (H7.out.below h9); clear h9
    go_wp2_with fail
    refine (cm.may_any s t q w9 HSZ.out.1 HSZ.out.2.1).mono ?_
    rintro en w10 ⟨rfl, h10⟩
    have H10 := Lib.hid (H9.out.below h10); clear h10 H9 H7 HBAD
    have hact := HACT.out
    rw [Bool.true_and] at hact
    obtain ⟨pl, hpl⟩ : ∃ b, b = cm.place s t q := ⟨_, rfl⟩
    rw [← hpl] at hact ⊢
    clear HACT
    cases pl with
    | false =>
      have HA := Lib.hid hact; clear hact hpl
      go_wp2_with fail
      go_ret
      rw [HA.out]
      exact H10.out.same 2
    | true =>
      have hpf := cm.place_fit hpl.symm
      clear hpl
      have hact : act = cm.valE ⟨s, t, q, 0⟩ X := hact
      unfold cm.valE at hact
      have hxx : ∃ x : PlK, x.g = s ∧ x.t = t ∧ x.p = q := ⟨cm.mk s t q hpf.1 hpf.2.1 hpf.2.2.1 hpf.2.2.2, rfl, rfl, rfl⟩
      obtain ⟨x, hx1, hx2, hx3⟩ := hxx
      clear hpf
      subst hx1 hx2 hx3
      have c4 := H10.out.rc.cell 4 (v := .bool X.hasVal) rfl
      have c5 := H10.out.rc.cell 5 (v := u) rfl
      have cl := H10.out.rc.lt
      obtain ⟨hv, hhv⟩ : ∃ b, b = X.hasVal := ⟨_, rfl⟩
      rw [← hhv] at hact c4
      clear hhv
      cases hv with
      | false =>
        rw [if_neg (by simp)] at hact
        have HA := Lib.hid hact; clear hact
        go_upto_region 7 with fail
        clear c4 c5 cl
        obtain ⟨No, Nf, a1, a2, a3, a4, a5, a6, a7⟩ := H10.out.tab
        have A := Lib.hid (And.intro a1 (And.intro a2 (And.intro a3 (And.intro a4 (And.intro a5 (And.intro a6 a7)))))); clear a1 a2 a3 a4 a5 a6 a7
        have hne : b1 ≠ mo := by have := H10.out.n3; have := H10.out.n1; omega
        have hkd : ∀ y : Later w10 (fun k => k = mo), Blk y.1 b1 42 #[.string x.g, .string x.t, .int .i64 x.p, .int .i64 0] := fun y => y.2.blk H10.out.ent hne
        have z0 : ∀ y : Later w10 (fun k => k = mo), y.1.cell? ⟨p, 0, none⟩ = some (.map (some mo)) := fun y => (y.2.blk A.out.1 (A.out.2.1.not_blk A.out.1)).cell 0 rfl
        have HKD := Lib.hid hkd; clear hkd
        have hS0 : later w10 (fun k => k = mo) w10.drew := later_of ((Chg.refl _ _).drew)
        refine wp_plan (S := fun w0 => ∃ y : Later w10 (fun k => k = mo), w0 = y.1) (by kernel_rfl) hS0 ?_
        intro hS' K5 hK5
        have HS := Lib.hid hS'; clear hS' hS0
        refine plan_group [true, true, true, true, true] [0, 1, 2, 3, 4] 2 (by dsimp only [sel]) (by rfl) rfl (by kernel_rfl) (by kernel_rfl) HS.out ?_
        iterate 4 go_big_quiet_step (fail)
        refine cm.quiet_row rfl 42 (.tmp 7) rfl b1 rfl 42 #[.string x.g, .string x.t, .int .i64 x.p, .int .i64 0] _ (fun w0 ⟨x, hx⟩ => hx ▸ HKD.out x) Try.underlying42 rfl cm.info_entry ?_
        go_simp
        (repeat go_big_quiet_step (fail)); refine wpQuiet_nil ?_
        clear z0
        refine plan_one [false, false, false, false, false, true] 5 1 (by dsimp only [sel]) (by rfl) rfl (by kernel_rfl) ?_; intro K1 hK1
        go_wp2_with (go_at_call 31; refine (cm.place_any ⟨x.g, x.t, x.p, 0⟩ _).mono ?_; rintro en w11 ⟨rfl, h3⟩; have HB3 := Lib.hid h3; clear h3)
        have hc3 : Chg w10 w11 (fun k => k = mo) := ((Chg.refl w10 _).drew).trans (chg_of (P := fun _ => False) HB3.out) fun _ _ q => q.elim
        have hb3' : Below w10.heap.size w10 w11 := (bdrew (Below.refl _ _) 1).trans (HB3.out.mono (Nat.le_of_eq (by simp)))
        have H3 := Lib.hid (And.intro hc3 hb3'); clear hc3 hb3' HB3
        refine ⟨by first | exact later_of H3.out.1 | exact fun _ => later_of H3.out.1, ?_⟩
        refine plan_one [false, false, false, false, false, false, true] 6 0 (by dsimp only [sel]) (by rfl) rfl (by kernel_rfl) ?_; intro K2 hK2
        have hgm := A.out.2.1.below H3.out.2 A.out.2.1.lt
        obtain ⟨w12, hdel, hgm4, hc4, hs4⟩ := hgm.drop Try.underlying67 x trivial 0
        replace hdel : (Builtin.delete_ #[67, 72] 0 #[.map (some mo), .agg #[.string x.g, .string x.t, .int .i64 x.p]]).run Try.prog w11 = .ok (.tuple #[]) w12 := hdel
        have hc24 : Chg w10 w12 (fun k => k = mo) := (chg_of (P := fun k => k = mo) H3.out.2).trans hc4 fun _ _ q => q
        have H4 := Lib.hid (And.intro hgm4 hc24); clear hgm4 hc4 hc24 hgm hs4
        go_wp2_with fail
        refine ⟨later_of H4.out.2, ?_⟩
        refine wp_plan_end (by kernel_rfl) ?_
        refine hK5 _ _ ?_
        clear HS
        go_wp2
        go_ret
        rw [HA.out]
        rw [CTab.app_del T (x := x) rfl rfl rfl]
        refine H10.out.end_ (TabAt.del (H4.out.2.blk A.out.1 (A.out.2.1.not_blk A.out.1)) H4.out.1 (A.out.2.2.1.chg H4.out.2 (fun q => A.out.2.2.2.2.2.1 q.symm)) ?_ ?_ A.out.2.2.2.2.2.1 A.out.2.2.2.2.2.2) (H4.out.2.mono fun _ _ q => .inl q) 0
        · have := A.out.2.2.2.1; split <;> omega
        · have := A.out.2.2.2.2.1; omega
      | true =>
        rw [if_pos rfl] at hact
        have hnum := cm.number_any u X.val w10 H10.out.val
        obtain ⟨b, hb⟩ : ∃ b, b = cm.numOk X.val := ⟨_, rfl⟩
        rw [← hb] at hact hnum
        clear hb
        obtain ⟨v, hq⟩ : ∃ q, q = (rd.num X.val 0).1 := ⟨_, rfl⟩
        rw [← hq] at hact hnum
        clear hq
        have HA := Lib.hid (And.intro hact hnum); clear hact hnum
        go_upto_region 10 with fail
        refine HA.out.2.mono ?_
        rintro en w11 ⟨rfl, h11⟩
        have hE11 := H10.out.below h11
        clear c4 c5 cl
        have f1 := hE11.ent.cell 3 (v := .int .i64 0) rfl
        have g1 := hE11.ent.frozen 3
        have l1 := hE11.ent.lt
        have H11 := Lib.hid hE11; clear hE11 h11 H10
        go_upto_region 11 with fail
        clear f1 g1 l1
        have hE12 := H11.out.set (s' := x.g) (t' := x.t) (q' := x.p) (o' := v) 3 (.int .i64 v) rfl
        obtain ⟨w12, hw12⟩ : ∃ w5, w5 = w11.setCell ⟨b1, 3, none⟩ (.int .i64 v) := ⟨_, rfl⟩
        rw [← hw12] at hE12 ⊢
        clear hw12
        have H12 := Lib.hid hE12; clear hE12 H11
        cases b with
        | false =>
          have HX : act = none := by rw [HA.out.1]; rfl
          have HY := Lib.hid HX; clear HX
          go_wp2_with fail
          go_ret
          rw [HY.out]
          exact H12.out.same 2
        | true =>
          obtain ⟨G, hG⟩ : ∃ G, G = (⟨x.g, x.t, x.p, v⟩ : CEnt).ok := ⟨_, rfl⟩
          have hact := HA.out.1
          rw [← hG, Bool.true_and] at hact
          have f0 := H12.out.ent.cell 0 (v := .string x.g) rfl
          have f1 := H12.out.ent.cell 1 (v := .string x.t) rfl
          have f2 := H12.out.ent.cell 2 (v := .int .i64 x.p) rfl
          have f3 := H12.out.ent.cell 3 (v := .int .i64 v) rfl
          have fl := H12.out.ent.lt
          cases G with
          | false =>
            rw [if_neg (by simp)] at hact
            have HY := Lib.hid (And.intro hact (cm.put_bad ⟨x.g, x.t, x.p, v⟩ p w12 ⟨x.hg, x.ht⟩ hG.symm)); clear hact hG
            go_wp2_with fail
            clear f0 f1 f2 f3 fl
            refine HY.out.2.mono ?_
            rintro en w13 ⟨rfl, h4⟩
            have H13 := Lib.hid (H12.out.below h4); clear h4
            go_wp2_with fail
            go_ret
            rw [HY.out.1]
            exact H13.out.same 2
          | true =>
            rw [if_pos rfl] at hact
            have HY := Lib.hid (And.intro hact (cm.put_ok ⟨x.g, x.t, x.p, v⟩ x rfl rfl rfl p mo mf T n w12 H12.out.tab hG.symm HSZ.out.2.2)); clear hact hG
            go_wp2_with fail
            clear f0 f1 f2 f3 fl
            refine HY.out.2.mono ?_
            rintro en w13 ⟨rfl, ht4, hc4⟩
            have H13 := Lib.hid (And.intro ht4 hc4); clear ht4 hc4
            go_wp2_with fail
            go_ret
            rw [HY.out.1, CTab.app_put T (x := x) rfl rfl rfl]
            exact H12.out.end_ H13.out.1 H13.out.2 0
end
section
open Go.RowKit Go.Maps
set_option maxRecDepth 100000
/-- What a record asks. -/
def cm.act (X : Rec) : Option CAct :=
  if X.hasKey = false then none else
  if strOf (rd.piece X.key 0 1).1 = ⟨#[111]⟩ then cm.actE (rd.piece X.key 0 1).2.1 (rd.piece X.key 0 1).2.2 X else
  if strOf (rd.piece X.key 0 1).1 = ⟨#[103]⟩ then cm.actG (rd.piece X.key 0 1).2.1 (rd.piece X.key 0 1).2.2 X else none
theorem cm.one_list (x : UInt8) : (⟨#[x]⟩ : ByteArray).toList = [x] := by rw [ByteArray.toList_eq]
theorem cm.one_is {s : ByteArray} {x : UInt8} (h : s = ⟨#[x]⟩) : s.toList = [x] ∧ (s.toList == [x]) = true := by rw [h, cm.one_list]; exact ⟨rfl, by simp⟩
theorem cm.one_no {s : ByteArray} {x : UInt8} (h : s ≠ ⟨#[x]⟩) : ¬ s.toList = [x] ∧ (s.toList == [x]) = false := by
  have h1 : ¬ s.toList = [x] := fun e => h (by
    rw [ByteArray.toList_eq] at e
    exact ByteArray.ext (Array.ext' (by rw [e])))
  exact ⟨h1, by simpa using h1⟩
theorem cm.tab_of {w w3 w4 : World} {p mo mf r n : Nat} {T : CTab} {c : Int} {en : Ending} (h : cm.appPost w3 p mo mf r T n c en w4) (hc : Chg w w3 (fun k => w.heap.size ≤ k)) (hr : w.heap.size ≤ r) : cm.tabPost w p mo mf T n c en w4 := by
  obtain ⟨h1, h2, h3⟩ := h
  have h4 : Chg w w4 (fun k => w.heap.size ≤ k ∨ (k = r ∨ k = mo ∨ k = mf)) := (hc.mono fun _ _ q => .inl q).trans h3 fun _ _ q => .inr q
  exact ⟨h1, h2, ⟨h4.os, h4.tape, h4.output, h4.size, fun k hk hp => h4.block k hk fun q => by
    rcases q with q | q | q
    · omega
    · omega
    · exact hp q⟩⟩
theorem cm.apply_nil (v : Value) (X : Rec) (w : World) (hv : cm.RecV w v X) : Calls Try.prog 16 #[.pointer none, v] w fun en w' => en = .returned (.int .i64 1) ∧ Below w.heap.size w w' := by
  obtain ⟨k, u, rfl, -, -⟩ := hv
  go_enter Try.func16, Try.ntmps16
  go_wp2_with fail
  go_ret
  exact ⟨rfl, (Below.refl w.heap.size w).alloc (Nat.le_refl _) _⟩
set_option maxHeartbeats 4000000 in
theorem cm.apply_any (v : Value) (X : Rec) (p mo mf : Nat) (T : CTab) (n : Nat) (w : World) (hv : cm.RecV w v X) (h : TabAt w p mo mf T n) (hn : n < maxLen) :
    Calls Try.prog 16 #[.pointer (some ⟨p, 0, none⟩), v] w (cm.tabPost w p mo mf (T.app (cm.act X)) (n + 1) (cm.code (cm.act X))) := by
  obtain ⟨k, u, rfl, hk, hu⟩ := hv
  have hl := h.lt
  obtain ⟨act, hact⟩ : ∃ a, a = cm.act X := ⟨_, rfl⟩
  rw [← hact]
  unfold cm.act at hact
  obtain ⟨b0, hb0⟩ : ∃ b, b = w.heap.size := ⟨_, rfl⟩
  obtain ⟨w1, hw1⟩ : ∃ w1, w1 = w.alloc (.cells #[.int .i64 X.off, .int .i64 X.time, .bool X.hasKey, k, .bool X.hasVal, u] 37) := ⟨_, rfl⟩
  have hk1 : Blk w1 b0 37 #[.int .i64 X.off, .int .i64 X.time, .bool X.hasKey, k, .bool X.hasVal, u] := by rw [hw1, hb0]; exact Blk.new _ _ _
  have hb1 : Below w.heap.size w w1 := by rw [hw1]; exact (Below.refl _ _).alloc (Nat.le_refl _) _
  have ht1 := h.below hb1
  have hkv := hk.below hb1 (Nat.le_refl _)
  have hu1 := hu.below hb1 (Nat.le_refl _)
  have c2 := hk1.cell 2 (v := .bool X.hasKey) rfl
  have c3 := hk1.cell 3 (v := k) rfl
  have cl := hk1.lt
  have H := Lib.hid (And.intro hk1 (And.intro hb1 (And.intro ht1 (And.intro hu1 (And.intro hb0 (And.intro hn hl)))))); clear hk1 hb1 ht1 hu1 hn hl h hu hk
  cases hhk : X.hasKey with
  | false =>
    rw [if_pos hhk] at hact
    rw [hhk] at c2 hw1
    have HA := Lib.hid hact; clear hact
    clear hhk
    go_enter Try.func16, Try.ntmps16
    go_upto_region 1 with fail
    rw [← hw1, ← hb0]
    clear hw1 hb0
    go_wp2_with fail
    go_ret
    rw [HA.out]
    exact ⟨rfl, H.out.2.2.1.up (Nat.le_succ _), chg_of H.out.2.1⟩
  | true =>
    rw [if_neg (by rw [hhk]; simp)] at hact
    rw [hhk] at c2 hw1
    obtain ⟨A, c, rfl, k1, k2, k3, k4⟩ := hkv
    have hbor := wire.borrow_any A c X.key w1 k1 k2 k3 k4
    have htx := fun r wx (hx : RdIs wx r X.key 0) => hx.text 1
    unfold TextPost at htx
    obtain ⟨⟨P, L1, e1⟩, hq⟩ : ∃ q, q = rd.piece X.key 0 1 := ⟨_, rfl⟩
    rw [← hq] at hact htx
    simp only at hact htx
    clear hq
    obtain ⟨s, hs⟩ : ∃ s, s = strOf P := ⟨_, rfl⟩
    rw [← hs] at hact htx
    clear hs
    obtain ⟨m, hm⟩ : ∃ m, m = X.key.length := ⟨_, rfl⟩
    rw [← hm] at hbor c3 hw1
    have hHK := Lib.hid hhk
    have HKM := Lib.hid hm
    clear hhk hm k1 k2 k3 k4
    have HB := Lib.hid (And.intro hbor htx); clear hbor htx
    rw [← HKM.out] at H ⊢
    rw [hHK.out] at H
    have HACT := Lib.hid hact; clear hact
    have HE := Lib.hid (fun r wx (hx : RdIs wx r L1 e1) k u => cm.applyE_any r L1 e1 X k u p mo mf T n wx hx)
    have HG := Lib.hid (fun r wx (hx : RdIs wx r L1 e1) k u => cm.applyG_any r L1 e1 X k u p mo mf T n wx hx)
    rw [hHK.out] at HE HG
    clear HKM hHK
    go_enter Try.func16, Try.ntmps16
    go_upto_region 1 with fail
    rw [← hw1, ← hb0]
    clear hw1 hb0
    go_wp2_with fail
    refine HB.out.1.mono ?_
    rintro en w2 ⟨r, rfl, hr2, hr, hb2⟩
    clear c2 c3 cl
    have H2 := Lib.hid (And.intro (HB.out.2 r w2 hr2) (And.intro hr2 (And.intro hr hb2))); clear hr2 hr hb2 HB
    go_wp2_with fail
    refine H2.out.1.mono ?_
    rintro en w3 ⟨rfl, hr3, hc3⟩
    have hb2 := H2.out.2.2.2
    have hk3 := hc3.blk ((chg_of (P := fun _ => False) hb2).blk H.out.1 fun q => q) (fun q => by have q : b0 = r := q; have := H2.out.2.2.1; have := H.out.1.lt; omega)
    have hl := H.out.2.2.2.2.2.2
    have hrr := H2.out.2.2.1
    have hs1 := H.out.2.1.size
    have ht3 : TabAt w3 p mo mf T n := (H.out.2.2.1.below hb2).keep hc3 (fun q => by have q : p = r := q; omega) (fun q => by have q : mo = r := q; omega) (fun q => by have q : mf = r := q; omega)
    have hu3 := (H.out.2.2.2.1.below hb2 (Nat.le_refl _)).past H2.out.2.1 hc3
    have hcc : Chg w w3 (fun k => w.heap.size ≤ k) := ((chg_of (P := fun k => w.heap.size ≤ k) H.out.2.1).trans (chg_of (P := fun _ => False) hb2) fun _ _ q => q.elim).trans hc3 fun k _ q => by have q : k = r := q; omega
    have hrw : w.heap.size ≤ r := by omega
    have hne : r ≠ p ∧ r ≠ mo ∧ r ≠ mf := by omega
    have H3 := Lib.hid (And.intro ht3 (And.intro hcc (And.intro hrw (And.intro (HE.out r w3 hr3 (.slice A m c) u hu3 ht3 H.out.2.2.2.2.2.1 hne) (HG.out r w3 hr3 (.slice A m c) u hu3 ht3 H.out.2.2.2.2.2.1 hne)))))
    have d0 := hk3.cell 0 (v := .int .i64 X.off) rfl
    have d1 := hk3.cell 1 (v := .int .i64 X.time) rfl
    have d2 := hk3.cell 2 (v := .bool true) rfl
    have d3 := hk3.cell 3 (v := .slice A m c) rfl
    have d4 := hk3.cell 4 (v := .bool X.hasVal) rfl
    have d5 := hk3.cell 5 (v := u) rfl
    have dl := hk3.lt
    clear hb2 hk3 hl hrr hs1 ht3 hu3 hcc hrw hne hr3 hc3 HE HG H2 H
    by_cases h1 : s = ⟨#[111]⟩
    · obtain ⟨e1, f1⟩ := cm.one_is h1
      have hact := HACT.out
      rw [if_pos h1] at hact
      have HX := Lib.hid (And.intro h1 hact); clear hact HACT h1
      go_wp2_with fail
      refine H3.out.2.2.2.1.mono ?_
      intro en w4 h4
      rw [← HX.out.2] at h4
      have H4 := Lib.hid (cm.tab_of h4 H3.out.2.1 H3.out.2.2.1); clear h4
      have hret := H4.out.1
      subst hret
      go_wp2_with fail
      go_ret
      exact H4.out
    · obtain ⟨e1, f1⟩ := cm.one_no h1
      have hact := HACT.out
      rw [if_neg h1] at hact
      by_cases h2 : s = ⟨#[103]⟩
      · obtain ⟨e2, f2⟩ := cm.one_is h2
        rw [if_pos h2] at hact
        have HX := Lib.hid (And.intro h1 (And.intro h2 hact)); clear hact HACT h1 h2
        go_wp2_with fail
        refine H3.out.2.2.2.2.mono ?_
        intro en w4 h4
        rw [← HX.out.2.2] at h4
        have H4 := Lib.hid (cm.tab_of h4 H3.out.2.1 H3.out.2.2.1); clear h4
        have hret := H4.out.1
        subst hret
        go_wp2_with fail
        go_ret
        exact H4.out
      · obtain ⟨e2, f2⟩ := cm.one_no h2
        rw [if_neg h2] at hact
        have HX := Lib.hid (And.intro h1 (And.intro h2 hact)); clear hact HACT h1 h2
        go_wp2_with fail
        go_ret
        rw [HX.out.2.2]
        exact ⟨rfl, H3.out.1.up (Nat.le_succ _), ⟨H3.out.2.1.os, H3.out.2.1.tape, H3.out.2.1.output, H3.out.2.1.size, fun k hk _ => H3.out.2.1.block k hk (by omega)⟩⟩
end
section
open Go.RowKit Go.Maps
set_option maxRecDepth 100000
theorem rd.piece_ctext (s : ByteArray) (Z : List Nat) (most : Int) (hs : (s.size : Int) ≤ most) (hs2 : s.size ≤ 1000000) : rd.piece (cm.text s ++ Z) 0 most = (strNats s, Z, 0) := by
  have h := rd.piece_put (strNats s) Z most (by rw [strNats_len]; omega) (by rw [strNats_len]; exact hs)
  rw [strNats_len] at h
  unfold cm.text
  rw [List.append_assoc]
  exact h
theorem cm.num_ok (n : Int) (h1 : -9223372036854775808 ≤ n) (h2 : n ≤ 9223372036854775807) : cm.numOk (num.put n) = true ∧ (rd.num (num.put n) 0).1 = n := by
  have h := rd.num_put n [] h1 h2
  rw [List.append_nil] at h
  unfold cm.numOk
  rw [h]
  exact ⟨rfl, rfl⟩
theorem cm.one_str (x : UInt8) : strOf (strNats ⟨#[x]⟩) = ⟨#[x]⟩ := strOf_strNats _
theorem CEnt.key_word (e : CEnt) : rd.piece e.key 0 1 = (strNats ⟨#[111]⟩, cm.text e.grp ++ (cm.text e.top ++ num.put e.part), 0) := by
  have h := rd.piece_ctext ⟨#[111]⟩ (cm.text e.grp ++ (cm.text e.top ++ num.put e.part)) 1 (by decide) (by decide)
  unfold CEnt.key
  rw [List.append_assoc, List.append_assoc]
  exact h
theorem CEnt.key_read {e : CEnt} (hp : cm.place e.grp e.top e.part = true) : cm.keyE (cm.text e.grp ++ (cm.text e.top ++ num.put e.part)) 0 = some ⟨e.grp, e.top, e.part, 0⟩ := by
  have hf := cm.place_fit hp
  have h3 := rd.num_put e.part [] (by omega) (by omega)
  rw [List.append_nil] at h3
  unfold cm.keyE
  simp only [rd.piece_ctext e.grp (cm.text e.top ++ num.put e.part) 20 (by omega) (by omega), rd.piece_ctext e.top (num.put e.part) 20 (by omega) (by omega), h3, strOf_strNats, hp, cm.end_, List.isEmpty_nil]
  rfl
theorem CEnt.ok_pl {e : CEnt} (h : e.ok = true) : cm.place e.grp e.top e.part = true := by
  unfold CEnt.ok at h
  simp only [Bool.and_eq_true] at h
  exact h.1.1
theorem cm.act_told {e : CEnt} (now : Int) (h : e.ok = true) : cm.act (e.told now) = some (.put e) := by
  have hf := e.ok_place h
  obtain ⟨n1, n2⟩ := cm.num_ok e.off (by omega) (by omega)
  have hp := CEnt.ok_pl h
  unfold cm.act
  rw [if_neg (by simp [CEnt.told])]
  show (if strOf (rd.piece e.key 0 1).1 = _ then _ else _) = _
  rw [show (e.told now).key = e.key from rfl, e.key_word]
  simp only [cm.one_str, if_true]
  unfold cm.actE
  rw [CEnt.key_read hp]
  simp only [cm.valE, CEnt.told, n1, n2, Bool.true_and, h, if_true]
theorem cm.act_tomb {e : CEnt} (now : Int) (V : List Nat) (h : e.ok = true) : cm.act ⟨0, now, true, e.key, false, V⟩ = some (.del ⟨e.grp, e.top, e.part, 0⟩) := by
  have hp := CEnt.ok_pl h
  unfold cm.act
  rw [if_neg (by simp)]
  simp only [e.key_word, cm.one_str, if_true]
  unfold cm.actE
  rw [CEnt.key_read hp]
  simp [cm.valE]
theorem cm.gkey_word (g : ByteArray) : rd.piece (cm.gkey g) 0 1 = (strNats ⟨#[103]⟩, cm.text g, 0) := rd.piece_ctext ⟨#[103]⟩ (cm.text g) 1 (by decide) (by decide)
theorem cm.keyG_read {g : ByteArray} (hg : g.size ≤ 20) (ht : cm.topic g = true) : cm.keyG (cm.text g) 0 = some g := by
  have h := rd.piece_ctext g [] 20 (by omega) (by omega)
  rw [List.append_nil] at h
  unfold cm.keyG
  simp only [h, strOf_strNats, ht, cm.end_, List.isEmpty_nil]
  rfl
theorem cm.gen_topic {g : ByteArray} {n : Int} (h : cm.gen g n = true) : cm.topic g = true := by
  unfold cm.gen at h
  simp only [Bool.and_eq_true] at h
  exact h.1.1
theorem cm.ne_og : ¬ (⟨#[103]⟩ : ByteArray) = ⟨#[111]⟩ := by decide
theorem cm.act_grec {g : ByteArray} {n : Int} (now : Int) (h : cm.gen g n = true) : cm.act (cm.grec g n now) = some (.up g n) := by
  have hf := cm.gen_facts h
  obtain ⟨n1, n2⟩ := cm.num_ok n (by omega) (by omega)
  unfold cm.act
  rw [if_neg (by simp [cm.grec])]
  simp only [cm.grec, cm.gkey_word, cm.one_str, cm.ne_og, if_true, if_false]
  unfold cm.actG
  rw [cm.keyG_read hf.1 (cm.gen_topic h)]
  simp only [cm.valG, n1, n2, Bool.true_and, h, if_true]
theorem cm.act_gtomb {g : ByteArray} {n : Int} (now : Int) (V : List Nat) (h : cm.gen g n = true) : cm.act ⟨0, now, true, cm.gkey g, false, V⟩ = some (.down g) := by
  have hf := cm.gen_facts h
  unfold cm.act
  rw [if_neg (by simp)]
  simp only [cm.gkey_word, cm.one_str, cm.ne_og, if_true, if_false]
  unfold cm.actG
  rw [cm.keyG_read hf.1 (cm.gen_topic h)]
  simp [cm.valG]
theorem cm.made_any (e : CEnt) (w : World) : Calls Try.prog 12 #[.agg e.cells] w fun en w' => en = .returned (.agg e.cells) ∧ Below w.heap.size w w' := by
  obtain ⟨g, t, p, o⟩ := e
  unfold CEnt.cells
  obtain ⟨b0, hb0⟩ : ∃ b, b = w.heap.size := ⟨_, rfl⟩
  obtain ⟨w1, hw1⟩ : ∃ w1, w1 = w.alloc (.cells #[.string g, .string t, .int .i64 p, .int .i64 o] 24) := ⟨_, rfl⟩
  have hk1 : Blk w1 b0 24 #[.string g, .string t, .int .i64 p, .int .i64 o] := by rw [hw1, hb0]; exact Blk.new _ _ _
  have hb1 : Below w.heap.size w w1 := by rw [hw1]; exact (Below.refl _ _).alloc (Nat.le_refl _) _
  have hs1 : w1.heap.size = b0 + 1 := by rw [hw1, hb0]; simp
  obtain ⟨w2, hw2⟩ : ∃ w2, w2 = w1.alloc (.cells #[.string ⟨#[]⟩, .string ⟨#[]⟩, .int .i64 0, .int .i64 0] 42) := ⟨_, rfl⟩
  have hk2 : Blk w2 b0 24 #[.string g, .string t, .int .i64 p, .int .i64 o] := by rw [hw2]; exact (Chg.alloc w1 _ (fun _ => False)).blk hk1 fun q => q
  have hz2 : Blk w2 (b0 + 1) 42 #[.string ⟨#[]⟩, .string ⟨#[]⟩, .int .i64 0, .int .i64 0] := by rw [hw2, ← hs1]; exact Blk.new _ _ _
  have hb2 : Below w.heap.size w w2 := by rw [hw2]; exact hb1.alloc hb1.size _
  have c0 := hk2.cell 0 (v := .string g) rfl
  have c1 := hk2.cell 1 (v := .string t) rfl
  have c2 := hk2.cell 2 (v := .int .i64 p) rfl
  have c3 := hk2.cell 3 (v := .int .i64 o) rfl
  have cl := hk2.lt
  have H := Lib.hid (And.intro hz2 (And.intro hb2 hb0)); clear hk1 hb1 hk2 hz2 hb2
  go_enter Try.func12, Try.ntmps12
  go_upto_region 1 with fail
  rw [show w.heap.size + 1 = b0 + 1 by rw [hb0], ← hb0, ← hw1, ← hw2]
  clear hw1 hw2 hs1 hb0
  go_wp2_with (refine wpList_store_row rfl 42 (.tmp 2) (.tmp 11) rfl (b0 + 1) #[.string g, .string t, .int .i64 p, .int .i64 o] rfl rfl 42 _ H.out.1 cm.info_entry rfl (by simp [Value.oneCell']) ?_)
  have hz3 := H.out.1.row #[.string g, .string t, .int .i64 p, .int .i64 o]
  have hb3 := H.out.2.1.trans ((Chg.setRow w2 (b0 + 1) #[.string g, .string t, .int .i64 p, .int .i64 o]).below H.out.2.1.size fun k hk => by have hk : k = b0 + 1 := hk; have := H.out.2.2; omega)
  refine bodyPost_ret (results_cell_row rfl _ _ (b0 + 1) 42 _ (0, 0) _ rfl hz3 Try.underlying42 rfl cm.info_entry) rfl ?_
  exact ⟨rfl, hb3⟩
end
end Go.Proofs.Ytkkpbnhagobhmaa

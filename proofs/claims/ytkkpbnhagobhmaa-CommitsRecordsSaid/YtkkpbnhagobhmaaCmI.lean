/- commits: Put, Gen (chapter 18). -/
import Derived.BigQuiet
import Derived.Test.YtkkpbnhagobhmaaCmH
import Derived.Test.YtkkpbnhagobhmaaCmE
namespace Go.Proofs.Ytkkpbnhagobhmaa
open Go.RowKit Go.Maps
set_option maxRecDepth 100000
theorem CTab.goff_put (T : CTab) (x : PlK) (n : Int) : (T.put x n).goff = gput T.goff x (.int .i64 n) := by
  funext u
  unfold CTab.goff CTab.put gput
  by_cases h : u = x
  · simp [h]
  · simp [h]
theorem CTab.goff_del (T : CTab) (x : PlK) : (T.del x).goff = gdel T.goff x := by
  funext u
  unfold CTab.goff CTab.del gdel
  by_cases h : u = x
  · simp [h]
  · simp [h]
theorem CTab.gflo_raise (T : CTab) (g : ByteArray) (n : Int) (h : T.flo g < n) (h0 : 0 ≤ T.flo g) : (T.raise g n).gflo = gput T.gflo g (.int .i64 n) := by
  funext u
  unfold CTab.gflo CTab.raise gput
  by_cases e : u = g
  · simp only [e, if_true, Int.max_eq_right (Int.le_of_lt h)]
    rw [if_pos (by omega)]
  · simp [e]
theorem CTab.raise_same (T : CTab) (g : ByteArray) (n : Int) (h : n ≤ T.flo g) : T.raise g n = T := by
  unfold CTab.raise
  obtain ⟨a, b⟩ := T
  simp only at h
  have : (fun u => if u = g then max (b g) n else b u) = b := by
    funext u
    by_cases e : u = g
    · rw [if_pos e, e, Int.max_eq_left h]
    · rw [if_neg e]
  simp only [this]
theorem CTab.gflo_sink (T : CTab) (g : ByteArray) : (T.sink g).gflo = gdel T.gflo g := by
  funext u
  unfold CTab.gflo CTab.sink gdel
  by_cases e : u = g
  · simp [e]
  · simp [e]
theorem cm.put_nil (e : CEnt) (w : World) : Calls Try.prog 11 #[.pointer none, .agg e.cells] w fun en w' => en = .returned (.int .i64 1) ∧ Below w.heap.size w w' := by
  unfold CEnt.cells
  go_enter Try.func11, Try.ntmps11
  go_wp2_with fail
  go_ret
  exact ⟨rfl, (Below.refl w.heap.size w).alloc (Nat.le_refl _) _⟩
set_option maxHeartbeats 2000000 in
theorem cm.put_bad (e : CEnt) (p : Nat) (w : World) (hf : e.fit) (hok : e.ok = false) :
    Calls Try.prog 11 #[.pointer (some ⟨p, 0, none⟩), .agg e.cells] w fun en w' => en = .returned (.int .i64 1) ∧ Below w.heap.size w w' := by
  have hck := fun wx => cm.check_any e wx hf
  rw [hok, if_neg (by simp)] at hck
  clear hok hf
  unfold CEnt.cells at hck ⊢
  obtain ⟨w1, hw1⟩ : ∃ w1, w1 = w.alloc (.cells #[.string e.grp, .string e.top, .int .i64 e.part, .int .i64 e.off] 42) := ⟨_, rfl⟩
  have hk1 : Blk w1 w.heap.size 42 #[.string e.grp, .string e.top, .int .i64 e.part, .int .i64 e.off] := by rw [hw1]; exact Blk.new _ _ _
  have hb1 : Below w.heap.size w w1 := by rw [hw1]; exact (Below.refl _ _).alloc (Nat.le_refl _) _
  have H := Lib.hid (And.intro hck (And.intro hk1 hb1)); clear hck hk1 hb1
  go_enter Try.func11, Try.ntmps11
  go_upto_region 1 with fail
  rw [← hw1]
  clear hw1
  have k0 := H.out.2.1.cell 0 (v := .string e.grp) rfl
  have k1 := H.out.2.1.cell 1 (v := .string e.top) rfl
  have k2 := H.out.2.1.cell 2 (v := .int .i64 e.part) rfl
  have k3 := H.out.2.1.cell 3 (v := .int .i64 e.off) rfl
  have kl := H.out.2.1.lt
  go_wp2_with fail
  clear k0 k1 k2 k3
  refine (H.out.1 w1).mono ?_
  rintro en w2 ⟨rfl, h2⟩
  have hb2 : Below w.heap.size w w2 := H.out.2.2.trans (h2.mono H.out.2.2.size)
  have HB := Lib.hid hb2; clear hb2 h2 H
  go_wp2
  go_ret
  exact ⟨rfl, HB.out⟩
/-- A place as a key, out of an entry that may be. -/
theorem cm.place_fit {g t : ByteArray} {p : Int} (h : cm.place g t p = true) : g.size ≤ 20 ∧ t.size ≤ 20 ∧ 0 ≤ p ∧ p ≤ 999 := by
  unfold cm.place cm.topic at h
  simp only [Bool.and_eq_true, decide_eq_true_eq] at h
  omega
def cm.mk (g t : ByteArray) (p : Int) (hg : g.size ≤ 20) (ht : t.size ≤ 20) (h0 : 0 ≤ p) (h1 : p ≤ 999) : PlK := ⟨g, t, p, by unfold maxLen; omega, by unfold maxLen; omega, by constructor <;> omega⟩
/-- What a Table does where it puts. -/
def cm.tabPost (w : World) (p mo mf : Nat) (T : CTab) (n : Nat) (c : Int) (en : Ending) (w' : World) : Prop := en = .returned (.int .i64 c) ∧ TabAt w' p mo mf T n ∧ Chg w w' (fun k => k = mo ∨ k = mf)
set_option maxHeartbeats 2000000 in
theorem cm.put_ok (e : CEnt) (x : PlK) (hx1 : x.g = e.grp) (hx2 : x.t = e.top) (hx3 : x.p = e.part) (p mo mf : Nat) (T : CTab) (n : Nat) (w : World) (h : TabAt w p mo mf T n) (hok : e.ok = true) (hn : n < maxLen) :
    Calls Try.prog 11 #[.pointer (some ⟨p, 0, none⟩), .agg e.cells] w (cm.tabPost w p mo mf (T.put x e.off) (n + 1) 0) := by
  obtain ⟨g, t, q, o⟩ := e
  simp only at hx1 hx2 hx3
  subst hx1 hx2 hx3
  have hck := fun wx => cm.check_any ⟨x.g, x.t, x.p, o⟩ wx ⟨x.hg, x.ht⟩
  rw [hok, if_pos rfl] at hck
  have hpl := fun wx => cm.place_any ⟨x.g, x.t, x.p, o⟩ wx
  clear hok
  simp only [CEnt.cells] at hck hpl ⊢
  have hlt := h.lt
  obtain ⟨b0, hb0⟩ : ∃ b, b = w.heap.size := ⟨_, rfl⟩
  obtain ⟨w1, hw1⟩ : ∃ w1, w1 = w.alloc (.cells #[.string x.g, .string x.t, .int .i64 x.p, .int .i64 o] 42) := ⟨_, rfl⟩
  have hk1 : Blk w1 b0 42 #[.string x.g, .string x.t, .int .i64 x.p, .int .i64 o] := by rw [hw1, hb0]; exact Blk.new _ _ _
  have hb1 : Below w.heap.size w w1 := by rw [hw1]; exact (Below.refl _ _).alloc (Nat.le_refl _) _
  have ht1 : TabAt w1 p mo mf T n := h.below hb1
  have H := Lib.hid (And.intro hck (And.intro hpl (And.intro hk1 (And.intro hb1 (And.intro ht1 (And.intro hb0 (And.intro hn hlt))))))); clear hck hpl hk1 hb1 ht1 h hlt hn
  go_enter Try.func11, Try.ntmps11
  go_upto_region 1 with fail
  rw [← hw1, ← hb0]
  clear hw1 hb0
  have k0 := H.out.2.2.1.cell 0 (v := .string x.g) rfl
  have k1 := H.out.2.2.1.cell 1 (v := .string x.t) rfl
  have k2 := H.out.2.2.1.cell 2 (v := .int .i64 x.p) rfl
  have k3 := H.out.2.2.1.cell 3 (v := .int .i64 o) rfl
  have kl := H.out.2.2.1.lt
  go_wp2_with fail
  clear k0 k1 k2 k3
  refine (H.out.1 w1).mono ?_
  rintro en w2 ⟨rfl, h2⟩
  have hb2 : Below w.heap.size w w2 := H.out.2.2.2.1.trans (h2.mono H.out.2.2.2.1.size)
  have hk2 : Blk w2 b0 42 #[.string x.g, .string x.t, .int .i64 x.p, .int .i64 o] := (chg_of (P := fun _ => False) h2).blk H.out.2.2.1 fun q => q
  have ht2 : TabAt w2 p mo mf T n := H.out.2.2.2.2.1.below h2
  obtain ⟨No, Nf, a1, a2, a3, a4, a5, a6, a7⟩ := ht2
  have c0 := a1.cell 0 rfl
  have cl := a1.lt
  have hmn := eql_map_nil Try.underlying67 (some mo)
  have H2 := Lib.hid (And.intro hb2 (And.intro hk2 (And.intro a1 (And.intro a2 (And.intro a3 (And.intro a4 (And.intro a5 (And.intro a6 a7)))))))); clear hb2 hk2 h2 a1 a2 a3 a4 a5 a6 a7
  go_upto_region 5 with fail
  clear c0 cl hmn
  have hne : b0 ≠ mo := by have := H.out.2.2.2.2.2.1; have := H.out.2.2.2.2.2.2.2.2.1; omega
  have hkd : ∀ y : Later w2 (fun k => k = mo), Blk y.1 b0 42 #[.string x.g, .string x.t, .int .i64 x.p, .int .i64 o] := fun y => y.2.blk H2.out.2.1 hne
  have z3 : ∀ y : Later w2 (fun k => k = mo), y.1.cell? ⟨b0, 3, none⟩ = some (.int .i64 o) := fun y => (hkd y).cell 3 rfl
  have z0 : ∀ y : Later w2 (fun k => k = mo), y.1.cell? ⟨p, 0, none⟩ = some (.map (some mo)) := fun y => (y.2.blk H2.out.2.2.1 (H2.out.2.2.2.1.not_blk H2.out.2.2.1)).cell 0 rfl
  have HKD := Lib.hid hkd; clear hkd
  have hS0 : later w2 (fun k => k = mo) w2.drew := later_of ((Chg.refl _ _).drew)
  refine wp_plan (S := fun w0 => ∃ y : Later w2 (fun k => k = mo), w0 = y.1) (by kernel_rfl) hS0 ?_
  intro hS' K5 hK5
  have HS := Lib.hid hS'; clear hS' hS0
  refine plan_group [true, true, true, true, true, false, true, true] [0, 1, 2, 3, 4, 6, 7] 2 (by dsimp only [sel]) (by rfl) rfl (by kernel_rfl) (by kernel_rfl) HS.out ?_
  iterate 4 go_big_quiet_step (fail)
  refine cm.quiet_row rfl 42 (.tmp 3) rfl b0 rfl 42 #[.string x.g, .string x.t, .int .i64 x.p, .int .i64 o] _ (fun w0 ⟨x, hx⟩ => hx ▸ HKD.out x) Try.underlying42 rfl cm.info_entry ?_
  go_simp
  (repeat go_big_quiet_step (fail)); refine wpQuiet_nil ?_
  clear z3 z0
  refine plan_one [false, false, false, false, false, true] 5 1 (by dsimp only [sel]) (by rfl) rfl (by kernel_rfl) ?_; intro K1 hK1
  have hpl := H.out.2.1
  have HPL := Lib.hid hpl; clear hpl
  go_wp2_with (go_at_call 31; refine (HPL.out _).mono ?_; rintro en w3 ⟨rfl, h3⟩; have HB3 := Lib.hid h3; clear h3)
  have hc3 : Chg w2 w3 (fun k => k = mo) := ((Chg.refl w2 _).drew).trans (chg_of (P := fun _ => False) HB3.out) fun _ _ q => q.elim
  have hb3' : Below w2.heap.size w2 w3 := (bdrew (Below.refl _ _) 1).trans (HB3.out.mono (Nat.le_of_eq (by simp)))
  have H3 := Lib.hid (And.intro hc3 hb3'); clear hc3 hb3' HB3
  refine ⟨by first | exact later_of H3.out.1 | exact fun _ => later_of H3.out.1, ?_⟩
  refine plan_one [false, false, false, false, false, false, false, false, true] 8 0 (by dsimp only [sel]) (by rfl) rfl (by kernel_rfl) ?_; intro K2 hK2
  have hgm := H2.out.2.2.2.1.below H3.out.2 H2.out.2.2.2.1.lt
  refine GM.list_put (κ := placeKey) _ rfl (.tmp 24) (.tmp 26) (.tmp 28) Try.underlying67 rfl hgm x trivial (.int .i64 o) (Nat.lt_of_le_of_lt H2.out.2.2.2.2.2.1 H.out.2.2.2.2.2.2.1) rfl rfl rfl ?_
  intro w4 hgm4 hc4 hs4
  have hc24 : Chg w2 w4 (fun k => k = mo) := (chg_of (P := fun k => k = mo) H3.out.2).trans hc4 fun _ _ q => q
  have H4 := Lib.hid (And.intro hgm4 hc24); clear hgm4 hc4 hc24 hgm
  go_wp2_with fail
  refine ⟨later_of H4.out.2, ?_⟩
  refine wp_plan_end (by kernel_rfl) ?_
  refine hK5 _ _ ?_
  clear HS
  go_wp2
  go_ret
  refine ⟨rfl, ⟨if (T.goff x).isSome then No else No + 1, Nf, H4.out.2.blk H2.out.2.2.1 (H2.out.2.2.2.1.not_blk H2.out.2.2.1), by rw [CTab.goff_put]; exact H4.out.1, H2.out.2.2.2.2.1.chg H4.out.2 (fun q => H2.out.2.2.2.2.2.2.2.1 q.symm), ?_, ?_, H2.out.2.2.2.2.2.2.2.1, H2.out.2.2.2.2.2.2.2.2⟩, ?_⟩
  · have := H2.out.2.2.2.2.2.1; split <;> omega
  · have := H2.out.2.2.2.2.2.2.1; omega
  · exact (chg_of (P := fun k => k = mo ∨ k = mf) H2.out.1).trans H4.out.2 fun _ _ q => .inl q
theorem cm.tgen_nil (g : ByteArray) (u : Int) (w : World) : Calls Try.prog 14 #[.pointer none, .string g, .int .i64 u] w fun en w' => en = .returned (.int .i64 1) ∧ w = w' := by
  go_enter Try.func14, Try.ntmps14
  go_wp2_with fail
  go_ret
  exact ⟨rfl, rfl⟩
theorem cm.tgen_bad (g : ByteArray) (u : Int) (p : Nat) (w : World) (hg : g.size ≤ maxLen) (hok : cm.gen g u = false) : Calls Try.prog 14 #[.pointer (some ⟨p, 0, none⟩), .string g, .int .i64 u] w fun en w' => en = .returned (.int .i64 1) ∧ w = w' := by
  have hck := fun wx => cm.gen_any g u wx hg
  rw [cm.gen_iff, hok, if_neg (by simp)] at hck
  clear hok hg
  have H := Lib.hid hck; clear hck
  go_enter Try.func14, Try.ntmps14
  go_wp2_with fail
  refine (H.out _).mono ?_
  rintro en w2 ⟨rfl, h2⟩
  subst h2
  go_wp2_with fail
  go_ret
  exact ⟨rfl, rfl⟩
set_option maxHeartbeats 2000000 in
theorem cm.tgen_ok (g : ByteArray) (u : Int) (p mo mf : Nat) (T : CTab) (n : Nat) (w : World) (h : TabAt w p mo mf T n) (hok : cm.gen g u = true) (hn : n < maxLen) :
    Calls Try.prog 14 #[.pointer (some ⟨p, 0, none⟩), .string g, .int .i64 u] w (cm.tabPost w p mo mf (T.raise g u) (n + 1) 0) := by
  have hgs := cm.gen_facts hok
  have hg : g.size ≤ maxLen := by unfold maxLen; omega
  have hck := fun wx => cm.gen_any g u wx hg
  rw [cm.gen_iff, hok, if_pos rfl] at hck
  clear hok
  have hup := h.up (Nat.le_succ n)
  obtain ⟨No, Nf, a1, a2, a3, a4, a5, a6, a7⟩ := h
  have c1 := a1.cell 1 rfl
  have cl := a1.lt
  have hmn := eql_map_nil Try.underlying68 (some mf)
  have hk : (Instr.lookup 68 (.map (some mf)) (.string g) false).run Try.prog w = .ok (.int .i64 (T.flo g)) w := by
    have h3 := a3.look1 Try.underlying68 (cm.zero_int w) g hg
    have e1 : (T.gflo g).getD (.int .i64 0) = .int .i64 (T.flo g) := by
      unfold CTab.gflo
      by_cases e : 0 < T.flo g
      · rw [if_pos e]; rfl
      · rw [if_neg e, show T.flo g = 0 by have := a7 g; omega]; rfl
    rw [e1] at h3
    exact h3
  have h0 := a7 g
  have hraise := CTab.gflo_raise T g u
  have hsame := CTab.raise_same T g u
  obtain ⟨F, hF⟩ : ∃ F, F = T.flo g := ⟨_, rfl⟩
  rw [← hF] at hk h0 hraise hsame
  clear hF
  have H := Lib.hid (And.intro hck (And.intro hup (And.intro a1 (And.intro a2 (And.intro a3 (And.intro a4 (And.intro a5 (And.intro a6 (And.intro a7 (And.intro hraise (And.intro hsame (And.intro h0 (And.intro hn (And.intro hg hgs)))))))))))))); clear hck hup a1 a2 a3 a4 a5 a6 a7 hraise hsame h0 hn hg hgs
  by_cases hc : F < u
  · have d1 : decide (F < u) = true := decide_eq_true hc
    go_enter Try.func14, Try.ntmps14
    go_wp2_with fail
    refine (H.out.1 _).mono ?_
    rintro en w2 ⟨rfl, h2⟩
    subst h2
    go_upto_region 6 with fail
    go_wp2_with (refine GM.list_put (κ := strKey) _ rfl (.tmp 35) (.tmp 36) (.tmp 37) Try.underlying68 rfl H.out.2.2.2.2.1 g H.out.2.2.2.2.2.2.2.2.2.2.2.2.2.1 (.int .i64 u) (Nat.lt_of_le_of_lt H.out.2.2.2.2.2.2.1 H.out.2.2.2.2.2.2.2.2.2.2.2.2.1) rfl rfl rfl ?_; intro w4 hgm4 hc4 hs4; have H4 := Lib.hid (And.intro hgm4 hc4); clear hgm4 hc4)
    go_ret
    refine ⟨rfl, ⟨No, if (T.gflo g).isSome then Nf else Nf + 1, H4.out.2.blk H.out.2.2.1 (H.out.2.2.2.2.1.not_blk H.out.2.2.1), H.out.2.2.2.1.chg H4.out.2 H.out.2.2.2.2.2.2.2.1, by rw [H.out.2.2.2.2.2.2.2.2.2.1 hc H.out.2.2.2.2.2.2.2.2.2.2.2.1]; exact H4.out.1, ?_, ?_, H.out.2.2.2.2.2.2.2.1, ?_⟩, ?_⟩
    · have := H.out.2.2.2.2.2.1; omega
    · have := H.out.2.2.2.2.2.2.1; split <;> omega
    · intro s
      have := H.out.2.2.2.2.2.2.2.2.1 s
      show 0 ≤ if s = g then max (T.flo g) u else T.flo s
      by_cases e : s = g
      · rw [if_pos e, ← e]; omega
      · rw [if_neg e]; exact this
    · exact H4.out.2.mono fun _ _ q => .inr q
  · have d1 : decide (F < u) = false := decide_eq_false hc
    go_enter Try.func14, Try.ntmps14
    go_wp2_with fail
    refine (H.out.1 _).mono ?_
    rintro en w2 ⟨rfl, h2⟩
    subst h2
    go_wp2_with fail
    go_ret
    refine ⟨rfl, ?_, Chg.refl _ _⟩
    rw [H.out.2.2.2.2.2.2.2.2.2.2.1 (by omega)]
    exact H.out.2.1
end Go.Proofs.Ytkkpbnhagobhmaa

/- net: contract of Waiting. -/
import Derived.Test.YtbbekgliaedigaaNetG
namespace Go.Proofs.Ytbbekgliaedigaa
open Go.RowKit
set_option maxRecDepth 20000
attribute [local go_sem] Oper.semAt_some

theorem infoInt' : (Try.prog.info? 3).map (fun i => (i.zero, i.size, i.bytes)) = some (some (.int .i64 0), 1, 8) := by kernel_rfl

/-- What Waiting's rounds keep. -/
def net.WI (w : World) (pre : List NX) (W : World) : Prop := ∃ v, Boxed W w.heap.size 97 v ∧ W.ownsRow (w.heap.size + 1) 3 1 v pre.length (pre.map fun x => .int .i64 x.1.1) ∧ Below w.heap.size w W
theorem net.WI_own (w : World) {b : Nat} (hb : w.heap.size ≤ b) : OwnFrom b (net.WI w) := by
  rintro pre X Y row ⟨v, hv, hr, hB⟩ hg hrr
  have hbox : Y.heap[w.heap.size]? = X.heap[w.heap.size]? := grown_cells hg (fun r e => (hrr r e).2) ⟨_, hv, rfl⟩
  refine ⟨v, hbox.trans hv, ⟨hr.1, ?_⟩, (ownFrom_below (β := Unit) (Nat.le_refl _) hb) () X Y row hB hg hrr⟩
  rcases hr.2 with h2 | ⟨g, cap, cur, h1, h3, h4, h5⟩
  · exact .inl h2
  · exact .inr ⟨g, cap, cur, h1, h3, (grown_cells hg (fun r e => (hrr r e).2) ⟨_, h4, rfl⟩).trans h4, h5⟩
theorem net.WI_kp {W w2 : World} {q b n : Nat} {v : Value} {xs : List Value} {o : Obj} (hv : Boxed W q 97 v) (hr : W.ownsRow b 3 1 v n xs) (hg : (W.alloc o).grownBy w2 v.ownBlock) (u : Value) : NKp W (w2.setCell ⟨q, 0, none⟩ u) := by
  have hch : Chg W (w2.setCell ⟨q, 0, none⟩ u) (fun k => v.ownBlock = some k ∨ k = q) := (((Chg.alloc W o _).trans (Chg.grown hg) fun _ _ h => h).mono fun _ _ h => .inl h).trans (Chg.setCell _ _ _ _) fun _ _ h => .inr h
  refine NKp.chg hch fun k hk => ?_
  rcases hk with hk | rfl
  · rcases hr.2 with ⟨rfl, _⟩ | ⟨g, cap, cur, rfl, _, h4, _⟩
    · cases hk
    · obtain rfl : g = k := by simpa [Value.ownBlock] using hk
      exact ⟨_, _, _, h4, by unfold NTy; decide⟩
  · exact ⟨_, _, _, hv, by unfold NTy; decide⟩

set_option maxHeartbeats 4000000 in
theorem net.waiting_of (pa : Option Addr) (S : List (Int × List Nat)) (w : World) (hlen : S.length ≤ 1000000)
    (hh : ∀ w', Below w.heap.size w w' → Hands Fence.wide 4 Try.prog 105 #[.pointer (some ⟨w'.heap.size, 0, none⟩)] net.encs NKp net.R (net.S S) (net.Sp S) (net.Nx S) (w'.alloc (.cells #[.pointer pa] 90))) :
    Calls Try.prog 58 #[.pointer pa] w fun e w' => ∃ v, e = .returned v ∧ w'.ownsRow w.heap.size 3 1 v S.length (S.map fun y => .int .i64 y.1) ∧ Below w.heap.size w w' := by
  refine (callsIn_wide (n := 5)).1 ?_
  have h1 : 1 ≤ 5 := by omega
  refine callsIn_of_wp_marks Try.func58 rfl trivial ?_ rfl
  simp only [Try.ntmps58, List.size_toArray, List.length_cons, List.length_nil, Nat.reduceAdd, Nat.reduceSub, Array.replicate_succ, Array.replicate_zero, List.push_toArray, List.append_toArray, List.nil_append, List.cons_append]
  have HH := Lib.hid hh; clear hh
  gi_wp2_with fail
  refine ⟨trivial, ?_⟩
  refine (callsIn_wide.2 (net.all_any pa _)).mono ?_
  rintro e w1 ⟨rfl, hw1⟩
  rw [World.size_alloc]
  have bG := Boxed.new w 97 (.slice none 0 0)
  have hB0 : Below w.heap.size w (w.alloc (.cells #[.slice none 0 0] 97)) := (Below.refl _ w).alloc (Nat.le_refl _) _
  have hh := HH.out _ hB0
  rw [World.size_alloc, ← hw1] at hh
  have hB1 : Below w.heap.size w w1 := by rw [hw1]; exact hB0.alloc (by simp) _
  have hbG : Boxed w1 w.heap.size 97 (.slice none 0 0) := by rw [hw1]; exact bG.alloc _
  have hz1 : w1.heap.size = w.heap.size + 2 := by rw [hw1]; simp
  clear hw1 bG hB0 HH
  gi_wp2_with fail
  obtain ⟨i0, hi, hz0, hz1', hz2⟩ := info_parts infoInt'
  refine for_each (F := Fence.wide) (n := 5) rfl h1 (gf := 105) (lb := #[.pointer (some ⟨w.heap.size + 1, 0, none⟩)]) rfl trivial (enters_of Try.func105 (by kernel_rfl) rfl)
    hh (Below.refl _ _) NKp.trans (fun W l o o' _ ho hcc _ => NKp.put ho hcc) (fun _ => rfl)
    (fun pre W => net.WI w pre W) (fun _ _ _ => False) (net.WI_own w (by omega)) (fun _ _ _ _ _ h _ _ => h.elim) (net.R_own _) (fun _ _ _ _ h _ _ => h) (fun _ _ _ _ h _ _ => h)
    ⟨_, hbG, World.ownsRow_nil _ _ _ _, hB1⟩
    (fun x => { tmps := #[.pointer pa, undef, .slice none 0 0, .pointer (some ⟨w.heap.size, 0, none⟩), .int .i64 x.1.1, .pointer pa, .func (.func 105) #[] #[.pointer (some ⟨w.heap.size + 1, 0, none⟩)], .int .i64 x.1.1, .slice x.2.1 x.1.2.length x.2.2, undef, undef, undef, undef, undef], defers := [] }) ?assign ?body ?done ?stop
  case assign =>
    rintro l ⟨⟨id, bs⟩, ⟨A', c'⟩⟩ W K hK
    unfold net.encs
    dsimp only at hK ⊢
    gi_wp2
    exact hK
  case body =>
    rintro l pre ⟨⟨id, bs⟩, ⟨A', c'⟩⟩ W ⟨v, hv, hrow, hB⟩ hR hnx
    have hlt := hnx.lt.1
    clear hnx
    have hc := hv.cell
    obtain ⟨A1, c1, rfl, hc1, -⟩ := own_at hrow
    have hzW := hB.size
    clear hR
    gi_wp2_with (gi_at_builtin; refine wpListIn_append_own _ rfl (.tmp 9) (.tmp 11) 97 rfl (w.heap.size + 1) 3 i0 (.int .i64 0) 1 8 Try.underlying97 hi hz0 hz1' hz2 rfl (by decide) _ _ _ rfl (hrow.alloc _) ⟨W.heap.size, 0, none⟩ 1 1 [.int .i64 id] rfl rfl (cell_one_new _ _ _) (by simp [Value.oneCell']) (by unfold maxLen; omega) (by omega) (by have := hv.lt; simp; omega) ?_; intro v' w2 hown' hgrow _; obtain ⟨g', cap', rfl⟩ := ownsRow_succ hown'; obtain ⟨hv1, hv2, hr2, hk2, hb2, hoth⟩ := box_appended (n₀ := w.heap.size) hv (by omega) (by omega) hrow hB.size hown' hgrow; have hkp := net.WI_kp hv hrow hgrow (.slice (some ⟨g', 0, none⟩) (pre.length + 1) cap'); have HKP := Lib.hid hkp; clear hkp; have hc1 := hv1.cell; have hf1 := hv1.frozen)
    exact ⟨hk2.from _, HKP.out, _, hv2, by rw [List.length_append, List.map_append]; exact hr2, hB.trans hb2⟩
  case done =>
    rintro D ys W hD hS ⟨v, hv, hrow, hB⟩ hK
    have hc := hv.cell
    have hS : ys.map Prod.fst = S := hS
    gi_wp2
    refine ⟨by simp, .inl ⟨_, _, rfl, run_takeDeferred hK, ?_⟩⟩
    have e1 : ys.length = S.length := by rw [← hS, List.length_map]
    have e2 : (ys.map fun x => Value.int .i64 x.1.1) = S.map fun y => .int .i64 y.1 := by rw [← hS, List.map_map]; rfl
    rw [e1, e2] at hrow
    exact ⟨_, results_tmp rfl _ _ _, v, rfl, ownsRow_base (ownsRow_putObj hrow _ hK rfl) (by omega), hB.trans (belowK_b (w := w) (Nat.le_refl _) W D _ _ (by omega) hK rfl rfl)⟩
  case stop =>
    rintro D c pre W hD hpre h hK
    exact h.elim
theorem net.waitingS (B C p last : Nat) (S : List (Int × List Nat)) (w : World) (h : NetS B C w p last S) (hlast : last ≤ 1000000) :
    Calls Try.prog 58 #[.pointer (some ⟨p, 0, none⟩)] w fun e w' => ∃ v, e = .returned v ∧ w'.ownsRow w.heap.size 3 1 v S.length (S.map fun y => .int .i64 y.1) ∧ Below w.heap.size w w' :=
  net.waiting_of _ S w (Nat.le_trans h.ids.2.2 hlast) fun w' hb => net.hands 4 (by omega) B C p last S w' (h.below hb) (by omega)
theorem net.all1_nil (n l Bp : Nat) (W : World) (hb : Blk W Bp 90 #[.pointer none]) :
    CallsIn Fence.wide n Try.prog 105 #[.func (.yield l) #[] #[], .pointer (some ⟨Bp, 0, none⟩)] W fun e V => (∃ v, e = .returned v) ∧ V = W := by
  refine callsIn_of_wp Try.func105 rfl trivial ?_ rfl
  simp only [Try.ntmps105, List.size_toArray, List.length_cons, List.length_nil, Nat.reduceAdd, Nat.reduceSub, Array.replicate_succ, Array.replicate_zero, List.push_toArray, List.append_toArray, List.nil_append, List.cons_append]
  have c0 := hb.cell 0 rfl
  clear hb
  gi_wp2
  refine bodyPost_ret (results_none rfl _ _ _) rfl ?_
  exact ⟨⟨_, rfl⟩, rfl⟩
theorem net.waiting_nil (w : World) :
    Calls Try.prog 58 #[.pointer none] w fun e w' => ∃ v, e = .returned v ∧ w'.ownsRow w.heap.size 3 1 v 0 [] ∧ Below w.heap.size w w' := by
  refine net.waiting_of none [] w (by simp) fun w' hb => ?_
  intro l J Jx W hW hJ _ hY h0
  refine (net.all1_nil 4 l w'.heap.size W ((NKp.below hW).blk (Blk.new w' _ _) (.inl rfl))).mono ?_
  rintro e V ⟨hv, rfl⟩
  exact ⟨hv, .inl ⟨[], rfl, h0⟩⟩
end Go.Proofs.Ytbbekgliaedigaa

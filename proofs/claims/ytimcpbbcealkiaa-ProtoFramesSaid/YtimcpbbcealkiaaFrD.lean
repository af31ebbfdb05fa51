/- proto: the law's walk of frames (chapter 20). -/
import Derived.Sort.CutIn
import Derived.Test.YtimcpbbcealkiaaFrC
namespace Go.Proofs.Ytimcpbbcealkiaa
open Go.RowKit Go.Maps
set_option maxRecDepth 20000
attribute [local go_sem] Oper.semAt_some
/-- What the walk's rounds keep. -/
def frm.WI (w : World) (mo : Nat) (pre : List FX) (W : World) : Prop := ∃ v, Boxed W (w.heap.size + 1) 49 v ∧ Boxed W w.heap.size 3 (.int .i64 (mo : Int)) ∧ W.ownsRow (w.heap.size + 2) 23 1 v pre.length (pre.map frm.val) ∧ (∀ x ∈ pre, frm.R x W) ∧ Below w.heap.size w W ∧ pre.length ≤ mo
theorem frm.WI_own (w : World) (mo : Nat) {b : Nat} (hb : w.heap.size ≤ b) : OwnFrom b (frm.WI w mo) := by
  rintro pre X Y row ⟨v, hv, hm, hr, hx, hB, hl⟩ hg hrr
  have hbox : Y.heap[w.heap.size + 1]? = X.heap[w.heap.size + 1]? := grown_cells hg (fun r e => (hrr r e).2) ⟨_, hv, rfl⟩
  have hbox2 : Y.heap[w.heap.size]? = X.heap[w.heap.size]? := grown_cells hg (fun r e => (hrr r e).2) ⟨_, hm, rfl⟩
  refine ⟨v, hbox.trans hv, hbox2.trans hm, ⟨hr.1, ?_⟩, fun x h => (FKp.grown hg fun r e => (hrr r e).2).own (hx x h), (ownFrom_below (β := Unit) (Nat.le_refl _) hb) () X Y row hB hg hrr, hl⟩
  rcases hr.2 with h2 | ⟨g, cap, cur, h1, h3, h4, h5⟩
  · exact .inl h2
  · exact .inr ⟨g, cap, cur, h1, h3, (grown_cells hg (fun r e => (hrr r e).2) ⟨_, h4, rfl⟩).trans h4, h5⟩
theorem frm.WI_kp {W w2 : World} {q b n : Nat} {v : Value} {xs : List Value} {o : Obj} (hv : Boxed W q 49 v) (hr : W.ownsRow b 23 1 v n xs) (hg : (W.alloc o).grownBy w2 v.ownBlock) (u : Value) : FKp W (w2.setCell ⟨q, 0, none⟩ u) := by
  have hch : Chg W (w2.setCell ⟨q, 0, none⟩ u) (fun k => v.ownBlock = some k ∨ k = q) := (((Chg.alloc W o _).trans (Chg.grown hg) fun _ _ h => h).mono fun _ _ h => .inl h).trans (Chg.setCell _ _ _ _) fun _ _ h => .inr h
  refine FKp.chg hch fun k hk => ?_
  rcases hk with hk | rfl
  · rcases hr.2 with ⟨rfl, _⟩ | ⟨g, cap, cur, rfl, _, h4, _⟩
    · cases hk
    · obtain rfl : g = k := by simpa [Value.ownBlock] using hk
      exact ⟨_, _, _, h4, by decide⟩
  · exact ⟨_, _, _, hv, by decide⟩
/-- Frames that were walked: each in a row of its own. -/
def FrW (w0 w' : World) (v : Value) (Fs : List (List Nat)) : Prop := ∃ xs : List FX, xs.map Prod.fst = Fs ∧ w'.ownsRow w0.heap.size 23 1 v xs.length (xs.map frm.val) ∧ (∀ x ∈ xs, frm.R x w') ∧ Below w0.heap.size w0 w'
theorem FrW.frV {w0 w' : World} {v : Value} {Fs : List (List Nat)} (h : FrW w0 w' v Fs) : FrV w0 w' v Fs := by
  obtain ⟨xs, h1, h2, h3, h4⟩ := h
  refine ⟨xs, h1, h2, fun x hx => ?_, h4⟩
  obtain ⟨A9, c9, e9, -, -, hat⟩ := own_bytes (h3 x hx)
  obtain ⟨rfl, -⟩ : x.2.1 = A9 ∧ x.2.2 = c9 := by injection e9 with e1 e2 e3; exact ⟨e1, e3⟩
  exact hat
set_option maxHeartbeats 4000000 in
theorem frm.walk_any (A : Option Addr) (c : Nat) (L : List Nat) (mo : Nat) (w : World) (hat : At w A L.length (byteAt L)) (hb : ∀ x ∈ L, x < 256) (hL : L.length ≤ 1000000) (hmo : mo ≤ 9223372036854775807) :
    Calls Try.prog 24 #[.slice A L.length c, .int .i64 (mo : Int)] w fun e w' => ∃ v, e = .returned v ∧ FrV w w' v ((fr.all L).take mo) := by
  refine (callsIn_wide (n := 6)).1 ?_
  have h1 : 1 ≤ 6 := by omega
  refine callsIn_of_wp_marks Try.func24 rfl trivial ?_ rfl
  simp only [Try.ntmps24, List.size_toArray, List.length_cons, List.length_nil, Nat.reduceAdd, Nat.reduceSub, Array.replicate_succ, Array.replicate_zero, List.push_toArray, List.append_toArray, List.nil_append, List.cons_append]
  have hf := fun wx (h : Below w.heap.size w wx) => frm.frames_any A c L wx (hat.below h (Nat.le_refl _)) hL
  obtain ⟨n, hn⟩ : ∃ n, n = L.length := ⟨_, rfl⟩
  rw [← hn] at hf ⊢
  have HF := Lib.hid (And.intro hf (And.intro hb (And.intro hL hn))); clear hf hb hL hn hat
  obtain ⟨i0, hi, hz0, hz1, hz2⟩ := info_parts frm.infoBytes
  have bM := Boxed.new w 3 (.int .i64 (mo : Int))
  have bL := Boxed.new (w.alloc (.cells #[.int .i64 (mo : Int)] 3)) 49 (.slice none 0 0)
  rw [World.size_alloc] at bL
  have hB0 : Below w.heap.size w ((w.alloc (.cells #[.int .i64 (mo : Int)] 3)).alloc (.cells #[.slice none 0 0] 49)) := ((Below.refl _ w).alloc (Nat.le_refl _) _).alloc (by simp) _
  have hz2w : ((w.alloc (.cells #[.int .i64 (mo : Int)] 3)).alloc (.cells #[.slice none 0 0] 49)).heap.size = w.heap.size + 2 := by simp
  have HBX := Lib.hid (And.intro (bM.alloc (.cells #[.slice none 0 0] 49)) (And.intro bL (And.intro hB0 hz2w))); clear bM bL hB0 hz2w
  gi_upto_region 3 with (refine ⟨trivial, ?_⟩; refine (callsIn_wide.2 (HF.out.1 _ HBX.out.2.2.1)).mono ?_; rintro e w1 ⟨Bp, A0, c0, rfl, q1, q2, q3, q4⟩; have H1 := Lib.hid (And.intro q1 (And.intro q2 (And.intro q3 q4))); clear q1 q2 q3 q4)
  have hnil : ∀ w : World, (binOp BinOp.eql 88 (.func (.func 73) #[] #[.pointer (some ⟨Bp, 0, none⟩)]) .nilFunc).run Try.prog w = .ok (.bool false) w := fun _ => by kernel_rfl
  have hb1 : Below w.heap.size w w1 := HBX.out.2.2.1.trans (H1.out.2.2.2.mono HBX.out.2.2.1.size)
  have hsz1 : w.heap.size + 2 ≤ w1.heap.size := by have := H1.out.2.2.2.size; rw [HBX.out.2.2.2] at this; exact this
  have hm1 : Boxed w1 w.heap.size 3 (.int .i64 (mo : Int)) := by
    have := (chg_of (P := fun _ => False) H1.out.2.2.2).block w.heap.size (by rw [HBX.out.2.2.2]; omega) (fun q => q)
    exact this.trans HBX.out.1
  have hl1 : Boxed w1 (w.heap.size + 1) 49 (.slice none 0 0) := by
    have := (chg_of (P := fun _ => False) H1.out.2.2.2).block (w.heap.size + 1) (by rw [HBX.out.2.2.2]; omega) (fun q => q)
    exact this.trans HBX.out.2.1
  have hown1 := H1.out.2.1
  have hcell1 := H1.out.1
  have hbp := H1.out.2.2.1
  rw [HF.out.2.2.2] at hown1 hcell1
  have hh : Hands Fence.wide 5 Try.prog 73 #[.pointer (some ⟨Bp, 0, none⟩)] frm.encs FKp frm.R (frm.S (fr.all L)) (frm.Sp (fr.all L)) (frm.Nx (fr.all L)) w1 := by
    intro lb J Jx W hW hJ _ hY h0
    exact frm.all1_in 5 (by omega) lb Bp A0 c0 L J Jx W HF.out.2.2.1 ((World.cell?_of_block (hW.block Bp hbp)).trans hcell1) (own_below hown1 hW) HF.out.2.1 hJ hY h0
  have HH := Lib.hid (And.intro hh (And.intro hb1 (And.intro hsz1 (And.intro hm1 hl1)))); clear hh hb1 hsz1 hm1 hl1 hown1 hcell1 hbp
  gi_wp2
  refine for_each (F := Fence.wide) (n := 6) rfl h1 (gf := 73) (lb := #[.pointer (some ⟨Bp, 0, none⟩)]) rfl trivial (enters_of Try.func73 (by kernel_rfl) rfl)
    HH.out.1 (Below.refl _ _) FKp.trans (fun W l o o' _ ho hcc _ => FKp.put ho hcc) (fun _ => rfl)
    (fun pre W => frm.WI w mo pre W) (fun cd pre W => cd = .exit 0 ∧ ∃ pre0 x, pre = pre0 ++ [x] ∧ mo = pre0.length ∧ frm.WI w mo pre0 W) (frm.WI_own w mo (by have := HH.out.2.2.1; omega)) (fun cd s X Y row hs hg hr => by
      obtain ⟨g1, pre0, x, g2, g3, g4⟩ := hs
      exact ⟨g1, pre0, x, g2, g3, frm.WI_own w mo (by have := HH.out.2.2.1; omega) pre0 X Y row g4 hg hr⟩) (frm.R_own _) (fun _ _ _ _ h _ _ => h) (fun _ _ _ _ h _ _ => h)
    ⟨_, HH.out.2.2.2.2, HH.out.2.2.2.1, World.ownsRow_nil _ _ _ _, (fun x hx => by cases hx), HH.out.2.1, Nat.zero_le _⟩
    (fun x => { tmps := #[.slice A n c, .int .i64 (mo : Int), undef, .pointer (some ⟨w.heap.size, 0, none⟩), .slice none 0 0, .pointer (some ⟨w.heap.size + 1, 0, none⟩), .func (.func 73) #[] #[.pointer (some ⟨Bp, 0, none⟩)], .slice x.2.1 x.1.length x.2.2, .slice A n c,
      .func (.func 73) #[] #[.pointer (some ⟨Bp, 0, none⟩)], .func (.func 73) #[] #[.pointer (some ⟨Bp, 0, none⟩)], .bool false, .func (.func 73) #[] #[.pointer (some ⟨Bp, 0, none⟩)], .slice x.2.1 x.1.length x.2.2, undef, undef, undef, undef, undef, undef, undef, undef, undef], defers := [] }) ?assign ?body ?done ?stop
  case assign =>
    rintro l ⟨f, ⟨A', c'⟩⟩ W K hK
    unfold frm.encs
    dsimp only at hK ⊢
    gi_wp2
    exact hK
  case body =>
    rintro l pre ⟨f, ⟨A', c'⟩⟩ W ⟨v, hv, hm, hrow, hx, hB, hle⟩ hR hnx
    have hpl : pre.length ≤ 1000000 := by
      obtain ⟨rest, hrest⟩ := hnx
      have g1 := congrArg List.length hrest
      rw [List.length_append, List.length_map, List.length_cons] at g1
      have g2 := fr.all_len L.length L (Nat.le_refl _)
      have := HF.out.2.2.1
      omega
    clear hnx
    have hc := hv.cell
    have hcm := hm.cell
    obtain ⟨A1, c1, rfl, hc1, -⟩ := own_at hrow
    have hzW := hB.size
    have hml := hm.lt
    have hvl := hv.lt
    obtain ⟨q, hq⟩ : ∃ q, q = pre.length := ⟨_, rfl⟩
    obtain ⟨k, hk⟩ : ∃ k, k = f.length := ⟨_, rfl⟩
    dsimp only
    rw [← hq] at hrow hv hc hle hpl
    rw [← hk]
    have HXX := Lib.hid (And.intro hx (And.intro hR (And.intro hq hk))); clear hx hR hq hk
    by_cases hb : mo ≤ q
    · have d0 : (mo : Int) ≤ (q : Int) := by omega
      have d1 : decide (mo ≤ q) = true := decide_eq_true hb
      have d2 : decide ((mo : Int) ≤ (q : Int)) = true := decide_eq_true d0
      have HI := Lib.hid (show frm.WI w mo pre W from ⟨_, hv, hm, by rw [← HXX.out.2.2.1]; exact hrow, HXX.out.1, hB, by rw [← HXX.out.2.2.1]; exact hle⟩)
      have hqm : mo = q := by omega
      have HQM := Lib.hid hqm; clear hqm hb
      gi_wp2
      exact ⟨KeepsFrom.refl _ _, ⟨Nat.le_refl _, fun _ _ _ h => h⟩, rfl, pre, (f, (A', c')), rfl, by rw [HQM.out, HXX.out.2.2.1], HI.out⟩
    · have d0 : ¬ (mo : Int) ≤ (q : Int) := by omega
      have d1 : decide (mo ≤ q) = false := decide_eq_false hb
      have d2 : decide ((mo : Int) ≤ (q : Int)) = false := decide_eq_false d0
      gi_wp2_with (gi_at_builtin; refine wpListIn_append_own _ rfl (.tmp 18) (.tmp 20) 49 rfl (w.heap.size + 2) 23 i0 (.slice none 0 0) 1 24 Try.underlying49 hi hz0 hz1 hz2 rfl (by decide) _ _ _ rfl (hrow.alloc _) ⟨W.heap.size, 0, none⟩ 1 1 [.slice A' k c'] rfl rfl (cell_one_new _ _ _) (by simp [Value.oneCell']) (by unfold maxLen; omega) (by omega) (by simp; omega) ?_; intro v' w2 hown' hgrow _; obtain ⟨g', cap', rfl⟩ := ownsRow_succ hown'; obtain ⟨hv1, hv2, hr2, hk2, hb2, hoth⟩ := box_appended (n₀ := w.heap.size) hv (by omega) (by omega) hrow hB.size hown' hgrow; have hkp := frm.WI_kp hv hrow hgrow (.slice (some ⟨g', 0, none⟩) (q + 1) cap'); have hm2 := hoth _ _ _ (by omega) (by omega) hm; have hc1 := hv1.cell; have hf1 := hv1.frozen; have HKP := Lib.hid hkp; clear hkp)
      refine ⟨hk2.from _, HKP.out, _, hv2, hm2, ?_, fun x hx => ?_, hB.trans hb2, by rw [List.length_append, ← HXX.out.2.2.1, List.length_singleton]; omega⟩
      · rw [List.length_append, List.map_append, ← HXX.out.2.2.1]
        have hval : frm.val (f, (A', c')) = .slice A' k c' := by unfold frm.val; rw [HXX.out.2.2.2]
        rw [List.map_cons, List.map_nil, hval]
        exact hr2
      · rcases List.mem_append.1 hx with h | h
        · exact HKP.out.own (HXX.out.1 x h)
        · rw [List.mem_singleton.1 h]
          exact HKP.out.own HXX.out.2.1
  case done =>
    rintro D ys W hD hS ⟨v, hv, hm, hrow, hx, hB, hle⟩ hK
    have hc := hv.cell
    have hS : ys.map Prod.fst = fr.all L := hS
    have hD2 : w.heap.size ≤ D := by have := HH.out.2.2.1; omega
    gi_wp2
    refine ⟨by simp, .inl ⟨_, _, rfl, run_takeDeferred hK, ?_⟩⟩
    refine ⟨_, results_tmp rfl _ _ _, v, rfl, FrW.frV ⟨ys, ?_, ownsRow_base (ownsRow_putObj hrow _ hK rfl) (by omega), fun x h => (FKp.put hK rfl).own (hx x h), hB.trans (belowK_b (w := w) (Nat.le_refl _) W D _ _ hD2 hK rfl rfl)⟩⟩
    rw [hS, List.take_of_length_le]
    rw [← hS, List.length_map]
    exact hle
  case stop =>
    rintro D cd pre W hD hpre ⟨rfl, pre0, x, rfl, hmo, ⟨v, hv, hm, hrow, hx, hB, hle⟩⟩ hK
    have hc := hv.cell
    have hD2 : w.heap.size ≤ D := by have := HH.out.2.2.1; omega
    have ht : pre0.map Prod.fst = (fr.all L).take mo := by
      obtain ⟨rest, hrest⟩ := hpre
      rw [← hrest, List.map_append, List.append_assoc, hmo, List.take_left']
      rw [List.length_map]
    have HT := Lib.hid ht; clear ht
    gi_wp2
    refine ⟨by simp, .inl ⟨_, _, rfl, run_takeDeferred hK, ?_⟩⟩
    exact ⟨_, results_tmp rfl _ _ _, v, rfl, FrW.frV ⟨pre0, HT.out, ownsRow_base (ownsRow_putObj hrow _ hK rfl) (by omega), fun x h => (FKp.put hK rfl).own (hx x h), hB.trans (belowK_b (w := w) (Nat.le_refl _) W D _ _ hD2 hK rfl rfl)⟩⟩
end Go.Proofs.Ytimcpbbcealkiaa

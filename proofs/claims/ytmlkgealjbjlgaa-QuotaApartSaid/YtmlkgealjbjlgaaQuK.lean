/- Contract of the law package's walk (cordwainlaw19): as many clients as are known, or as are asked for. -/
import Derived.Maps.OwnIn
import Derived.Test.YtmlkgealjbjlgaaQuJ
namespace Go.Proofs.Ytmlkgealjbjlgaa
open Go.RowKit Go.Shelf
attribute [local go_sem] Oper.semAt_some

theorem RowKp.refl (B : Nat) (W : World) : RowKp B W W := ⟨Nat.le_refl _, fun _ _ h _ _ _ => h, .inl rfl⟩
theorem RowKp.append {W w1 : World} {B : Nat} {t : TypeId} {v v' : Value} {tmp : Obj} (hv : Boxed W B t v) (hv1 : Boxed w1 B t v) (hgrow : (W.alloc tmp).grownBy w1 v.ownBlock)
    (hl : v'.ownBlock = v.ownBlock ∨ v'.ownBlock = some (W.alloc tmp).heap.size) : RowKp B W (w1.setCell ⟨B, 0, none⟩ v') := by
  have hsz := hgrow.size
  rw [World.size_alloc] at hsz
  have hc := Chg.setCell w1 B 0 v'
  refine ⟨by have := hc.size; omega, fun k o hk _ hne hb => ?_, ?_⟩
  · rw [boxRow_of hv] at hb
    have hlt := heap_lt hk
    have h1 : w1.heap[k]? = some o := by
      rw [hgrow.block k (by simp; omega) (fun e => hb e.symm)]
      exact (Below.heap_alloc _ _ _ hlt).trans hk
    rw [hc.block k (heap_lt h1) hne]
    exact h1
  · rw [boxRow_of (hv1.set v'), boxRow_of hv]
    rcases hl with hl | hl
    · exact .inl hl
    · refine .inr fun k e => ?_
      rw [hl] at e
      cases e
      simp

set_option maxRecDepth 100000 in
set_option maxHeartbeats 2000000 in
theorem qu.walk_any (X : Option Addr) (N : Nat) (most : Int) (w : World) (hmost : 0 ≤ most) (hmost2 : most ≤ 1000000) (hN : N ≤ 1000000)
    (hX : (X = none ∧ N = 0) ∨ ∃ p b r B m t g, X = some ⟨p, 0, none⟩ ∧ QM w p b r B m t N g) :
    Calls Try.prog 31 #[.pointer X, .int .i64 most] w fun e W' => (∃ A c, e = .returned (.slice A (min N most.toNat) c)) ∧ Below w.heap.size w W' := by
  obtain ⟨i0, hi, hz0, hz1, hz2⟩ := info_parts infoStr
  refine (callsIn_wide (n := 5)).1 ?_
  have h1 : 1 ≤ 5 := by omega
  refine callsIn_of_wp_marks Try.func31 rfl trivial ?_ rfl
  simp only [Try.ntmps31, List.size_toArray, List.length_cons, List.length_nil, Nat.reduceAdd, Nat.reduceSub, Array.replicate_succ, Array.replicate_zero, List.push_toArray, List.append_toArray, List.nil_append, List.cons_append]
  have hnil : ∀ (Bs : Nat) (w : World), (binOp BinOp.eql 98 (.func (.func 57) #[] #[.pointer (some ⟨Bs, 0, none⟩)]) .nilFunc).run Try.prog w = .ok (.bool false) w := fun _ _ => by kernel_rfl
  have HX := Lib.hid hX; clear hX
  gi_wp2_with fail
  refine ⟨trivial, ?_⟩
  refine (callsIn_wide.2 (qu.clients_any X _)).mono ?_
  rintro e w1 ⟨rfl, rfl⟩
  rw [World.size_alloc, World.size_alloc]
  have hnil' := hnil (w.heap.size + 1 + 1)
  clear hnil
  have bM := Boxed.new w 3 (.int .i64 most)
  have bL := Boxed.new (w.alloc (.cells #[.int .i64 most] 3)) 64 (.slice none 0 0)
  have bC := Boxed.new ((w.alloc (.cells #[.int .i64 most] 3)).alloc (.cells #[.slice none 0 0] 64)) 57 (.pointer X)
  rw [World.size_alloc] at bL
  rw [World.size_alloc, World.size_alloc] at bC
  have hB0 : Below w.heap.size w (((w.alloc (.cells #[.int .i64 most] 3)).alloc (.cells #[.slice none 0 0] 64)).alloc (.cells #[.pointer X] 57)) := (((Below.refl _ w).alloc (Nat.le_refl _) _).alloc (by simp) _).alloc (by simp; omega) _
  gi_wp2_with fail
  refine wpIn_rangeFunc_ownG (F := Fence.wide) (n := 5) rfl h1 (gf := 57) (lb := #[.pointer (some ⟨w.heap.size + 1 + 1, 0, none⟩)]) rfl trivial (enters_of Try.func57 (by kernel_rfl) rfl)
    (qu.stops 4 (by omega) (w.heap.size + 1 + 1) (w.heap.size + 1) N _ X hN (by simp) bC.cell (by simp) (by rw [boxRow_of (bL.alloc _)]; rfl) (HX.out.imp id fun ⟨p, b, r, B, m, t, g, h1, h2⟩ => ⟨p, b, r, B, m, t, g, h1, h2.keep hB0⟩))
    RowKp.trans (fun W l o o' hl ho hc _ => RowKp.put ho hc (by simp at hl; omega)) (Below.refl _ _) (fun _ => rfl)
    (fun pre W => (∃ v, Boxed W (w.heap.size + 1) 64 v ∧ W.ownsRow (w.heap.size + 3) 9 1 v pre.length (pre.map Value.string) ∧ (pre.length : Int) ≤ most) ∧ (Boxed W w.heap.size 3 (.int .i64 most) ∧ Below w.heap.size w W))
    (fun cd pre W => cd = .exit 0 ∧ ∃ pre0 x, pre = pre0 ++ [x] ∧ most = (pre0.length : Int) ∧ (∃ v, Boxed W (w.heap.size + 1) 64 v ∧ W.ownsRow (w.heap.size + 3) 9 1 v pre0.length (pre0.map Value.string) ∧ True) ∧ Below w.heap.size w W)
    (OwnFrom.and (Own.from (holdsRow_own _ _ _ _ 1 (fun pre : List ByteArray => pre.length) (fun pre => pre.map Value.string) (fun pre _ => (pre.length : Int) ≤ most)) _) (OwnFrom.and (Own.from (boxed_own _ _ _) _) (ownFrom_below (Nat.le_refl _) (by simp; omega))))
    (fun cd s X Y row hs hg hr => by
      obtain ⟨h1, pre0, x, h2, h3, h4, h5⟩ := hs
      exact ⟨h1, pre0, x, h2, h3, (Own.from (holdsRow_own _ _ _ _ 1 (fun pre : List ByteArray => pre.length) (fun pre => pre.map Value.string) (fun _ _ => True)) _) pre0 X Y row h4 hg hr, (ownFrom_below (β := Unit) (Nat.le_refl _) (by simp; omega)) () X Y row h5 hg hr⟩)
    ⟨⟨_, bL.alloc _, World.ownsRow_nil _ _ _ _, by simpa using hmost⟩, (bM.alloc _).alloc _, hB0⟩
    (fun x => { tmps := #[.pointer X, .int .i64 most, undef, .pointer (some ⟨w.heap.size, 0, none⟩), .slice none 0 0, .pointer (some ⟨w.heap.size + 1, 0, none⟩), .func (.func 57) #[] #[.pointer (some ⟨w.heap.size + 1 + 1, 0, none⟩)], .string x, .pointer X,
      .func (.func 57) #[] #[.pointer (some ⟨w.heap.size + 1 + 1, 0, none⟩)], .func (.func 57) #[] #[.pointer (some ⟨w.heap.size + 1 + 1, 0, none⟩)], .bool false, .func (.func 57) #[] #[.pointer (some ⟨w.heap.size + 1 + 1, 0, none⟩)], .string x, undef, undef, undef, undef, undef, undef, undef, undef, undef], defers := [] }) ?assign ?body ?done ?stop
  case assign =>
    intro l x W K hK
    gi_wp2
    exact hK
  case body =>
    rintro l pre x W ⟨⟨v, hv, hrow, hle⟩, hm, hB⟩ hlt
    have hc := hv.cell
    have hcm := hm.cell
    obtain ⟨A1, c1, rfl, hc1, _⟩ := own_at hrow
    by_cases hb : most ≤ (pre.length : Int)
    · gi_wp2
      exact ⟨KeepsFrom.refl _ _, rfl, pre, x, rfl, by omega, ⟨_, hv, hrow, trivial⟩, hB⟩
    · gi_wp2_with (gi_at_builtin; refine wpListIn_append_own_at _ rfl (.tmp 18) (.tmp 20) 64 rfl (w.heap.size + 3) 9 i0 (.string { data := #[] }) 1 16 Try.underlying64 hi hz0 hz1 hz2 rfl (by decide) _ _ _ rfl (hrow.alloc _) ⟨W.heap.size, 0, none⟩ 1 1 [.string x] rfl rfl (cell_one_new _ _ _) (by simp [Value.oneCell']) (by unfold maxLen; omega) (by omega) (by have := hm.lt; have := hv.lt; simp; omega) ?_; intro v' w1 hown' hgrow _ hlies; obtain ⟨g', cap', rfl⟩ := ownsRow_succ hown'; obtain ⟨hv1, hv2, hr2, hk2, hb2, hoth⟩ := box_appended (n₀ := w.heap.size) hv (by omega) (by omega) hrow hB.size hown' hgrow; have hkp := RowKp.append hv hv1 hgrow hlies; have hc1 := hv1.cell; have hf1 := hv1.frozen)
      refine ⟨hk2.from _, hkp, ⟨_, hv2, by simpa using hr2, by simp; omega⟩, hoth _ _ _ (by omega) (by omega) hm, hB.trans hb2⟩
  case done =>
    rintro D ys W hD hys ⟨⟨v, hv, hrow, hle⟩, hm, hB⟩ hK
    have hc := hv.cell
    obtain ⟨A1, c1, rfl, hc1, _⟩ := own_at hrow
    gi_wp2
    refine ⟨by simp, .inl ⟨_, _, rfl, run_takeDeferred hK, ?_⟩⟩
    have hmin : min N most.toNat = N := by omega
    exact ⟨_, results_tmp rfl _ _ _, ⟨A1, c1, by rw [hmin]; rfl⟩, hB.trans (belowK_b (w := w) (Nat.le_refl _) W D _ _ (by simp at hD; omega) hK rfl rfl)⟩
  case stop =>
    rintro D c pre W hD hpre ⟨rfl, pre0, x, rfl, hmo, ⟨v, hv, hrow, _⟩, hB⟩ hK
    have hc := hv.cell
    obtain ⟨A1, c1, rfl, hc1, _⟩ := own_at hrow
    gi_wp2
    refine ⟨by simp, .inl ⟨_, _, rfl, run_takeDeferred hK, ?_⟩⟩
    have hmin : min N most.toNat = pre0.length := by simp at hpre; omega
    exact ⟨_, results_tmp rfl _ _ _, ⟨A1, c1, by rw [hmin]; rfl⟩, hB.trans (belowK_b (w := w) (Nat.le_refl _) W D _ _ (by simp at hD; omega) hK rfl rfl)⟩
end Go.Proofs.Ytmlkgealjbjlgaa

/- Contracts of Reader.Rest and of the iterator that it hands back; of the law package's rest (cordwainlaw3). -/
import Derived.RangeFuncBox
import Derived.RangeFuncNested
import Derived.RangeFuncLeaves
import Derived.Shelf.Abstract
import Derived.OwnWalkIn
import Derived.TacticsInMore
import Derived.LoopNIn
import Derived.LoopIn
import Derived.Maps.AppendAt
import Derived.Test.YtgkocnnkknodhaaRdA
import Derived.Test.YtgkocnnkknodhaaByte
import Derived.Test.YtgkocnnkknodhaaBox
namespace Go.Proofs.Ytgkocnnkknodhaa
open Go.RowKit Go.Shelf
attribute [local go_sem] Oper.semAt_some

/-- A slice's bytes, in a block below n₀. -/
def LieU (n₀ : Nat) (w : World) (A : Option Addr) (L : List Nat) : Prop :=
  0 < L.length → ∃ b off, A = some ⟨b, off, none⟩ ∧ b < n₀ ∧ ∀ j, j < L.length → w.cell? ⟨b, off + j, none⟩ = some (byteAt L j)
theorem LieU.below {n₀ : Nat} {w w' : World} {A : Option Addr} {L : List Nat} (h : LieU n₀ w A L) (hb : Below n₀ w w') : LieU n₀ w' A L := fun hn => by
  obtain ⟨b, off, hA, hlt, hc⟩ := h hn
  exact ⟨b, off, hA, hlt, fun j hj => (hb.cell (p := ⟨b, off + j, none⟩) hlt).trans (hc j hj)⟩
theorem At.lieU {n₀ : Nat} {w : World} {A : Option Addr} {L : List Nat} (h : At w A L.length (byteAt L)) (hs : w.heap.size ≤ n₀) : LieU n₀ w A L := fun hn => by
  obtain ⟨b, off, hA, hlt, hc⟩ := h hn
  exact ⟨b, off, hA, by omega, hc⟩

theorem wire.rest_any (r : Nat) (w : World) :
    Calls Try.prog 28 #[.pointer (some ⟨r, 0, none⟩)] w fun e w' => e = .returned (.func (.func 80) #[] #[.pointer (some ⟨w.heap.size, 0, none⟩)]) ∧ w' = w.alloc (.cells #[.pointer (some ⟨r, 0, none⟩)] 25) := by
  go_enter Try.func28, Try.ntmps28
  go_wp2
  go_ret
  exact ⟨rfl, rfl⟩

def RestPost (L : List Nat) (J Jx : List Nat → World → Prop) (e : Ending) (W : World) : Prop :=
  (∃ v, e = .returned v) ∧ ((∃ ys, ys = L ∧ J ys W) ∨ (∃ pre, pre <+: L ∧ Jx pre W))

set_option maxRecDepth 100000 in
set_option maxHeartbeats 1000000 in
theorem wire.rest1_in (n : Nat) (hn : 2 ≤ n) (l Bs n₀ r : Nat) (A : Option Addr) (c : Nat) (L : List Nat) (J Jx : List Nat → World → Prop) (W : World) (hL : L.length ≤ 1000000)
    (hBs : W.cell? ⟨Bs, 0, none⟩ = some (.pointer (some ⟨r, 0, none⟩))) (hr : W.cell? ⟨r, 0, none⟩ = some (.slice A L.length c)) (hat : LieU n₀ W A L) (hn₀ : n₀ ≤ W.heap.size)
    (hY : ∀ pre x W1, J pre W1 → pre.length < L.length → YieldAt Fence.wide (n - 1) Try.prog l #[.int .u8 ((x : Nat) : Int)] W1 fun e W' =>
      (e = .returned (.bool true) ∧ J (pre ++ [x]) W' ∧ Below n₀ W1 W') ∨ (e = .returned (.bool false) ∧ Jx (pre ++ [x]) W')) (h0 : J [] W) :
    CallsIn Fence.wide n Try.prog 80 #[.func (.yield l) #[] #[], .pointer (some ⟨Bs, 0, none⟩)] W (RestPost L J Jx) := by
  refine callsIn_of_wp Try.func80 rfl trivial ?_ rfl
  simp only [Try.ntmps80, List.size_toArray, List.length_cons, List.length_nil, Nat.reduceAdd, Nat.reduceSub, Array.replicate_succ, Array.replicate_zero, List.push_toArray, List.append_toArray, List.nil_append, List.cons_append]
  have HAT := Lib.hid hat; clear hat
  gi_wp2_with fail
  gi_loopw [12] (fun i wr => ∃ pre post : List Nat, i = .int .i64 (pre.length : Int) ∧ L = pre ++ post ∧ J pre wr ∧ LieU n₀ wr A L ∧ n₀ ≤ wr.heap.size) (fun i _ => L.length - (intOf i).toNat)
  case atStart => exact ⟨[], L, rfl, rfl, h0, HAT.out, hn₀⟩
  case round =>
    obtain ⟨pre, post, rfl, hx, hJs, hat, hnw⟩ := hrel
    have HB := Lib.hid hat; clear hat
    have hlen : L.length = pre.length + post.length := by rw [hx, List.length_append]
    cases post with
    | nil =>
      have hx' : pre = L := by rw [hx, List.append_nil]
      have HX := Lib.hid hx'; clear hx' hx
      have hlt : ¬ (pre.length : Int) < (L.length : Int) := by rw [hlen]; simp
      clear hlen
      gi_wp2
      go_end0
      exact ⟨⟨_, rfl⟩, .inl ⟨pre, HX.out, hJs⟩⟩
    | cons x post =>
      have hlt' : pre.length < L.length := by rw [hlen]; simp
      obtain ⟨b, off, rfl, hb, hc⟩ := HB.out (by omega)
      have hck := hc pre.length hlt'
      have hbx : byteAt L pre.length = .int .u8 (x : Int) := by unfold byteAt; rw [hx]; simp [List.getD]
      rw [hbx] at hck
      have hbw : b < wr.heap.size := by omega
      obtain ⟨fn, tmps, assign, body, hy, hR⟩ := hY pre x wr hJs hlt'
      have HX := Lib.hid hx; clear hx hc hbx hJs
      have hlt : (pre.length : Int) < (L.length : Int) := by omega
      clear hlen
      gi_wp2
      refine ⟨fun _ => by omega, hR.mono ?_⟩
      rintro e W3 (⟨rfl, hJ3, hk3⟩ | ⟨rfl, hJx3⟩)
      · have HC := Lib.hid (HB.out.below hk3)
        have hs3 : n₀ ≤ W3.heap.size := by have := hk3.size; omega
        clear hk3
        gi_wp2
        go_roundw
        case rel => exact ⟨pre ++ [x], post, by simp, by rw [HX.out]; simp, hJ3, HC.out, hs3⟩
        case measure => simp [intOf]; omega
      · gi_wp2
        refine bodyPost_ret (results_none rfl _ _ _) rfl ?_
        exact ⟨⟨_, rfl⟩, .inr ⟨pre ++ [x], ⟨post, by rw [HX.out]; simp⟩, hJx3⟩⟩

theorem wire.rest_stops (n : Nat) (hn : 2 ≤ n) (Bs n₀ r : Nat) (A : Option Addr) (c : Nat) (L : List Nat) (hL : L.length ≤ 1000000) (w : World) (hBsl : Bs < w.heap.size) (hrl : r < w.heap.size) (hn₀ : n₀ ≤ w.heap.size)
    (hBs : w.cell? ⟨Bs, 0, none⟩ = some (.pointer (some ⟨r, 0, none⟩))) (hr : w.cell? ⟨r, 0, none⟩ = some (.slice A L.length c)) (hat : LieU n₀ w A L) :
    SeqStopsK Fence.wide n Try.prog 80 #[.pointer (some ⟨Bs, 0, none⟩)] (fun x : Nat => #[Value.int .u8 (x : Int)]) (Below n₀) (fun ys => ys = L) (fun pre => pre <+: L) L.length w := fun l J Jx W hW _ _ hY h0 =>
  wire.rest1_in n hn l Bs n₀ r A c L J Jx W hL ((hW.cell (p := ⟨Bs, 0, none⟩) hBsl).trans hBs) ((hW.cell (p := ⟨r, 0, none⟩) hrl).trans hr) (hat.below (hW.mono hn₀)) (by have := hW.size; omega) hY h0

set_option maxRecDepth 100000 in
set_option maxHeartbeats 2000000 in
/-- The law's rest: the bytes that are left, as many as are asked for. -/
theorem wire.rests_any (Bs r : Nat) (A : Option Addr) (c : Nat) (L : List Nat) (most : Int) (hmost : 0 ≤ most) (hL : L.length ≤ 1000000) (w : World) (hBsl : Bs < w.heap.size) (hrl : r < w.heap.size)
    (hBs : w.cell? ⟨Bs, 0, none⟩ = some (.pointer (some ⟨r, 0, none⟩))) (hr : w.cell? ⟨r, 0, none⟩ = some (.slice A L.length c)) (hat : At w A L.length (byteAt L)) :
    Calls Try.prog 27 #[.func (.func 80) #[] #[.pointer (some ⟨Bs, 0, none⟩)], .int .i64 most] w fun e W' => (∃ v, e = .returned v ∧ W'.ownsRow w.heap.size 5 1 v (L.take most.toNat).length (u8s (L.take most.toNat))) ∧ Below w.heap.size w W' := by
  obtain ⟨i0, hi, hz0, hz1, hz2⟩ := info_parts infoByte
  refine (callsIn_wide (n := 5)).1 ?_
  have h1 : 1 ≤ 5 := by omega
  refine callsIn_of_wp_marks Try.func27 rfl trivial ?_ rfl
  simp only [Try.ntmps27, List.size_toArray, List.length_cons, List.length_nil, Nat.reduceAdd, Nat.reduceSub, Array.replicate_succ, Array.replicate_zero, List.push_toArray, List.append_toArray, List.nil_append, List.cons_append]
  have hnil : ∀ w : World, (binOp BinOp.eql 40 (.func (.func 80) #[] #[.pointer (some ⟨Bs, 0, none⟩)]) .nilFunc).run Try.prog w = .ok (.bool false) w := fun _ => by kernel_rfl
  gi_wp2
  have bM := Boxed.new w 3 (.int .i64 most)
  have bL := Boxed.new (w.alloc (.cells #[.int .i64 most] 3)) 22 (.slice none 0 0)
  rw [World.size_alloc] at bL
  have hB0 : Below w.heap.size w ((w.alloc (.cells #[.int .i64 most] 3)).alloc (.cells #[.slice none 0 0] 22)) := ((Below.refl _ w).alloc (Nat.le_refl _) _).alloc (by simp) _
  refine wpIn_rangeFunc_ownG (F := Fence.wide) (n := 5) rfl h1 (gf := 80) (lb := #[.pointer (some ⟨Bs, 0, none⟩)]) rfl trivial (enters_of Try.func80 (by kernel_rfl) rfl)
    (wire.rest_stops 4 (by omega) Bs w.heap.size r A c L hL _ (by simp; omega) (by simp; omega) (by simp; omega) ((hB0.cell (p := ⟨Bs, 0, none⟩) hBsl).trans hBs) ((hB0.cell (p := ⟨r, 0, none⟩) hrl).trans hr) ((hat.lieU (Nat.le_refl _)).below hB0)) belowK_t (belowK_b (by simp; omega)) (Below.refl _ _) (fun _ => rfl)
    (fun pre W => (∃ v, Boxed W (w.heap.size + 1) 22 v ∧ W.ownsRow (w.heap.size + 2) 5 1 v pre.length (u8s pre) ∧ (pre.length : Int) ≤ most) ∧ (Boxed W w.heap.size 3 (.int .i64 most) ∧ Below w.heap.size w W))
    (fun cd pre W => cd = .exit 0 ∧ ∃ pre0 x, pre = pre0 ++ [x] ∧ most = (pre0.length : Int) ∧ (∃ v, Boxed W (w.heap.size + 1) 22 v ∧ W.ownsRow (w.heap.size + 2) 5 1 v pre0.length (u8s pre0) ∧ True) ∧ Below w.heap.size w W)
    (OwnFrom.and (Own.from (holdsRow_own _ _ _ _ 1 (fun pre : List Nat => pre.length) (fun pre => u8s pre) (fun pre _ => (pre.length : Int) ≤ most)) _) (OwnFrom.and (Own.from (boxed_own _ _ _) _) (ownFrom_below (Nat.le_refl _) (by simp; omega))))
    (fun cd s X Y row hs hg hr => by
      obtain ⟨h1, pre0, x, h2, h3, h4, h5⟩ := hs
      exact ⟨h1, pre0, x, h2, h3, (Own.from (holdsRow_own _ _ _ _ 1 (fun pre : List Nat => pre.length) (fun pre => u8s pre) (fun _ _ => True)) _) pre0 X Y row h4 hg hr, (ownFrom_below (β := Unit) (Nat.le_refl _) (by simp; omega)) () X Y row h5 hg hr⟩)
    ⟨⟨_, bL, World.ownsRow_nil _ _ _ _, by simpa using hmost⟩, bM.alloc _, hB0⟩
    (fun x => { tmps := #[.func (.func 80) #[] #[.pointer (some ⟨Bs, 0, none⟩)], .int .i64 most, undef, .pointer (some ⟨w.heap.size, 0, none⟩), .slice none 0 0, .pointer (some ⟨w.heap.size + 1, 0, none⟩), .int .u8 (x : Int),
      .func (.func 80) #[] #[.pointer (some ⟨Bs, 0, none⟩)], .bool false, .func (.func 80) #[] #[.pointer (some ⟨Bs, 0, none⟩)], .int .u8 (x : Int), undef, undef, undef, undef, undef, undef, undef, undef, undef], defers := [] }) ?assign ?body ?done ?stop
  case assign =>
    intro l x W K hK
    gi_wp2
    exact hK
  case body =>
    rintro l pre x W ⟨⟨v, hv, hrow, hle⟩, hm, hB⟩ hlt
    have hc := hv.cell
    have hcm := hm.cell
    obtain ⟨A1, c1, rfl, hc1, _⟩ := own_at hrow
    by_cases hb : most ≤ (pre.length : Int)
    · gi_wp2
      exact ⟨KeepsFrom.refl _ _, rfl, pre, x, rfl, by omega, ⟨_, hv, hrow, trivial⟩, hB⟩
    · gi_wp2_with (gi_at_builtin; refine wpListIn_append_own _ rfl (.tmp 15) (.tmp 17) 22 rfl (w.heap.size + 2) 5 i0 (.int .u8 0) 1 1 Try.underlying22 hi hz0 hz1 hz2 rfl (by decide) _ _ _ rfl (hrow.alloc _) ⟨W.heap.size, 0, none⟩ 1 1 [.int .u8 (x : Int)] rfl rfl (cell_one_new _ _ _) (by simp [Value.oneCell']) (by unfold maxLen; omega) (by omega) (by have := hm.lt; have := hv.lt; simp; omega) ?_; intro v' w1 hown' hgrow _; obtain ⟨g', cap', rfl⟩ := ownsRow_succ hown'; obtain ⟨hv1, hv2, hr2, hk2, hb2, hoth⟩ := box_appended (n₀ := w.heap.size) hv (by omega) (by omega) hrow hB.size hown' hgrow; have hc1 := hv1.cell; have hf1 := hv1.frozen)
      refine ⟨hk2.from _, hb2, ⟨_, hv2, by simpa [u8s] using hr2, by simp; omega⟩, hoth _ _ _ (by omega) (by omega) hm, hB.trans hb2⟩
  case done =>
    rintro D ys W hD rfl ⟨⟨v, hv, hrow, hle⟩, hm, hB⟩ hK
    have hc := hv.cell
    gi_wp2
    refine ⟨by simp, .inl ⟨_, _, rfl, run_takeDeferred hK, ?_⟩⟩
    have ht : ys.take most.toNat = ys := List.take_of_length_le (by omega)
    exact ⟨_, results_tmp rfl _ _ _, ⟨v, rfl, by rw [ht]; exact ownsRow_base (ownsRow_putObj hrow _ hK rfl) (by omega)⟩, hB.trans (belowK_b (w := w) (Nat.le_refl _) W D _ _ (by simp at hD; omega) hK rfl rfl)⟩
  case stop =>
    rintro D c pre W hD hpre ⟨rfl, pre0, x, rfl, hmo, ⟨v, hv, hrow, _⟩, hB⟩ hK
    have hc := hv.cell
    have ht : L.take most.toNat = pre0 := by
      obtain ⟨post, hpost⟩ := hpre
      have e : most.toNat = pre0.length := by omega
      rw [← hpost, List.append_assoc, e, List.take_left']
      rfl
    gi_wp2
    refine ⟨by simp, .inl ⟨_, _, rfl, run_takeDeferred hK, ?_⟩⟩
    exact ⟨_, results_tmp rfl _ _ _, ⟨v, rfl, by rw [ht]; exact ownsRow_base (ownsRow_putObj hrow _ hK rfl) (by omega)⟩, hB.trans (belowK_b (w := w) (Nat.le_refl _) W D _ _ (by simp at hD; omega) hK rfl rfl)⟩
end Go.Proofs.Ytgkocnnkknodhaa

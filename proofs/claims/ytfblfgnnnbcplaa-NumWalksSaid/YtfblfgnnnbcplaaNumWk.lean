/- Contract of the law package's walk over the iterator of num.All: the first numbers, as many as are asked for. -/
import Derived.Test.YtfblfgnnnbcplaaNumIt
import Derived.Test.YtfblfgnnnbcplaaBox
namespace Go.Proofs.Ytfblfgnnnbcplaa
open Go.RowKit Go.Shelf
attribute [local go_sem] Oper.semAt_some

theorem infoInt : (Try.prog.info? 3).map (fun i => (i.zero, i.size, i.bytes)) = some (some (.int .i64 0), 1, 8) := by kernel_rfl

def i64s (l : List Int) : List Value := l.map (Value.int .i64)

/-- The iterator's value keeps its contract. -/
theorem num.all_stops (n : Nat) (hn : 2 ≤ n) (Bs n₀ : Nat) (A : Option Addr) (m c : Nat) (xs : List I64) (Z : List Nat) (hm : (num.puts (raw xs) ++ Z).length = m) (hmc : m ≤ c) (hcm : c ≤ maxLen)
    (hzb : ∀ j, j < Z.length → Z.getD j 0 < 256) (hZ : num.get (fun j => Z.getD j 0) Z.length = none) (w : World) (hBs : Bs < w.heap.size) (hn₀ : n₀ ≤ w.heap.size)
    (hc : w.cell? ⟨Bs, 0, none⟩ = some (.slice A m c)) (hat : AtU n₀ w A m (byteAt (num.puts (raw xs) ++ Z))) :
    SeqStopsK Fence.wide n Try.prog 43 #[.pointer (some ⟨Bs, 0, none⟩)] (fun x : I64 => #[Value.int .i64 x.1]) (Below n₀) (fun ys => ys = xs) (fun pre => pre <+: xs) xs.length w := fun l J Jx W hW _ _ hY h0 =>
  num.all1_in n hn l Bs n₀ A m c xs Z hm hmc (by unfold maxLen at hcm; omega) hzb hZ J Jx hY W (by have := hW.size; omega) ((hW.cell (p := ⟨Bs, 0, none⟩) hBs).trans hc) (hat.below (hW.mono hn₀)) h0

set_option maxRecDepth 100000 in
set_option maxHeartbeats 2000000 in
theorem num.walk_any (Bs : Nat) (A : Option Addr) (m c : Nat) (xs : List I64) (Z : List Nat) (most : Int) (hmost : 0 ≤ most) (hmost2 : most ≤ 9223372036854775807) (hm : (num.puts (raw xs) ++ Z).length = m) (hmc : m ≤ c) (hcm : c ≤ maxLen)
    (hlen : xs.length ≤ 1000000) (hzb : ∀ j, j < Z.length → Z.getD j 0 < 256) (hZ : num.get (fun j => Z.getD j 0) Z.length = none) (w : World) (hBs : Bs < w.heap.size)
    (hc : w.cell? ⟨Bs, 0, none⟩ = some (.slice A m c)) (hat : At w A m (byteAt (num.puts (raw xs) ++ Z))) :
    Calls Try.prog 21 #[.func (.func 43) #[] #[.pointer (some ⟨Bs, 0, none⟩)], .int .i64 most] w fun e W' => ∃ v, e = .returned v ∧ W'.ownsRow w.heap.size 3 1 v (xs.take most.toNat).length (i64s (raw (xs.take most.toNat))) ∧ Below w.heap.size w W' := by
  obtain ⟨i0, hi, hz0, hz1, hz2⟩ := info_parts infoInt
  refine (callsIn_wide (n := 5)).1 ?_
  have h1 : 1 ≤ 5 := by omega
  refine callsIn_of_wp_marks Try.func21 rfl trivial ?_ rfl
  simp only [Try.ntmps21, List.size_toArray, List.length_cons, List.length_nil, Nat.reduceAdd, Nat.reduceSub, Array.replicate_succ, Array.replicate_zero, List.push_toArray, List.append_toArray, List.nil_append, List.cons_append]
  have HM := Lib.hid hm; clear hm
  have hnil : ∀ w : World, (binOp BinOp.eql 36 (.func (.func 43) #[] #[.pointer (some ⟨Bs, 0, none⟩)]) .nilFunc).run Try.prog w = .ok (.bool false) w := fun _ => by kernel_rfl
  gi_wp2
  have bM := Boxed.new w 3 (.int .i64 most)
  have bL := Boxed.new (w.alloc (.cells #[.int .i64 most] 3)) 35 (.slice none 0 0)
  rw [World.size_alloc] at bL
  have hB0 : Below w.heap.size w ((w.alloc (.cells #[.int .i64 most] 3)).alloc (.cells #[.slice none 0 0] 35)) := ((Below.refl _ w).alloc (Nat.le_refl _) _).alloc (by simp) _
  refine wpIn_rangeFunc_ownG (F := Fence.wide) (n := 5) rfl h1 (gf := 43) (lb := #[.pointer (some ⟨Bs, 0, none⟩)]) rfl trivial (enters_of Try.func43 (by kernel_rfl) rfl)
    (num.all_stops 4 (by omega) Bs w.heap.size A m c xs Z HM.out hmc hcm hzb hZ _ (by simp; omega) (by simp; omega) ((hB0.cell (p := ⟨Bs, 0, none⟩) hBs).trans hc) ((hat.atU (Nat.le_refl _)).below hB0)) belowK_t (belowK_b (by simp; omega)) (Below.refl _ _) (fun _ => rfl)
    (fun pre W => (∃ v, Boxed W (w.heap.size + 1) 35 v ∧ W.ownsRow (w.heap.size + 2) 3 1 v pre.length (i64s (raw pre)) ∧ (pre.length : Int) ≤ most) ∧ (Boxed W w.heap.size 3 (.int .i64 most) ∧ Below w.heap.size w W))
    (fun cd pre W => cd = .exit 0 ∧ ∃ pre0 x, pre = pre0 ++ [x] ∧ most = (pre0.length : Int) ∧ (∃ v, Boxed W (w.heap.size + 1) 35 v ∧ W.ownsRow (w.heap.size + 2) 3 1 v pre0.length (i64s (raw pre0)) ∧ True) ∧ Below w.heap.size w W)
    (OwnFrom.and (Own.from (holdsRow_own _ _ _ _ 1 (fun pre => pre.length) (fun pre => i64s (raw pre)) (fun pre _ => (pre.length : Int) ≤ most)) _) (OwnFrom.and (Own.from (boxed_own _ _ _) _) (ownFrom_below (Nat.le_refl _) (by simp; omega))))
    (fun cd s X Y row hs hg hr => by
      obtain ⟨h1, pre0, x, h2, h3, h4, h5⟩ := hs
      exact ⟨h1, pre0, x, h2, h3, (Own.from (holdsRow_own _ _ _ _ 1 (fun pre : List I64 => pre.length) (fun pre => i64s (raw pre)) (fun _ _ => True)) _) pre0 X Y row h4 hg hr, (ownFrom_below (β := Unit) (Nat.le_refl _) (by simp; omega)) () X Y row h5 hg hr⟩)
    ⟨⟨_, bL, World.ownsRow_nil _ _ _ _, by simpa using hmost⟩, bM.alloc _, hB0⟩
    (fun x => { tmps := #[.func (.func 43) #[] #[.pointer (some ⟨Bs, 0, none⟩)], .int .i64 most, undef, .pointer (some ⟨w.heap.size, 0, none⟩), .slice none 0 0, .pointer (some ⟨w.heap.size + 1, 0, none⟩), .int .i64 x.1,
      .func (.func 43) #[] #[.pointer (some ⟨Bs, 0, none⟩)], .bool false, .func (.func 43) #[] #[.pointer (some ⟨Bs, 0, none⟩)], .int .i64 x.1, undef, undef, undef, undef, undef, undef, undef, undef, undef], defers := [] }) ?assign ?body ?done ?stop
  case assign =>
    intro l x W K hK
    gi_wp2
    exact hK
  case body =>
    rintro l pre x W ⟨⟨v, hv, hrow, hle⟩, hm, hB⟩ hlt
    have hc := hv.cell
    have hcm := hm.cell
    obtain ⟨A1, c1, rfl, hc1, _⟩ := own_at hrow
    by_cases hb : most ≤ (pre.length : Int)
    · gi_wp2
      exact ⟨KeepsFrom.refl _ _, rfl, pre, x, rfl, by omega, ⟨_, hv, hrow, trivial⟩, hB⟩
    · gi_wp2_with (gi_at_builtin; refine wpListIn_append_own _ rfl (.tmp 15) (.tmp 17) 35 rfl (w.heap.size + 2) 3 i0 (.int .i64 0) 1 8 Try.underlying35 hi hz0 hz1 hz2 rfl (by decide) _ _ _ rfl (hrow.alloc _) ⟨W.heap.size, 0, none⟩ 1 1 [.int .i64 x.1] rfl rfl (cell_one_new _ _ _) (by simp [Value.oneCell']) (by unfold maxLen; omega) (by omega) (by have := hm.lt; have := hv.lt; simp; omega) ?_; intro v' w1 hown' hgrow _; obtain ⟨g', cap', rfl⟩ := ownsRow_succ hown'; obtain ⟨hv1, hv2, hr2, hk2, hb2, hoth⟩ := box_appended (n₀ := w.heap.size) hv (by omega) (by omega) hrow hB.size hown' hgrow; have hc1 := hv1.cell; have hf1 := hv1.frozen)
      refine ⟨hk2.from _, hb2, ⟨_, hv2, by simpa [i64s, raw] using hr2, by simp; omega⟩, hoth _ _ _ (by omega) (by omega) hm, hB.trans hb2⟩
  case done =>
    rintro D ys W hD rfl ⟨⟨v, hv, hrow, hle⟩, hm, hB⟩ hK
    have hc := hv.cell
    gi_wp2
    refine ⟨by simp, .inl ⟨_, _, rfl, run_takeDeferred hK, ?_⟩⟩
    have ht : ys.take most.toNat = ys := List.take_of_length_le (by omega)
    exact ⟨_, results_tmp rfl _ _ _, v, rfl, by rw [ht]; exact ownsRow_base (ownsRow_putObj hrow _ hK rfl) (by omega), hB.trans (belowK_b (w := w) (Nat.le_refl _) W D _ _ (by simp at hD; omega) hK rfl rfl)⟩
  case stop =>
    rintro D c pre W hD hpre ⟨rfl, pre0, x, rfl, hmo, ⟨v, hv, hrow, _⟩, hB⟩ hK
    have hc := hv.cell
    have ht : xs.take most.toNat = pre0 := by
      obtain ⟨post, hpost⟩ := hpre
      have e : most.toNat = pre0.length := by omega
      rw [← hpost, List.append_assoc, e, List.take_left']
      rfl
    gi_wp2
    refine ⟨by simp, .inl ⟨_, _, rfl, run_takeDeferred hK, ?_⟩⟩
    exact ⟨_, results_tmp rfl _ _ _, v, rfl, by rw [ht]; exact ownsRow_base (ownsRow_putObj hrow _ hK rfl) (by omega), hB.trans (belowK_b (w := w) (Nat.le_refl _) W D _ _ (by simp at hD; omega) hK rfl rfl)⟩
end Go.Proofs.Ytfblfgnnnbcplaa

/- The law's keys (cordwainlaw12): the walk of a map of keys, gathered. -/
import Derived.Test.YtbbekgliaedigaaKyK
namespace Go.Proofs.Ytbbekgliaedigaa
open Go.RowKit
set_option maxRecDepth 20000
attribute [local go_sem] Oper.semAt_some

theorem key.all_any (p : Option Addr) (w : World) :
    Calls Try.prog 70 #[.pointer p] w fun e w' => e = .returned (.func (.func 93) #[] #[.pointer (some ⟨w.heap.size, 0, none⟩)]) ∧ w' = w.alloc (.cells #[.pointer p] 28) := by
  go_enter Try.func70, Try.ntmps70
  go_wp2
  go_ret
  exact ⟨rfl, rfl⟩

theorem cell_three_new (W : World) (T : TypeId) (a b c : Value) : ∀ (j : Nat) (u : Value), [a, b, c][j]? = some u → (W.alloc (.cells #[a, b, c] T)).cell? ((⟨W.heap.size, 0, none⟩ : Addr).add j) = some u := by
  intro j u hu
  have hb := Blk.new W T #[a, b, c]
  have e : (⟨W.heap.size, 0, none⟩ : Addr).add j = ⟨W.heap.size, j, none⟩ := by simp [Addr.add]; exact fun e => e.symm
  rw [e]
  exact hb.cell j (by simpa using hu)
theorem own_keys_at {W : World} {x : KX} (h : ky.R x W) : At W x.2.1 x.1.1.length (byteAt x.1.1) := fun hn => by
  obtain ⟨g, cs, fr, h1, h2, h3⟩ := h hn
  refine ⟨g, 0, h1, heap_in h2, fun j hj => ?_⟩
  rw [Nat.zero_add]
  simp [World.cell?, h2, h3 j hj]
theorem KX.bytes {W : World} {x : KX} (h : ky.R x W) (hl : x.1.1.length ≤ 1000000) : PBytes W x.pair := ⟨rfl, hl, own_keys_at h, rfl, Nat.zero_le _, fun h => absurd h (Nat.lt_irrefl 0)⟩
theorem ky.says (xs : List KX) : (xs.map KX.pair).map (fun x => (x.bs, x.vs, x.off)) = (xs.map Prod.fst).map fun y => (y.1, [], y.2) := by rw [List.map_map, List.map_map]; rfl

set_option maxHeartbeats 4000000 in
theorem law12.keys_of (pa : Option Addr) (b : Nat) (S : List (List Nat × Int)) (most : Int) (w : World) (hlen : S.length ≤ 100000) (hS : ∀ y ∈ S, y.1.length ≤ 1000000) (hm : 0 ≤ most) (hb : b < w.heap.size)
    (hh : ∀ w', Below w.heap.size w w' → Hands Fence.wide 4 Try.prog 93 #[.pointer (some ⟨w'.heap.size, 0, none⟩)] ky.encs (KKp b) ky.R (ky.S S) (ky.Sp S) (ky.Nx S) (w'.alloc (.cells #[.pointer pa] 28))) :
    Calls Try.prog 23 #[.pointer pa, .int .i64 most] w fun e w' => ∃ v l, e = .returned v ∧ w'.ownsRow w.heap.size 122 3 v l.length (pf.row l) ∧ (∀ x ∈ l, PBytes w' x) ∧ (∃ k : Nat, (k = S.length ∧ (k : Int) ≤ most ∨ k ≤ S.length ∧ (k : Int) = most) ∧ l.map (fun x => (x.bs, x.vs, x.off)) = (S.take k).map fun y => (y.1, [], y.2)) ∧ Below w.heap.size w w' := by
  refine (callsIn_wide (n := 5)).1 ?_
  have h1 : 1 ≤ 5 := by omega
  refine callsIn_of_wp_marks Try.func23 rfl trivial ?_ rfl
  simp only [Try.ntmps23, List.size_toArray, List.length_cons, List.length_nil, Nat.reduceAdd, Nat.reduceSub, Array.replicate_succ, Array.replicate_zero, List.push_toArray, List.append_toArray, List.nil_append, List.cons_append]
  have HH := Lib.hid hh; clear hh
  have HSL := Lib.hid hS; clear hS
  gi_wp2_with fail
  refine ⟨trivial, ?_⟩
  obtain ⟨w4, hw4⟩ : ∃ w4, w4 = (w.alloc (.cells #[.int .i64 most] 3)).alloc (.cells #[.slice none 0 0] 33) := ⟨_, rfl⟩
  rw [← hw4]
  have hB4 : Below w.heap.size w w4 := by rw [hw4]; exact ((Below.refl _ w).alloc (Nat.le_refl _) _).alloc (by simp) _
  have hz4 : w4.heap.size = w.heap.size + 1 + 1 := by rw [hw4]; simp
  have b1 : Boxed w4 w.heap.size 3 (.int .i64 most) := by rw [hw4]; exact (Boxed.new w _ _).alloc _
  have b2 : Boxed w4 (w.heap.size + 1) 33 (.slice none 0 0) := by
    rw [hw4]
    have h := Boxed.new (w.alloc (.cells #[.int .i64 most] 3)) 33 (.slice none 0 0)
    rw [World.size_alloc] at h
    exact h
  clear hw4
  refine (callsIn_wide.2 (key.all_any pa w4)).mono ?_
  rintro e w1 ⟨rfl, hw1⟩
  have hh := HH.out w4 hB4
  rw [← hw1] at hh
  rw [hz4] at hh ⊢
  have hB1 : Below w.heap.size w w1 := by rw [hw1]; exact hB4.alloc hB4.size _
  have hz1 : w1.heap.size = w.heap.size + 3 := by rw [hw1]; simp; omega
  have hi0 : ky.I w most [] w1 := ⟨by rw [hw1]; exact b1.alloc _, ⟨_, by rw [hw1]; exact b2.alloc _, World.ownsRow_nil _ _ _ _⟩, (fun x hx => absurd hx (by simp)), by simpa using hm, hB1⟩
  have hnil : ∀ (Bs : Nat) (w : World), (binOp BinOp.eql 124 (.func (.func 93) #[] #[.pointer (some ⟨Bs, 0, none⟩)]) .nilFunc).run Try.prog w = .ok (.bool false) w := fun _ _ => by kernel_rfl
  have HI0 := Lib.hid hi0; clear hi0 hw1 b1 b2 hB4 hz4 HH
  gi_wp2_with fail
  obtain ⟨i0, hinf⟩ := info_parts infoPair
  have HI := Lib.hid hinf; clear hinf
  refine for_each (F := Fence.wide) (n := 5) rfl h1 (gf := 93) (lb := #[.pointer (some ⟨w.heap.size + 1 + 1, 0, none⟩)]) rfl trivial (enters_of Try.func93 (by kernel_rfl) rfl)
    hh (Below.refl _ _) KKp.trans (fun W l o o' hl ho hcc _ => KKp.put ho hcc (by omega)) (fun _ => rfl)
    (ky.I w most) (fun cd pre W => cd = .exit 0 ∧ ∃ pre0 x, pre = pre0 ++ [x] ∧ most = (pre0.length : Int) ∧ ky.I w most pre0 W) (ky.I_own w most (by omega))
    (fun cd s X Y row hs hg hr => by
      obtain ⟨h1, pre0, x, h2, h3, h4⟩ := hs
      exact ⟨h1, pre0, x, h2, h3, ky.I_own w most (B := w1.heap.size) (by omega) pre0 X Y row h4 hg hr⟩) (ky.R_own _) (fun _ _ _ _ h _ _ => h) (fun _ _ _ _ h _ _ => h)
    HI0.out
    (fun x => { tmps := #[.pointer pa, .int .i64 most, undef, .pointer (some ⟨w.heap.size, 0, none⟩), .slice none 0 0, .pointer (some ⟨w.heap.size + 1, 0, none⟩), .func (.func 93) #[] #[.pointer (some ⟨w.heap.size + 1 + 1, 0, none⟩)], .slice x.2.1 x.1.1.length x.2.2, .int .i64 x.1.2, .pointer pa, .func (.func 93) #[] #[.pointer (some ⟨w.heap.size + 1 + 1, 0, none⟩)], .func (.func 93) #[] #[.pointer (some ⟨w.heap.size + 1 + 1, 0, none⟩)], .bool false, .func (.func 93) #[] #[.pointer (some ⟨w.heap.size + 1 + 1, 0, none⟩)], .slice x.2.1 x.1.1.length x.2.2, .int .i64 x.1.2, undef, undef, undef, undef, undef, undef, undef, undef, undef, undef, undef], defers := [] }) ?assign ?body ?done ?stop
  case assign =>
    rintro l ⟨⟨ks, o⟩, ⟨A', c'⟩⟩ W K hK
    unfold ky.encs
    dsimp only at hK ⊢
    gi_wp2
    exact hK
  case body =>
    rintro lb pre ⟨⟨ks, o⟩, ⟨A', c'⟩⟩ W hsi hR hnx
    dsimp only
    obtain ⟨v, hbx, hrow⟩ := hsi.row
    obtain ⟨A1, c1, rfl, -⟩ := own_at hrow
    have c5 := hbx.cell
    have c3 := hsi.mo.cell
    have hzW := hsi.below.size
    by_cases hq : most ≤ (pre.length : Int)
    · have hle := hsi.le
      have HSI := Lib.hid hsi; clear hsi hbx hrow
      gi_wp2
      exact ⟨KeepsFrom.refl _ _, KKp.below (Below.refl _ _), rfl, pre, _, rfl, by omega, HSI.out⟩
    · have hlt : pre.length < S.length := by
        obtain ⟨rest, hr⟩ := hnx
        have e := congrArg List.length hr
        simp only [List.length_append, List.length_map, List.length_cons] at e
        omega
      have HSI := Lib.hid hsi; clear hsi
      have HR := Lib.hid hR; clear hR hnx
      generalize hkl : ks.length = kl at *
      gi_wp2_with (gi_at_builtin; refine wpListIn_append_own _ rfl (.tmp 20) (.tmp 24) 33 rfl (w.heap.size + 1 + 1) 122 i0 _ 3 56 Try.underlying33 HI.out.1 HI.out.2.1 HI.out.2.2.1 HI.out.2.2.2 rfl (by decide) _ _ _ rfl (hrow.alloc _) ⟨W.heap.size, 0, none⟩ 1 1 [.slice A' kl c', .slice none 0 0, .int .i64 o] rfl rfl (cell_three_new _ _ _ _ _) (by simp [Value.oneCell']) (by unfold maxLen; omega) (by omega) (by have := hbx.lt; simp; omega) ?_; intro v' w2 hown' hgrow _; obtain ⟨g', cap', rfl⟩ := ownsRow_succ hown'; obtain ⟨hv1, hv2, hr2, hk2, hb2, hoth⟩ := box_appended (n₀ := w.heap.size) hbx (by omega) (by omega) hrow HSI.out.below.size hown' hgrow; have hmo2 := hoth w.heap.size _ _ (by omega) (by omega) HSI.out.mo; have hkp := ky.I_kp (b := b) hbx hrow (by omega) (by omega) hgrow (.slice (some ⟨g', 0, none⟩) (pre.length + 1) cap'); have HKP := Lib.hid hkp; clear hkp; have hc1 := hv1.cell; have hf1 := hv1.frozen)
      refine ⟨hk2.from _, HKP.out, hmo2, ⟨_, hv2, ?_⟩, fun x hx => ?_, ?_, HSI.out.below.trans hb2⟩
      · rw [List.length_append, List.map_append, pf.row_append]
        subst hkl
        exact hr2
      · rcases List.mem_append.1 hx with hx | hx
        · exact HKP.out.keyR (HSI.out.bytes x hx)
        · rw [List.mem_singleton.1 hx]
          exact HKP.out.keyR HR.out
      · rw [List.length_append, List.length_singleton]
        omega
  case done =>
    rintro D ys W hD hSS hsi hK
    have hSS : ys.map Prod.fst = S := hSS
    have e1 : ys.length = S.length := by rw [← hSS, List.length_map]
    have hle := hsi.le
    have hin : ∀ x ∈ ys, x.1 ∈ S := fun x hx => by rw [← hSS]; exact List.mem_map.2 ⟨x, hx, rfl⟩
    have hfit : (ys.length = S.length ∧ (ys.length : Int) ≤ most) ∨ (ys.length ≤ S.length ∧ (ys.length : Int) = most) := .inl ⟨e1, hle⟩
    have htake : ys.map Prod.fst = S.take ys.length := by rw [e1, List.take_length]; exact hSS
    have HFT := Lib.hid (And.intro hfit htake); clear hfit htake e1 hSS
    have hDl : D < W.heap.size := heap_in hK
    obtain ⟨v, hbx, hrow⟩ := hsi.row
    obtain ⟨A1, c1, rfl, -⟩ := own_at hrow
    have c5 := hbx.cell
    have hz := hsi.below.size
    gi_wp2_with fail
    refine ⟨by simp, .inl ⟨_, _, rfl, run_takeDeferred hK, ?_⟩⟩
    have hbelow := hsi.below.trans (belowK_b (w := w) (Nat.le_refl _) W D _ (.deferred none) (by omega) hK rfl rfl)
    refine ⟨_, results_tmp rfl _ _ _, .slice A1 ys.length c1, ys.map KX.pair, rfl, ?_, ?_, ⟨ys.length, ?_, ?_⟩, hbelow⟩
    · rw [List.length_map]
      exact ownsRow_base (ownsRow_putObj hrow _ hK rfl) (by omega)
    · intro y hy
      obtain ⟨x, hx, rfl⟩ := List.mem_map.1 hy
      refine KX.bytes ((KKp.put hK rfl (by omega) : KKp b W _).keyR (hsi.bytes x hx)) ?_
      exact HSL.out x.1 (hin x hx)
    · exact HFT.out.1
    · rw [ky.says, HFT.out.2]
  case stop =>
    rintro D c pre W hD hpre ⟨hc, hh⟩ hK
    subst hc
    obtain ⟨pre0, x, rfl, hx, hsi⟩ := hh
    obtain ⟨rest, hr⟩ := hpre
    rw [List.map_append, List.append_assoc] at hr
    have e1 : pre0.length ≤ S.length := by
      have e := congrArg List.length hr
      simp only [List.length_append, List.length_map] at e
      omega
    have hin : ∀ x ∈ pre0, x.1 ∈ S := fun x hx => by rw [← hr]; exact List.mem_append.2 (.inl (List.mem_map.2 ⟨x, hx, rfl⟩))
    have hfit : (pre0.length = S.length ∧ (pre0.length : Int) ≤ most) ∨ (pre0.length ≤ S.length ∧ (pre0.length : Int) = most) := .inr ⟨e1, hx.symm⟩
    have htake : pre0.map Prod.fst = S.take pre0.length := by rw [← hr, List.take_append_of_le_length (by rw [List.length_map]; exact Nat.le_refl _), List.take_of_length_le (by rw [List.length_map]; exact Nat.le_refl _)]
    have HFT := Lib.hid (And.intro hfit htake); clear hfit htake e1 hr hx
    have hDl : D < W.heap.size := heap_in hK
    obtain ⟨v, hbx, hrow⟩ := hsi.row
    obtain ⟨A1, c1, rfl, -⟩ := own_at hrow
    have c5 := hbx.cell
    have hz := hsi.below.size
    gi_wp2_with fail
    refine ⟨by simp, .inl ⟨_, _, rfl, run_takeDeferred hK, ?_⟩⟩
    have hbelow := hsi.below.trans (belowK_b (w := w) (Nat.le_refl _) W D _ (.deferred none) (by omega) hK rfl rfl)
    refine ⟨_, results_tmp rfl _ _ _, .slice A1 pre0.length c1, pre0.map KX.pair, rfl, ?_, ?_, ⟨pre0.length, ?_, ?_⟩, hbelow⟩
    · rw [List.length_map]
      exact ownsRow_base (ownsRow_putObj hrow _ hK rfl) (by omega)
    · intro y hy
      obtain ⟨x, hx, rfl⟩ := List.mem_map.1 hy
      refine KX.bytes ((KKp.put hK rfl (by omega) : KKp b W _).keyR (hsi.bytes x hx)) ?_
      exact HSL.out x.1 (hin x hx)
    · exact HFT.out.1
    · rw [ky.says, HFT.out.2]
end Go.Proofs.Ytbbekgliaedigaa

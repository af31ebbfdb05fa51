/- client: a batch of records. -/
import Derived.Test.YtahncanmfjmfnaaCnD
import Derived.Test.YtahncanmfjmfnaaPlanE
namespace Go.Proofs.Ytahncanmfjmfnaa
open Go.RowKit Go.Maps
set_option maxRecDepth 100000

theorem cn.one {w : World} {rs : List Rec} {V : Nat → Value} (h : ∀ (i : Nat) (r : Rec), rs[i]? = some r → RecR w (cellsAt V i 6) r) (j : Nat) (hj : j < rs.length * 6) : (V j).oneCell' = true := by
  have hi : j / 6 < rs.length := by omega
  obtain ⟨kv, vv, e, ⟨A1, c1, rfl, -⟩, ⟨A2, c2, rfl, -⟩, -⟩ := h (j / 6) _ (List.getElem?_eq_getElem hi)
  have hq : ∃ q, q < 6 ∧ j = j / 6 * 6 + q := ⟨j % 6, by omega, by omega⟩
  obtain ⟨q, hq, hjq⟩ := hq
  rw [hjq]
  match q, hq with
  | 0, _ => rw [cellsAt_cell e 0 (by omega) rfl]; rfl
  | 1, _ => rw [cellsAt_cell e 1 (by omega) rfl]; rfl
  | 2, _ => rw [cellsAt_cell e 2 (by omega) rfl]; rfl
  | 3, _ => rw [cellsAt_cell e 3 (by omega) rfl]; rfl
  | 4, _ => rw [cellsAt_cell e 4 (by omega) rfl]; rfl
  | 5, _ => rw [cellsAt_cell e 5 (by omega) rfl]; rfl
set_option maxHeartbeats 1000000 in
theorem cn.clone_cells (A : Option Addr) (c m : Nat) (V : Nat → Value) (w : World) (hat : At w A (m * 6) V) (hone : ∀ j, j < m * 6 → (V j).oneCell' = true) (hl : m ≤ 1000) :
    Calls Try.prog 47 #[.slice A m c] w fun e w' => ∃ v, e = .returned v ∧ w'.ownsRow w.heap.size 44 6 v m (cellsOf (m * 6) V) ∧ Below w.heap.size w w' := by
  obtain ⟨i0, hi, hz0, hz1, hz2⟩ := info_parts cn.infoRec
  have H4 := Lib.hid hone; clear hone
  cases A with
  | none =>
    have hm0 : m = 0 := by
      rcases Nat.eq_zero_or_pos m with h | h
      · exact h
      · obtain ⟨b, off, h1, _⟩ := hat (by omega); cases h1
    subst hm0
    go_enter Try.func47, Try.ntmps47
    have hn := Lib.run_eql_slice_nil (P := Try.prog) w 39 44 none 0 c 0 0 Try.underlying39
    go_wp2_with fail
    go_ret
    exact ⟨_, rfl, World.ownsRow_nil _ _ _ _, Below.refl _ _⟩
  | some a =>
    go_enter Try.func47, Try.ntmps47
    have hn := Lib.run_eql_slice_nil (P := Try.prog) w 39 44 (some a) m c 0 0 Try.underlying39
    have h0 : (w.alloc (.cells #[] 44)).ownsRow w.heap.size 44 6 (.slice (some ⟨w.heap.size, 0, none⟩) 0 0) 0 [] := World.ownsRow_made w #[] 0 (Nat.le_refl _) (by unfold maxLen; omega) (by simp)
    have H0 := Lib.hid h0; clear h0
    have HAT := Lib.hid hat; clear hat
    go_wp2_with (at_builtin; refine wpList_app _ rfl (.tmp 5) (.tmp 6) 39 rfl w.heap.size 44 i0 _ 6 80 Try.underlying39 hi hz0 hz1 hz2 rfl (by decide) _ 0 [] rfl H0.out (some a) m c V rfl (HAT.out.alloc _) (fun j hj => H4.out j hj) (by unfold maxLen; omega) (by omega) (by simp) ?_; intro v' w2 hown2 hg2)
    have hb2 : Below w.heap.size w w2 := ((Below.refl _ w).alloc (Nat.le_refl _) _).grown hg2 (by simp) (fun g hg => by cases hg; exact Nat.le_refl _)
    rw [List.nil_append, Nat.zero_add] at hown2
    have HB2 := Lib.hid hb2; clear hb2
    have HOWN2 := Lib.hid hown2; clear hown2
    clear hg2
    go_wp2_with fail
    go_ret
    exact ⟨_, rfl, HOWN2.out, HB2.out⟩
theorem cn.cellP {a b : World} {P : Nat → Prop} (h : Chg a b P) {p : Addr} {v : Value} (hc : a.cell? p = some v) (hl : p.block < a.heap.size) (hp : ¬ P p.block) : b.cell? p = some v := by
  have hb := h.block p.block hl hp
  unfold World.cell? at hc ⊢
  rw [hb]
  exact hc
theorem cn.infoBat : (Try.prog.info? 42).map (·.size) = some 6 := by kernel_rfl
/-- The records, by their places. -/
def cn.numbered (rs : List Rec) : List Rec := rs.mapIdx fun (i : Nat) (r : Rec) => ({ r with off := (i : Int) } : Rec)
theorem cn.numbered_len (rs : List Rec) : (cn.numbered rs).length = rs.length := by unfold cn.numbered; simp
def cn.bat (id epoch seq : Int) (rs : List Rec) : Bat := ⟨0, max ((rs.length : Int) - 1) 0, id, epoch, seq, cn.numbered rs⟩
/-- The first j cells of offsets are set. -/
def cn.num (V : Nat → Value) (j q : Nat) : Value := if q % 6 = 0 ∧ q / 6 < j then .int .i64 ((q / 6 : Nat) : Int) else V q
theorem cn.num_zero (V : Nat → Value) (m : Nat) : cellsOf m (cn.num V 0) = cellsOf m V := by
  unfold cellsOf
  refine List.map_congr_left fun q _ => ?_
  unfold cn.num
  rw [if_neg (by omega)]
theorem cn.num_succ (V : Nat → Value) (m j : Nat) : (cellsOf m (cn.num V j)).set (j * 6) (.int .i64 (j : Int)) = cellsOf m (cn.num V (j + 1)) := by
  unfold cellsOf
  apply List.ext_getElem?
  intro q
  by_cases hq : q < m
  · rw [List.getElem?_set]
    by_cases e : j * 6 = q
    · subst e
      rw [if_pos rfl, if_pos (by simpa using hq), List.getElem?_map, List.getElem?_range hq]
      simp only [Option.map_some, cn.num]
      rw [if_pos (by omega), show j * 6 / 6 = j by omega]
    · rw [if_neg e, List.getElem?_map, List.getElem?_map, List.getElem?_range hq]
      simp only [Option.map_some, cn.num]
      by_cases h1 : q % 6 = 0 ∧ q / 6 < j
      · rw [if_pos h1, if_pos (by omega)]
      · rw [if_neg h1, if_neg (by omega)]
  · rw [List.getElem?_eq_none (by simp; omega), List.getElem?_eq_none (by simp; omega)]
theorem cn.num_row {w : World} {V : Nat → Value} {rs : List Rec} (hlen : rs.length ≤ 1000) (h : ∀ (i : Nat) (r : Rec), rs[i]? = some r → RecR w (cellsAt V i 6) r) (i : Nat) (r : Rec) (hr : (cn.numbered rs)[i]? = some r) : RecR w (cellsAt (cn.num V rs.length) i 6) r := by
  unfold cn.numbered at hr
  rw [List.getElem?_mapIdx] at hr
  cases hx : rs[i]? with
  | none => rw [hx] at hr; cases hr
  | some x =>
    rw [hx] at hr
    obtain rfl : ({ x with off := (i : Int) } : Rec) = r := by simpa using hr
    have hi := (List.getElem?_eq_some_iff.1 hx).1
    obtain ⟨kv, vv, e, h1, h2, -, h3⟩ := h i x hx
    refine ⟨kv, vv, ?_, h1, h2, ⟨by have : (0 : Int) ≤ i := Int.natCast_nonneg _; dsimp only; omega, by dsimp only; omega⟩, h3⟩
    refine six_cells (by simp [cellsAt]) ?_ ?_ ?_ ?_ ?_ ?_
    · rw [cellsAt_get _ _ _ _ (by omega)]; unfold cn.num; rw [if_pos (by omega), show (i * 6 + 0) / 6 = i by omega]
    · rw [cellsAt_get _ _ _ _ (by omega)]; unfold cn.num; rw [if_neg (by omega), cellsAt_cell e 1 (by omega) rfl]
    · rw [cellsAt_get _ _ _ _ (by omega)]; unfold cn.num; rw [if_neg (by omega), cellsAt_cell e 2 (by omega) rfl]
    · rw [cellsAt_get _ _ _ _ (by omega)]; unfold cn.num; rw [if_neg (by omega), cellsAt_cell e 3 (by omega) rfl]
    · rw [cellsAt_get _ _ _ _ (by omega)]; unfold cn.num; rw [if_neg (by omega), cellsAt_cell e 4 (by omega) rfl]
    · rw [cellsAt_get _ _ _ _ (by omega)]; unfold cn.num; rw [if_neg (by omega), cellsAt_cell e 5 (by omega) rfl]
theorem cn.own_set {w : World} {base : Nat} {e : TypeId} {size g n c : Nat} {xs : List Value} (h : w.ownsRow base e size (.slice (some ⟨g, 0, none⟩) n c) n xs) (j : Nat) (v : Value) :
    (w.setCell ⟨g, j, none⟩ v).ownsRow base e size (.slice (some ⟨g, 0, none⟩) n c) n (xs.set j v) := by
  refine ⟨by rw [List.length_set]; exact h.1, ?_⟩
  rcases h.2 with ⟨h1, -⟩ | ⟨g', cap, cur, h1, h3, h4, h5, h6, h7, h8⟩
  · cases h1
  · obtain ⟨rfl, rfl⟩ : g = g' ∧ c = cap := by simpa using h1
    exact .inr ⟨g, c, cur.setIfInBounds j v, rfl, h3, Blk.set (T := e) h4 j v, h5, h6, by simpa using h7, by rw [Array.toList_setIfInBounds, List.take_set, h8]⟩

set_option maxHeartbeats 8000000 in
theorem cn.batch_any (p : Nat) (id epoch corr : Int) (u : Option CSent) (D : SlotK → Int) (F : Nat → Prop) (n0 : Nat) (A : Option Addr) (c : Nat) (rs : List Rec) (seq : Int) (w : World) (h : CnAt w p id epoch corr u D F n0) (hv : RecsV w (.slice A rs.length c) rs) (hl : rs.length ≤ 1000) :
    Calls Try.prog 27 #[.pointer (some ⟨p, 0, none⟩), .slice A rs.length c, .int .i64 seq] w fun e w' => ∃ A2 c2, e = .returned ((cn.bat id epoch seq rs).hval A2 rs.length c2) ∧ RecsV w' (.slice A2 rs.length c2) (cn.numbered rs) ∧ Below w.heap.size w w' := by
  obtain ⟨uv, mb, N, gm, hblk, -⟩ := h
  obtain ⟨w1, hw1⟩ : ∃ w1, w1 = w.alloc (.cells #[.int .i64 0, .int .i64 0, .int .i64 0, .int .i64 0, .int .i64 0, .slice none 0 0] 42) := ⟨_, rfl⟩
  obtain ⟨g0, hg0⟩ : ∃ g0, g0 = w.heap.size := ⟨_, rfl⟩
  have hz1 : Blk w1 g0 42 #[.int .i64 0, .int .i64 0, .int .i64 0, .int .i64 0, .int .i64 0, .slice none 0 0] := by rw [hw1, hg0]; exact Blk.new _ _ _
  have hb1 : Below g0 w w1 := by rw [hw1, hg0]; exact (Below.refl _ _).alloc (Nat.le_refl _) _
  have hk1 := (chg_of (P := fun _ => False) (hg0 ▸ hb1)).blk hblk fun q => q
  obtain ⟨A', c', V, e, -, -, hat, hrec⟩ := hv
  obtain ⟨rfl, rfl⟩ : A = A' ∧ c = c' := by simp at e; exact e
  clear e
  have hone := cn.one hrec
  have hcl : ∀ wx, Below g0 w wx → Calls Try.prog 47 #[.slice A rs.length c] wx fun e w' => ∃ A2 c2, e = .returned (.slice A2 rs.length c2) ∧ w'.ownsRow wx.heap.size 44 6 (.slice A2 rs.length c2) rs.length (cellsOf (rs.length * 6) V) ∧ Below wx.heap.size wx w' := fun wx hb => by
    refine (cn.clone_cells A c rs.length V wx (hat.below hb (by rw [hg0]; exact Nat.le_refl _)) hone hl).mono ?_
    rintro e w' ⟨v, rfl, h1, h3⟩
    obtain ⟨A2, c2, rfl, -⟩ := own_at h1
    exact ⟨A2, c2, rfl, h1, h3⟩
  obtain ⟨n, hn⟩ : ∃ n, n = rs.length := ⟨_, rfl⟩
  have HRS := Lib.hid (And.intro hcl (And.intro hz1 (And.intro hb1 (And.intro hk1 (And.intro hw1 (And.intro hg0 (And.intro hn hrec))))))); clear hcl hz1 hb1 hblk hrec hat hone
  rw [← hn] at hl HRS ⊢
  have HNN := Lib.hid hn
  have p0' := hk1.cell 0 rfl
  have p1' := hk1.cell 1 rfl
  have hpl := hk1.lt
  clear hk1 hw1 hg0 hn
  go_enter Try.func27, Try.ntmps27
  go_upto_region 1 with fail
  rw [← HRS.out.2.2.2.2.1, ← HRS.out.2.2.2.2.2.1]
  obtain ⟨L, hL⟩ : ∃ L : Int, L = if (n : Int) - 1 < 0 then (0 : Int) else (n : Int) - 1 := ⟨_, rfl⟩
  have HLL := Lib.hid hL; clear hL
  go_cut [7] from 9 to 24 (fun s7 wx => ∃ (gb : Nat) (A2 : Option Addr) (c2 : Nat), s7 = .pointer (some ⟨gb, 0, none⟩) ∧ g0 + 1 ≤ gb ∧ Blk wx gb 42 #[.int .i64 0, .int .i64 L, .int .i64 id, .int .i64 epoch, .int .i64 seq, .slice A2 n c2] ∧ wx.ownsRow (g0 + 1) 44 6 (.slice A2 n c2) n (cellsOf (n * 6) V) ∧ Below g0 w wx ∧ Blk wx g0 42 #[.int .i64 0, .int .i64 0, .int .i64 0, .int .i64 0, .int .i64 0, .slice none 0 0])
  case first =>
    have p0 : ∀ x : Later w1 (fun _ => False), x.1.cell? ⟨p, 0, none⟩ = some (.int .i64 id) := fun x => cn.cellP x.2 p0' hpl fun q => q
    have p1 : ∀ x : Later w1 (fun _ => False), x.1.cell? ⟨p, 1, none⟩ = some (.int .i64 epoch) := fun x => cn.cellP x.2 p1' hpl fun q => q
    have hS0 : later w1 (fun _ => False) w1.drew := later_of ((Chg.refl _ _).drew)
    refine wp_plan (S := fun w0 => ∃ x : Later w1 (fun _ => False), w0 = x.1) (by kernel_rfl) hS0 ?_
    intro hS' K5 hK5
    have HS := Lib.hid hS'; clear hS' hS0
    refine plan_group [true, true, true, true, true, true, true, true, true, true, true, true, true, true] [0, 1, 2, 3, 4, 5, 6, 7, 8, 9, 10, 11, 12, 13] 4 (by dsimp only [sel]) (by rfl) rfl (by kernel_rfl) (by kernel_rfl) HS.out ?_
    (repeat go_big_quiet_step (fail)); refine wpQuiet_nil ?_
    rw [← HLL.out]
    have hbd : Below g0 w w1.drew := HRS.out.2.2.1.trans (bdrew (Below.refl g0 w1) 1)
    have hfin : ∀ (w5 : World) (gb : Nat) (A2 : Option Addr) (c2 : Nat), Blk w5 gb 42 #[.int .i64 0, .int .i64 0, .int .i64 0, .int .i64 0, .int .i64 0, .slice none 0 0] → g0 + 1 ≤ gb → w5.ownsRow (g0 + 1) 44 6 (.slice A2 n c2) n (cellsOf (n * 6) V) → Below g0 w w5 → Blk w5 g0 42 #[.int .i64 0, .int .i64 0, .int .i64 0, .int .i64 0, .int .i64 0, .slice none 0 0] →
        Blk (w5.setRow gb #[.int .i64 0, .int .i64 L, .int .i64 id, .int .i64 epoch, .int .i64 seq, .slice A2 n c2]) gb 42 #[.int .i64 0, .int .i64 L, .int .i64 id, .int .i64 epoch, .int .i64 seq, .slice A2 n c2] ∧ (w5.setRow gb #[.int .i64 0, .int .i64 L, .int .i64 id, .int .i64 epoch, .int .i64 seq, .slice A2 n c2]).ownsRow (g0 + 1) 44 6 (.slice A2 n c2) n (cellsOf (n * 6) V) ∧ Below g0 w (w5.setRow gb #[.int .i64 0, .int .i64 L, .int .i64 id, .int .i64 epoch, .int .i64 seq, .slice A2 n c2]) ∧ Blk (w5.setRow gb #[.int .i64 0, .int .i64 L, .int .i64 id, .int .i64 epoch, .int .i64 seq, .slice A2 n c2]) g0 42 #[.int .i64 0, .int .i64 0, .int .i64 0, .int .i64 0, .int .i64 0, .slice none 0 0] := fun w5 gb A2 c2 h1 h2 h3 h4 h5 => by
      have hc := cn.chg_row w5 gb #[.int .i64 0, .int .i64 L, .int .i64 id, .int .i64 epoch, .int .i64 seq, .slice A2 n c2]
      have hsz := h4.size
      have hg0 := HRS.out.2.2.2.2.2.1
      exact ⟨cn.blk_row h1 _, hc.own h3 fun k hk e => by subst e; exact h1.not_row (by decide) h3 hk, h4.trans (hc.below (by rw [hg0]; exact hsz) fun k hk => by have hk : k = gb := hk; omega), hc.blk h5 fun e => by omega⟩
    have HFIN := Lib.hid hfin; clear hfin
    have hs1 : w1.heap.size = g0 + 1 := by rw [HRS.out.2.2.2.2.1, HRS.out.2.2.2.2.2.1]; exact World.size_alloc _ _
    have HS1 := Lib.hid hs1; clear hs1
    refine plan_two [false, false, false, false, false, false, false, false, false, false, false, false, false, false, true] [false, false, false, false, false, false, false, false, false, false, false, false, false, false, false, false, true] 14 16 3 (by dsimp only [sel]) (by dsimp only [sel]) (by rfl) (by rfl) rfl (by kernel_rfl) ?_ ?_
    · intro K1 hK1
      go_wp2_with (go_at_call 47; refine (HRS.out.1 _ hbd).mono ?_; rintro e w4 ⟨A2, c2, rfl, h1, h2⟩; have H4 := Lib.hid (And.intro h1 h2); clear h1 h2)
      have hc4 : Chg w1 w4 (fun _ => False) := ((Chg.refl w1 (fun _ => False)).drew).trans (chg_of H4.out.2) fun _ _ q => q
      have hb4 : Below g0 w w4 := hbd.trans (H4.out.2.mono (by have h1 := hbd.size; have h2 := HRS.out.2.2.2.2.2.1; omega))
      obtain ⟨w5, hw5⟩ : ∃ w5, w5 = w4.alloc (.cells #[.int .i64 0, .int .i64 0, .int .i64 0, .int .i64 0, .int .i64 0, .slice none 0 0] 42) := ⟨_, rfl⟩
      have hz5 : Blk w5 w4.heap.size 42 #[.int .i64 0, .int .i64 0, .int .i64 0, .int .i64 0, .int .i64 0, .slice none 0 0] := by rw [hw5]; exact Blk.new _ _ _
      have hs4 : g0 + 1 ≤ w4.heap.size := by have h1 := hc4.size; have h2 := HS1.out; omega
      have hr5 : w5.ownsRow (g0 + 1) 44 6 (.slice A2 n c2) n (cellsOf (n * 6) V) := by
        have h1 := H4.out.1
        rw [show w1.drew.heap.size = g0 + 1 from HS1.out] at h1
        rw [hw5]
        exact h1.alloc _
      have hb5 : Below g0 w w5 := by rw [hw5]; exact hb4.alloc (by have h1 := hb4.size; have h2 := HRS.out.2.2.2.2.2.1; omega) _
      have hz0 : Blk w5 g0 42 #[.int .i64 0, .int .i64 0, .int .i64 0, .int .i64 0, .int .i64 0, .slice none 0 0] := by rw [hw5]; exact (Chg.alloc _ _ (fun _ => False)).blk (hc4.blk HRS.out.2.1 fun q => q) fun q => q
      have hc5 : Chg w1 w5 (fun _ => False) := by rw [hw5]; exact hc4.trans (Chg.alloc _ _ (fun _ => False)) fun _ _ q => q
      have HQ := Lib.hid (And.intro hz5 (And.intro hs4 (And.intro hr5 (And.intro hb5 (And.intro hz0 hc5))))); clear hz5 hs4 hr5 hb5 hz0 hb4
      have hl4 := later_of hc4
      have HL4 := Lib.hid hl4; clear hl4 hc4
      refine ⟨by first | exact HL4.out | exact fun _ => HL4.out, ?_⟩
      refine plan_group [false, false, false, false, false, false, false, false, false, false, false, false, false, false, false, true] [15] 2 (by dsimp only [sel]) (by rfl) rfl (by kernel_rfl) (by kernel_rfl) HL4.out ?_
      (repeat go_big_quiet_step (fail)); refine wpQuiet_nil ?_
      refine plan_one [false, false, false, false, false, false, false, false, false, false, false, false, false, false, false, false, true] 16 1 (by dsimp only [sel]) (by rfl) rfl (by kernel_rfl) ?_; intro K2 hK2; go_wp2_with fail
      rw [← hw5]
      have hl5 := later_of hc5
      refine ⟨by first | exact hl5 | exact fun _ => hl5, ?_⟩
      clear hl5 hc5 hw5
      refine plan_one [false, false, false, false, false, false, false, false, false, false, false, false, false, false, false, false, false, true] 17 0 (by dsimp only [sel]) (by rfl) rfl (by kernel_rfl) ?_; intro K3 hK3; go_wp2_with (show Go.wpList _ _ _ (⟨_, .store _ (.tmp 7) (.tmp 24), _, _, _, _⟩ :: _) _ _; go_loud (refine wpList_store_row rfl 42 (.tmp 7) (.tmp 24) rfl w4.heap.size #[.int .i64 0, .int .i64 L, .int .i64 id, .int .i64 epoch, .int .i64 seq, .slice A2 n c2] rfl rfl 42 _ HQ.out.1 cn.infoBat rfl (by simp [Value.oneCell']) ?_))
      have HE := Lib.hid (HFIN.out _ _ _ _ HQ.out.1 HQ.out.2.1 HQ.out.2.2.1 HQ.out.2.2.2.1 HQ.out.2.2.2.2.1)
      have hl6 := later_of (HQ.out.2.2.2.2.2.trans (cn.chg_row w5 w4.heap.size #[.int .i64 0, .int .i64 L, .int .i64 id, .int .i64 epoch, .int .i64 seq, .slice A2 n c2]) fun k hk q => absurd hk (by rw [show k = w4.heap.size from q]; exact Nat.not_lt.2 (by have h1 := HQ.out.2.1; have h2 := HS1.out; omega)))
      refine ⟨by first | exact hl6 | exact fun _ => hl6, ?_⟩
      refine wp_plan_end (by kernel_rfl) ?_
      refine hK5 _ _ ?_
      go_wp2_with fail
      go_meet
      case rel => exact ⟨w4.heap.size, A2, c2, rfl, HQ.out.2.1, HE.out⟩
    · intro K1 hK1
      go_wp2_with fail
      obtain ⟨w3, hw3⟩ : ∃ w3, w3 = (w1.alloc (.cells #[.int .i64 0, .int .i64 0, .int .i64 0, .int .i64 0, .int .i64 0, .slice none 0 0] 42)).drew := ⟨_, rfl⟩
      rw [← hw3]
      have hz3 : Blk w3 w1.heap.size 42 #[.int .i64 0, .int .i64 0, .int .i64 0, .int .i64 0, .int .i64 0, .slice none 0 0] := by rw [hw3]; exact (Blk.new w1 _ _).drew 1
      have hc3 : Chg w1 w3 (fun _ => False) := by rw [hw3]; exact (Chg.alloc _ _ _).drew
      have hs3 : w3.heap.size = g0 + 2 := by rw [hw3]; show (w1.alloc _).heap.size = _; rw [World.size_alloc, HS1.out]
      have hb3 : Below g0 w w3 := HRS.out.2.2.1.trans ((hc3.below (B := g0) (by rw [HS1.out]; omega) fun _ q => q.elim))
      have hl3 := later_of hc3
      have HL3 := Lib.hid (And.intro hl3 (And.intro hz3 (And.intro hc3 (And.intro hs3 hb3)))); clear hl3 hz3 hc3 hs3 hw3
      refine ⟨by first | exact HL3.out.1 | exact fun _ => HL3.out.1, ?_⟩
      refine plan_one [false, false, false, false, false, false, false, false, false, false, false, false, false, false, true] 14 2 (by dsimp only [sel]) (by rfl) rfl (by kernel_rfl) ?_; intro K2 hK2
      go_wp2_with (go_at_call 47; refine (HRS.out.1 _ hb3).mono ?_; rintro e w4 ⟨A2, c2, rfl, h1, h2⟩; have H4 := Lib.hid (And.intro h1 h2); clear h1 h2)
      have hc34 := chg_of (P := fun _ => False) H4.out.2
      have hz5 : Blk w4 w1.heap.size 42 #[.int .i64 0, .int .i64 0, .int .i64 0, .int .i64 0, .int .i64 0, .slice none 0 0] := hc34.blk HL3.out.2.1 fun q => q
      have hc4 : Chg w1 w4 (fun _ => False) := HL3.out.2.2.1.trans hc34 fun _ _ q => q
      have hb4 : Below g0 w w4 := hb3.trans (H4.out.2.mono (by rw [HL3.out.2.2.2.1]; omega))
      have hr5 : w4.ownsRow (g0 + 1) 44 6 (.slice A2 n c2) n (cellsOf (n * 6) V) := ownsRow_base H4.out.1 (by rw [HL3.out.2.2.2.1]; omega)
      have hz0 : Blk w4 g0 42 #[.int .i64 0, .int .i64 0, .int .i64 0, .int .i64 0, .int .i64 0, .slice none 0 0] := hc4.blk HRS.out.2.1 fun q => q
      obtain ⟨w5, hw5⟩ : ∃ w5 : World, w5 = w4 := ⟨_, rfl⟩
      subst hw5
      have HQ := Lib.hid (And.intro hz5 (And.intro (show g0 + 1 ≤ w1.heap.size by rw [HS1.out]; exact Nat.le_refl _) (And.intro hr5 (And.intro hb4 (And.intro hz0 hc4))))); clear hz5 hr5 hz0 hb4 hc34
      have hl4 := later_of hc4
      have HL4 := Lib.hid hl4; clear hl4 hc4
      refine ⟨by first | exact HL4.out | exact fun _ => HL4.out, ?_⟩
      refine plan_group [false, false, false, false, false, false, false, false, false, false, false, false, false, false, false, true] [15] 1 (by dsimp only [sel]) (by rfl) rfl (by kernel_rfl) (by kernel_rfl) HL4.out ?_
      (repeat go_big_quiet_step (fail)); refine wpQuiet_nil ?_
      refine plan_one [false, false, false, false, false, false, false, false, false, false, false, false, false, false, false, false, false, true] 17 0 (by dsimp only [sel]) (by rfl) rfl (by kernel_rfl) ?_; intro K3 hK3; go_wp2_with (show Go.wpList _ _ _ (⟨_, .store _ (.tmp 7) (.tmp 24), _, _, _, _⟩ :: _) _ _; go_loud (refine wpList_store_row rfl 42 (.tmp 7) (.tmp 24) rfl w1.heap.size #[.int .i64 0, .int .i64 L, .int .i64 id, .int .i64 epoch, .int .i64 seq, .slice A2 n c2] rfl rfl 42 _ HQ.out.1 cn.infoBat rfl (by simp [Value.oneCell']) ?_))
      have HE := Lib.hid (HFIN.out _ _ _ _ HQ.out.1 HQ.out.2.1 HQ.out.2.2.1 HQ.out.2.2.2.1 HQ.out.2.2.2.2.1)
      have hl6 := later_of (HQ.out.2.2.2.2.2.trans (cn.chg_row w5 w1.heap.size #[.int .i64 0, .int .i64 L, .int .i64 id, .int .i64 epoch, .int .i64 seq, .slice A2 n c2]) fun k hk q => absurd hk (by rw [show k = w1.heap.size from q]; exact Nat.not_lt.2 (Nat.le_refl _)))
      refine ⟨by first | exact hl6 | exact fun _ => hl6, ?_⟩
      refine wp_plan_end (by kernel_rfl) ?_
      refine hK5 _ _ ?_
      go_wp2_with fail
      go_meet
      case rel => exact ⟨w1.heap.size, A2, c2, rfl, HQ.out.2.1, HE.out⟩
  case rest =>
    obtain ⟨gb, A2, c2, rfl, hgb, hbk, hrow, hbw, hz0⟩ := hcut
    clear p0' p1' hpl
    have c5 := hbk.cell 5 rfl
    have hbl := hbk.lt
    have HC := Lib.hid (And.intro hbk (And.intro hrow (And.intro hbw hz0))); clear hbk hrow hbw hz0
    go_upto_region 3 with fail
    clear c5 hbl
    go_loopw [28] (fun i wx => ∃ (j : Nat), j ≤ n ∧ i = .int .i64 (j : Int) ∧ Blk wx gb 42 #[.int .i64 0, .int .i64 L, .int .i64 id, .int .i64 epoch, .int .i64 seq, .slice A2 n c2] ∧ wx.ownsRow (g0 + 1) 44 6 (.slice A2 n c2) n (cellsOf (n * 6) (cn.num V j)) ∧ Below g0 w wx ∧ Blk wx g0 42 #[.int .i64 0, .int .i64 0, .int .i64 0, .int .i64 0, .int .i64 0, .slice none 0 0]) (fun i _ => n - (intOf i).toNat)
    case atStart => exact ⟨0, by omega, rfl, HC.out.1, by rw [cn.num_zero]; exact HC.out.2.1, HC.out.2.2.1, HC.out.2.2.2⟩
    case round =>
      obtain ⟨j, hj, rfl, hbk, hrow, hbw, hz0⟩ := hrel
      by_cases hlt : j < n
      · have hlt' : (j : Int) < (n : Int) := by omega
        obtain ⟨g, rfl⟩ : ∃ g, A2 = some ⟨g, 0, none⟩ := by
          rcases hrow.2 with ⟨h1, -⟩ | ⟨g, cap, cur, h1, -⟩
          · exfalso
            have : n = 0 := by injection h1
            omega
          · exact ⟨g, by injection h1⟩
        have hset := cn.own_set hrow (j * 6) (.int .i64 (j : Int))
        rw [cn.num_succ] at hset
        have hgw := hrow.lt g rfl
        have hgb2 : gb ≠ g := fun e => by subst e; exact hbk.not_row (by decide) hrow rfl
        obtain ⟨A3, c3, e3, -, hat⟩ := own_at hrow
        obtain ⟨rfl, rfl⟩ : A3 = some ⟨g, 0, none⟩ ∧ c2 = c3 := by simp at e3; exact ⟨e3.1.symm, e3.2⟩
        obtain ⟨b, off, e4, hbb, hcc⟩ := hat (by omega)
        obtain ⟨rfl, rfl⟩ : g = b ∧ 0 = off := by simpa using e4
        have hcell := hcc (j * 6) (by omega)
        rw [Nat.zero_add] at hcell
        have hfr : wr.frozen? ⟨g, j * 6, none⟩ = false := by
          rcases hrow.2 with ⟨h1, -⟩ | ⟨g', cap, cur, h1, -, h4, -⟩
          · cases h1
          · obtain rfl : g = g' := by have : some (⟨g, 0, none⟩ : Addr) = some ⟨g', 0, none⟩ := by injection h1
                                      simpa using this
            exact Blk.frozen (T := 44) h4 (j * 6)
        have c5 := hbk.cell 5 rfl
        have hbl := hbk.lt
        have HR := Lib.hid (And.intro hbk (And.intro hset (And.intro hbw (And.intro hz0 hgw)))); clear hbk hset hrow hbw hz0 hgw hat hcc e3
        go_wp2_with fail
        clear hcell hfr c5 hbl
        have hc := Chg.setCell wr g (j * 6) (.int .i64 (j : Int))
        have hg1 := HR.out.2.2.2.2.1
        have hg0 := HRS.out.2.2.2.2.2.1
        have hsz := HR.out.2.2.1.size
        exact ⟨⟨j + 1, by omega, by go_num, hc.blk HR.out.1 hgb2, HR.out.2.1, HR.out.2.2.1.trans (hc.below (by omega) fun k hk => by have hk : k = g := hk; omega), hc.blk HR.out.2.2.2.1 fun e => by omega⟩, by simp [intOf]; omega⟩
      · obtain rfl : j = n := by omega
        have k0 := hbk.cell 0 rfl
        have k1 := hbk.cell 1 rfl
        have k2 := hbk.cell 2 rfl
        have k3 := hbk.cell 3 rfl
        have k4 := hbk.cell 4 rfl
        have k5 := hbk.cell 5 rfl
        have hbl := hbk.lt
        have HR := Lib.hid (And.intro hrow (And.intro hbw hz0)); clear hrow hbw hz0 hbk
        go_wp2_with (refine wpList_store_row rfl 42 (.tmp 6) (.tmp 38) rfl g0 #[.int .i64 0, .int .i64 L, .int .i64 id, .int .i64 epoch, .int .i64 seq, .slice A2 j c2] rfl rfl 42 _ HR.out.2.2 cn.infoBat rfl (by simp [Value.oneCell']) ?_)
        have hz9 := cn.blk_row HR.out.2.2 #[.int .i64 0, .int .i64 L, .int .i64 id, .int .i64 epoch, .int .i64 seq, .slice A2 j c2]
        have hc9 := cn.chg_row wr g0 #[.int .i64 0, .int .i64 L, .int .i64 id, .int .i64 epoch, .int .i64 seq, .slice A2 j c2]
        generalize wr.setRow g0 #[.int .i64 0, .int .i64 L, .int .i64 id, .int .i64 epoch, .int .i64 seq, .slice A2 j c2] = w9 at *
        refine bodyPost_ret (cn.res_cell1 rfl _ _ _ _ _ rfl hz9 Try.underlying42 rfl cn.infoBat) rfl ?_
        have hjl := HNN.out
        have hg0 := HRS.out.2.2.2.2.2.1
        have hsz := HR.out.2.1.size
        have hbw9 : Below w.heap.size w w9 := by rw [← hg0]; exact HR.out.2.1.trans (hc9.below (by omega) fun k hk => by have hk : k = g0 := hk; omega)
        have hown := hc9.own HR.out.1 fun k hk e => by have h1 := (HR.out.1.lt k hk).1; have e : k = g0 := e; omega
        obtain ⟨A3, c3, e3, hjc, hat⟩ := own_at hown
        obtain ⟨rfl, rfl⟩ : A2 = A3 ∧ c2 = c3 := by simp at e3; exact ⟨e3.1, e3.2⟩
        have hcap := own_cap hown
        refine ⟨A2, c2, ?_, ⟨A2, c2, cn.num V j, by rw [cn.numbered_len, ← hjl], by rw [cn.numbered_len, ← hjl]; exact hjc, hcap, ?_, fun i r hr => ?_⟩, hbw9⟩
        · unfold Bat.hval cn.bat
          rw [HLL.out]
          dsimp only
          rw [← hjl]
          have : (if (j : Int) - 1 < 0 then (0 : Int) else (j : Int) - 1) = max ((j : Int) - 1) 0 := by split <;> omega
          rw [this]
        · rw [cn.numbered_len, ← hjl]
          refine hat.congr fun q hq => ?_
          simp only [List.getD]
          rw [cellsOf_get _ _ _ hq]
          rfl
        · have h1 := cn.num_row (by omega) HRS.out.2.2.2.2.2.2.2 i r hr
          rw [← hjl] at h1
          exact h1.below hbw9 (Nat.le_refl _)
end Go.Proofs.Ytahncanmfjmfnaa

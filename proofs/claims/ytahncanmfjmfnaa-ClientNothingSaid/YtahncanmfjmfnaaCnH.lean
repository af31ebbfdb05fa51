/- client: what is under way is done. -/
import Derived.Test.YtahncanmfjmfnaaCnG
namespace Go.Proofs.Ytahncanmfjmfnaa
open Go.RowKit Go.Maps
set_option maxRecDepth 100000

set_option maxHeartbeats 400000 in
theorem cn.again_any (code : Int) (w : World) : Calls Try.prog 31 #[.int .i64 code] w fun e w' => e = .returned (.bool (decide (code = 7 ∨ code = 15 ∨ code = 4))) ∧ w = w' := by
  go_enter Try.func31, Try.ntmps31
  by_cases h1 : code = 7
  · subst h1
    go_wp2_with fail
    go_ret
    exact ⟨rfl, rfl⟩
  by_cases h2 : code = 15
  · subst h2
    go_wp2_with fail
    go_ret
    exact ⟨rfl, rfl⟩
  by_cases h3 : code = 4
  · subst h3
    go_wp2_with fail
    go_ret
    exact ⟨rfl, rfl⟩
  have hd : decide (code = 7 ∨ code = 15 ∨ code = 4) = false := decide_eq_false (by omega)
  rw [hd]
  go_wp2_with fail
  go_ret
  exact ⟨by simp [h1, h2, h3], rfl⟩

theorem cn.row_frozen {w : World} {base g n c : Nat} {xs : List Value} (h : w.ownsRow base 83 14 (.slice (some ⟨g, 0, none⟩) n c) n xs) (j : Nat) : w.frozen? ⟨g, j, none⟩ = false := by
  rcases h.2 with ⟨h1, -⟩ | ⟨g', cap, cur, h1, h3, h4, -⟩
  · cases h1
  · obtain ⟨rfl, rfl⟩ : g = g' ∧ c = cap := by simpa using h1
    exact Blk.frozen (T := 83) (cs := cur) h4 j
def cn.zeros : List Value := (Builtin.zeroCells (Value.agg #[.int .i64 0, .int .i64 0, .string (ByteArray.mk #[]), .string (ByteArray.mk #[]), .int .i64 0, .int .i64 0, .int .i64 0, .int .i64 0, .string (ByteArray.mk #[]), .string (ByteArray.mk #[]), .int .i64 0, .slice none 0 0, .slice none 0 0, .int .i64 0]).cells 1).toList
theorem cn.zeros_is : (Builtin.zeroCells (Value.agg #[.int .i64 0, .int .i64 0, .string (ByteArray.mk #[]), .string (ByteArray.mk #[]), .int .i64 0, .int .i64 0, .int .i64 0, .int .i64 0, .string (ByteArray.mk #[]), .string (ByteArray.mk #[]), .int .i64 0, .slice none 0 0, .slice none 0 0, .int .i64 0]).cells 1).toList = cn.zeros := rfl
theorem cn.zeros_len : cn.zeros.length = 14 := by kernel_rfl
theorem cn.zeros_one : cn.zeros.all (fun v => v.oneCell') = true := by kernel_rfl
theorem cn.clear_run {w : World} {g c : Nat} {xs : List Value} (h : w.ownsRow 0 83 14 (.slice (some ⟨g, 0, none⟩) 1 c) 1 xs) (c' : Nat) (ty : TypeId) :
    (Builtin.clear_ #[75] ty #[.slice (some ⟨g, 0, none⟩) 1 c']).run Try.prog w = .ok (.tuple #[]) (w.setCells g 0 cn.zeros) := by
  have hst := run_storeCells_cells (P := Try.prog) g 0 cn.zeros 0 w (fun j hj => by
    rw [cn.zeros_len] at hj
    have hx := h.1
    have := h.cells (g := g) rfl (0 + j) _ (by rw [List.getElem?_eq_getElem (by omega)])
    rw [add_none, Nat.zero_add] at this
    rw [this]; rfl) (fun j _ => cn.row_frozen h _) (fun v hv => List.all_eq_true.1 cn.zeros_one v hv)
  simp only [Nat.add_zero] at hst
  simp [Builtin.clear_, run_underlying Try.underlying75, cn.zeros_is, hst]
theorem cn.chg_cells (g : Nat) : ∀ (zs : List Value) (o : Nat) (w : World), Chg w (w.setCells g o zs) (fun k => k = g)
  | [], _, w => Chg.refl w _
  | z :: zs, o, w => (Chg.setCell w g o z).trans (cn.chg_cells g zs (o + 1) _) fun _ _ h => h
theorem cn.own_cells {g n c : Nat} : ∀ (zs : List Value) (o : Nat) (w : World) (xs : List Value), w.ownsRow 0 83 14 (.slice (some ⟨g, 0, none⟩) n c) n xs →
    ∃ ys, (w.setCells g o zs).ownsRow 0 83 14 (.slice (some ⟨g, 0, none⟩) n c) n ys
  | [], _, _, xs, h => ⟨xs, h⟩
  | z :: zs, o, _, _, h => cn.own_cells zs (o + 1) _ _ (cn.own_set h o z)
theorem cn.own_none {w : World} {g n c : Nat} {xs : List Value} (h : w.ownsRow 0 83 14 (.slice (some ⟨g, 0, none⟩) n c) n xs) : w.ownsRow 0 83 14 (.slice (some ⟨g, 0, none⟩) 0 c) 0 [] := by
  refine ⟨rfl, ?_⟩
  rcases h.2 with ⟨h1, -⟩ | ⟨g', cap, cur, h1, h3, h4, h5, h6, h7, h8⟩
  · cases h1
  · obtain ⟨rfl, rfl⟩ : g = g' ∧ c = cap := by simpa using h1
    exact .inr ⟨g, c, cur, rfl, h3, h4, Nat.zero_le _, h6, h7, by simp⟩
set_option maxHeartbeats 4000000 in
theorem cn.delete_any (g c : Nat) (xs : List Value) (w : World) (h : w.ownsRow 0 83 14 (.slice (some ⟨g, 0, none⟩) 1 c) 1 xs) :
    Calls Try.prog 32 #[.slice (some ⟨g, 0, none⟩) 1 c, .int .i64 0, .int .i64 1] w fun e w' => e = .returned (.slice (some ⟨g, 0, none⟩) 0 c) ∧ w'.ownsRow 0 83 14 (.slice (some ⟨g, 0, none⟩) 0 c) 0 [] ∧ Chg w w' (fun k => k = g) := by
  obtain ⟨Ah, ch, eh, hc, -⟩ := own_at h
  obtain ⟨rfl, rfl⟩ : Ah = some ⟨g, 0, none⟩ ∧ c = ch := by injection eh with e1 e2 e3; exact ⟨e1.symm, e3⟩
  clear eh
  have hcap := own_cap h
  have HH := Lib.hid h; clear h
  go_enter Try.func32, Try.ntmps32
  go_upto_region 5 with fail
  by_cases hc1 : c = 1
  · subst hc1
    have hS0 : later w (fun k => k = g) w.drew := later_of ((Chg.refl _ _).drew)
    refine wp_plan (S := fun w0 => ∃ x : Later w (fun k => k = g), w0 = x.1) (by kernel_rfl) hS0 ?_
    intro hS' K5 hK5
    have HS := Lib.hid hS'; clear hS' hS0
    refine plan_group [true, true, true, true, true, true] [0, 1, 2, 3, 4, 5] 2 (by dsimp only [sel]) (by rfl) rfl (by kernel_rfl) (by kernel_rfl) HS.out ?_
    (repeat go_big_quiet_step (fail)); refine wpQuiet_nil ?_
    refine plan_one [false, false, false, false, false, false, true] 6 1 (by dsimp only [sel]) (by rfl) rfl (by kernel_rfl) ?_; intro K1 hK1; go_wp2_with fail
    refine ⟨by first | exact HS.out | exact fun _ => HS.out, ?_⟩
    refine plan_group [false, false, false, false, false, false, false, true] [7] 0 (by dsimp only [sel]) (by rfl) rfl (by kernel_rfl) (by kernel_rfl) HS.out ?_
    (repeat go_big_quiet_step (fail)); refine wpQuiet_nil ?_
    refine wp_plan_end (by kernel_rfl) ?_
    have hd : w.drew.ownsRow 0 83 14 (.slice (some ⟨g, 0, none⟩) 1 1) 1 xs := HH.out
    have hz := fun c' ty => cn.clear_run hd c' ty
    obtain ⟨ys, hys⟩ := cn.own_cells cn.zeros 0 _ _ hd
    have HY := Lib.hid (And.intro (cn.own_none hys) (((Chg.refl w (fun k => k = g)).drew).trans (cn.chg_cells g cn.zeros 0 _) fun _ _ q => q)); clear hys hd
    go_wp2_with fail
    go_ret
    exact ⟨rfl, HY.out.1, HY.out.2⟩
  · have hS0 : later w (fun k => k = g) w.drew := later_of ((Chg.refl _ _).drew)
    have hc2 : ¬ c ≤ 1 := by omega
    refine wp_plan (S := fun w0 => ∃ x : Later w (fun k => k = g), w0 = x.1) (by kernel_rfl) hS0 ?_
    intro hS' K5 hK5
    have HS := Lib.hid hS'; clear hS' hS0
    refine plan_group [true, true, true, true, true, true] [0, 1, 2, 3, 4, 5] 2 (by dsimp only [sel]) (by rfl) rfl (by kernel_rfl) (by kernel_rfl) HS.out ?_
    (repeat go_big_quiet_step (fail)); refine wpQuiet_nil ?_
    refine plan_one [false, false, false, false, false, false, true] 6 1 (by dsimp only [sel]) (by rfl) rfl (by kernel_rfl) ?_; intro K1 hK1; go_wp2_with fail
    refine ⟨by first | exact HS.out | exact fun _ => HS.out, ?_⟩
    refine plan_group [false, false, false, false, false, false, false, true] [7] 0 (by dsimp only [sel]) (by rfl) rfl (by kernel_rfl) (by kernel_rfl) HS.out ?_
    (repeat go_big_quiet_step (fail)); refine wpQuiet_nil ?_
    refine wp_plan_end (by kernel_rfl) ?_
    have hd : w.drew.ownsRow 0 83 14 (.slice (some ⟨g, 0, none⟩) 1 c) 1 xs := HH.out
    have hz := fun c' ty => cn.clear_run hd c' ty
    obtain ⟨ys, hys⟩ := cn.own_cells cn.zeros 0 _ _ hd
    have HY := Lib.hid (And.intro (cn.own_none hys) (((Chg.refl w (fun k => k = g)).drew).trans (cn.chg_cells g cn.zeros 0 _) fun _ _ q => q)); clear hys hd
    go_wp2_with fail
    go_ret
    exact ⟨rfl, HY.out.1, HY.out.2⟩
end Go.Proofs.Ytahncanmfjmfnaa

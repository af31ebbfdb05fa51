/- The walk of the law BatchSame. -/
import Derived.Test.YtndingohckcmdaaBsC
import Derived.Test.YtndingohckcmdaaBatW
namespace Go.Proofs.Ytndingohckcmdaa
open Go.RowKit

set_option maxRecDepth 20000 in
set_option maxHeartbeats 4000000 in
theorem bat.lawSame (a b : Bat) (A : Option Addr) (c : Nat) (B : Option Addr) (d : Nat) (w : World) (hv : RecsV w (.slice A a.recs.length c) a.recs) (hu : RecsV w (.slice B b.recs.length d) b.recs) :
    Calls Try.prog 8 #[a.hval A a.recs.length c, b.hval B b.recs.length d] w fun e w' => e = .returned (.bool true) ∧ Below w.heap.size w w' := by
  have HV := Lib.hid hv; clear hv
  have HU := Lib.hid hu; clear hu
  have hwa := fun wx (h : Below w.heap.size w wx) => alike.batch_any a _ wx (HV.out.below h (Nat.le_refl _))
  have hwb := fun wx (h : Below w.heap.size w wx) => alike.batch_any b _ wx (HU.out.below h (Nat.le_refl _))
  have HWA := Lib.hid hwa; clear hwa
  have HWB := Lib.hid hwb; clear hwb
  have h1 := fun wx (h : Below w.heap.size w wx) => bat.same_any a b A c B d wx (HV.out.below h (Nat.le_refl _)) (HU.out.below h (Nat.le_refl _))
  have h2 := fun wx (h : Below w.heap.size w wx) => ref.same_any a b A c B d wx (HV.out.below h (Nat.le_refl _)) (HU.out.below h (Nat.le_refl _))
  have h3 := fun wx (h : Below w.heap.size w wx) => bat.same_any b a B d A c wx (HU.out.below h (Nat.le_refl _)) (HV.out.below h (Nat.le_refl _))
  rw [Bat.same_comm b a] at h3
  unfold Bat.hval at h1 h2 h3
  have H1 := Lib.hid h1; clear h1
  have H2 := Lib.hid h2; clear h2
  have H3 := Lib.hid h3; clear h3
  have hwp := And.intro a.weight_pos (And.intro a.weight_le (And.intro b.weight_pos b.weight_le))
  obtain ⟨WA, hWA⟩ : ∃ x, x = a.weight := ⟨_, rfl⟩
  obtain ⟨WB, hWB⟩ : ∃ x, x = b.weight := ⟨_, rfl⟩
  rw [← hWA] at HWA hwp
  rw [← hWB] at HWB hwp
  clear hWA hWB
  obtain ⟨w1, hw1⟩ : ∃ w1, w1 = (w.alloc (.cells #[.int .i64 a.base, .int .i64 a.last, .int .i64 a.prod, .int .i64 a.epoch, .int .i64 a.seq, .slice A a.recs.length c] 24)).alloc (.cells #[.int .i64 b.base, .int .i64 b.last, .int .i64 b.prod, .int .i64 b.epoch, .int .i64 b.seq, .slice B b.recs.length d] 24) := ⟨_, rfl⟩
  have hka : Blk w1 w.heap.size 24 #[.int .i64 a.base, .int .i64 a.last, .int .i64 a.prod, .int .i64 a.epoch, .int .i64 a.seq, .slice A a.recs.length c] := by rw [hw1]; exact (Chg.alloc _ _ (fun _ => False)).blk (Blk.new w _ _) id
  have hkb : Blk w1 (w.heap.size + 1) 24 #[.int .i64 b.base, .int .i64 b.last, .int .i64 b.prod, .int .i64 b.epoch, .int .i64 b.seq, .slice B b.recs.length d] := by
    rw [hw1]
    have := Blk.new (w.alloc (.cells #[.int .i64 a.base, .int .i64 a.last, .int .i64 a.prod, .int .i64 a.epoch, .int .i64 a.seq, .slice A a.recs.length c] 24)) 24 #[.int .i64 b.base, .int .i64 b.last, .int .i64 b.prod, .int .i64 b.epoch, .int .i64 b.seq, .slice B b.recs.length d]
    rwa [World.size_alloc] at this
  have hb1 : Below w.heap.size w w1 := by rw [hw1]; exact two_boxes _ _
  have HKA := Lib.hid hka; clear hka
  have HKB := Lib.hid hkb; clear hkb
  have HB1 := Lib.hid hb1; clear hb1
  have p0 : ∀ z : Later w1 (fun _ => False), z.1.cell? ⟨w.heap.size, 0, none⟩ = some (.int .i64 a.base) := fun z => (z.2.blk HKA.out id).cell 0 rfl
  have p1 : ∀ z : Later w1 (fun _ => False), z.1.cell? ⟨w.heap.size, 1, none⟩ = some (.int .i64 a.last) := fun z => (z.2.blk HKA.out id).cell 1 rfl
  have p2 : ∀ z : Later w1 (fun _ => False), z.1.cell? ⟨w.heap.size, 2, none⟩ = some (.int .i64 a.prod) := fun z => (z.2.blk HKA.out id).cell 2 rfl
  have p3 : ∀ z : Later w1 (fun _ => False), z.1.cell? ⟨w.heap.size, 3, none⟩ = some (.int .i64 a.epoch) := fun z => (z.2.blk HKA.out id).cell 3 rfl
  have p4 : ∀ z : Later w1 (fun _ => False), z.1.cell? ⟨w.heap.size, 4, none⟩ = some (.int .i64 a.seq) := fun z => (z.2.blk HKA.out id).cell 4 rfl
  have p5 : ∀ z : Later w1 (fun _ => False), z.1.cell? ⟨w.heap.size, 5, none⟩ = some (.slice A a.recs.length c) := fun z => (z.2.blk HKA.out id).cell 5 rfl
  have q0 : ∀ z : Later w1 (fun _ => False), z.1.cell? ⟨w.heap.size + 1, 0, none⟩ = some (.int .i64 b.base) := fun z => (z.2.blk HKB.out id).cell 0 rfl
  have q1 : ∀ z : Later w1 (fun _ => False), z.1.cell? ⟨w.heap.size + 1, 1, none⟩ = some (.int .i64 b.last) := fun z => (z.2.blk HKB.out id).cell 1 rfl
  have q2 : ∀ z : Later w1 (fun _ => False), z.1.cell? ⟨w.heap.size + 1, 2, none⟩ = some (.int .i64 b.prod) := fun z => (z.2.blk HKB.out id).cell 2 rfl
  have q3 : ∀ z : Later w1 (fun _ => False), z.1.cell? ⟨w.heap.size + 1, 3, none⟩ = some (.int .i64 b.epoch) := fun z => (z.2.blk HKB.out id).cell 3 rfl
  have q4 : ∀ z : Later w1 (fun _ => False), z.1.cell? ⟨w.heap.size + 1, 4, none⟩ = some (.int .i64 b.seq) := fun z => (z.2.blk HKB.out id).cell 4 rfl
  have q5 : ∀ z : Later w1 (fun _ => False), z.1.cell? ⟨w.heap.size + 1, 5, none⟩ = some (.slice B b.recs.length d) := fun z => (z.2.blk HKB.out id).cell 5 rfl
  unfold Bat.hval
  go_enter Try.func8, Try.ntmps8
  go_wp2_with fail
  try rw [← hw1]
  clear hw1
  have hS0 : later w1 (fun _ => False) w1.drew := later_of ((Chg.refl _ _).drew)
  have HC0 := Lib.hid ((Chg.refl w1 (fun _ => False)).drew)
  refine wp_plan (S := fun w0 => ∃ x : Later w1 (fun _ => False), w0 = x.1) (by kernel_rfl) hS0 ?_
  intro hS K5 hK5
  have HS := Lib.hid hS; clear hS hS0
  refine plan_group [true, false, true] [0, 2] 5 (by dsimp only [sel]) (by rfl) rfl (by kernel_rfl) (by kernel_rfl) HS.out ?_
  (repeat go_big_quiet_step (fail)); refine wpQuiet_nil ?_
  refine plan_one [false, true] 1 4 (by dsimp only [sel]) (by rfl) rfl (by kernel_rfl) ?_; intro K1 hK1; go_wp2_with fail
  refine (HWA.out _ (HB1.out.trans ((HC0.out.below (Nat.le_refl _) fun _ q => q.elim).mono HB1.out.size))).mono ?_
  rintro e y1 ⟨rfl, hy1⟩
  have HC1 := Lib.hid (HC0.out.trans (chg_of (P := fun _ => False) hy1) fun _ _ q => q); clear hy1
  go_wp2_with fail
  refine ⟨later_of HC1.out, ?_⟩
  refine plan_one [false, false, false, true] 3 3 (by dsimp only [sel]) (by rfl) rfl (by kernel_rfl) ?_; intro K1 hK1; go_wp2_with fail
  refine (HWB.out _ (HB1.out.trans ((HC1.out.below (Nat.le_refl _) fun _ q => q.elim).mono HB1.out.size))).mono ?_
  rintro e y2 ⟨rfl, hy2⟩
  have HC2 := Lib.hid (HC1.out.trans (chg_of (P := fun _ => False) hy2) fun _ _ q => q); clear hy2
  go_wp2_with fail
  refine ⟨later_of HC2.out, ?_⟩
  refine plan_one [false, false, false, false, true] 4 2 (by dsimp only [sel]) (by rfl) rfl (by kernel_rfl) ?_; intro K1 hK1; go_wp2_with fail
  have hc3 : Chg w1 (y2.alloc (.cells #[.int .i64 WB] 3)) (fun _ => False) := HC2.out.trans (Chg.alloc _ _ _) fun _ _ q => q
  obtain ⟨y3, hy3⟩ : ∃ y3, y3 = y2.alloc (.cells #[.int .i64 WB] 3) := ⟨_, rfl⟩
  rw [← hy3] at hc3 ⊢
  have hrow : At y3 (some ⟨y2.heap.size, 0, none⟩) 1 (fun j => .int .i64 (([WB] : List Int).getD j 0)) := by
    rw [hy3]
    exact (At.one y2 _ _).congr fun j hj => by (obtain rfl : j = 0 := by omega); rfl
  clear hy3
  have HROW := Lib.hid hrow; clear hrow
  have HC3 := Lib.hid hc3; clear hc3
  refine ⟨later_of HC3.out, ?_⟩
  refine plan_one [false, false, false, false, false, true] 5 1 (by dsimp only [sel]) (by rfl) rfl (by kernel_rfl) ?_; intro K1 hK1; go_wp2_with fail
  refine (alike.sum_any WA (some ⟨y2.heap.size, 0, none⟩) 1 1 [WB] y3 (by omega) (by omega) (by omega) rfl HROW.out (fun x hx => by simp at hx; omega)).mono ?_
  rintro e wx ⟨rfl, rfl⟩
  have hsum : 0 ≤ alike.sum WA [WB] ∧ alike.sum WA [WB] ≤ 1099511627776 := by unfold alike.sum; simp; omega
  obtain ⟨S, hS⟩ : ∃ S, S = alike.sum WA [WB] := ⟨_, rfl⟩
  rw [← hS] at hsum ⊢
  clear hS
  go_wp2_with fail
  refine ⟨later_of HC3.out, ?_⟩
  have HS := Lib.hid (later_of (p := fun _ => False) HC3.out)
  refine plan_group [false, false, false, false, false, false, true] [6] 0 (by dsimp only [sel]) (by rfl) rfl (by kernel_rfl) (by kernel_rfl) HS.out ?_
  (repeat go_big_quiet_step (fail)); refine wpQuiet_nil ?_
  refine wp_plan_end (by kernel_rfl) ?_
  by_cases h5000 : 5000 < S
  · clear p0 p1 p2 p3 p4 p5 q0 q1 q2 q3 q4 q5
    go_wp2_with fail
    refine (law5.awake _).mono ?_
    rintro e y4 ⟨rfl, hy4⟩
    have hb := (HB1.out.trans ((HC3.out.below (Nat.le_refl _) fun _ q => q.elim).mono HB1.out.size))
    have HB := Lib.hid (hb.trans (hy4.mono hb.size)); clear hy4 hb
    go_wp2
    go_ret
    exact ⟨rfl, HB.out⟩
  · go_wp2_with fail
    have hS0 : later w1 (fun _ => False) y3.drew := later_of (HC3.out.drew)
    have HD0 := Lib.hid (HC3.out.drew)
    refine wp_plan (S := fun w0 => ∃ x : Later w1 (fun _ => False), w0 = x.1) (by kernel_rfl) hS0 ?_
    intro hS K5 hK5
    have HS := Lib.hid hS; clear hS hS0
    refine plan_group [true, true, false, true, true] [0, 1, 3, 4] 16 (by dsimp only [sel]) (by rfl) rfl (by kernel_rfl) (by kernel_rfl) HS.out ?_
    (repeat go_big_quiet_step (fail)); refine wpQuiet_nil ?_
    refine plan_one [false, false, true] 2 15 (by dsimp only [sel]) (by rfl) rfl (by kernel_rfl) ?_; intro K1 hK1; go_wp2_with fail
    refine (H1.out _ (HB1.out.trans ((HD0.out.below (Nat.le_refl _) fun _ q => q.elim).mono HB1.out.size))).mono ?_
    rintro e z1 ⟨rfl, hz1⟩
    have HD1 := Lib.hid (HD0.out.trans (chg_of (P := fun _ => False) hz1) fun _ _ q => q); clear hz1
    go_wp2_with fail
    refine ⟨later_of HD1.out, ?_⟩
    refine plan_one [false, false, false, false, false, true] 5 14 (by dsimp only [sel]) (by rfl) rfl (by kernel_rfl) ?_; intro K1 hK1; go_wp2_with fail
    refine (H2.out _ (HB1.out.trans ((HD1.out.below (Nat.le_refl _) fun _ q => q.elim).mono HB1.out.size))).mono ?_
    rintro e z2 ⟨rfl, hz2⟩
    have HD2 := Lib.hid (HD1.out.trans (chg_of (P := fun _ => False) hz2) fun _ _ q => q); clear hz2
    go_wp2_with fail
    refine ⟨later_of HD2.out, ?_⟩
    have HS2 := Lib.hid (later_of (p := fun _ => False) HD2.out)
    refine plan_group [false, false, false, false, false, false, true, true, true, true, false, true, true] [6, 7, 8, 9, 11, 12] 8 (by dsimp only [sel]) (by rfl) rfl (by kernel_rfl) (by kernel_rfl) HS2.out ?_
    (repeat go_big_quiet_step (fail)); refine wpQuiet_nil ?_
    refine plan_one [false, false, false, false, false, false, false, false, false, false, true] 10 7 (by dsimp only [sel]) (by rfl) rfl (by kernel_rfl) ?_; intro K1 hK1; go_wp2_with fail
    refine (H3.out _ (HB1.out.trans ((HD2.out.below (Nat.le_refl _) fun _ q => q.elim).mono HB1.out.size))).mono ?_
    rintro e z3 ⟨rfl, hz3⟩
    have HD3 := Lib.hid (HD2.out.trans (chg_of (P := fun _ => False) hz3) fun _ _ q => q); clear hz3
    go_wp2_with fail
    refine ⟨later_of HD3.out, ?_⟩
    refine plan_one [false, false, false, false, false, false, false, false, false, false, false, false, false, true] 13 6 (by dsimp only [sel]) (by rfl) rfl (by kernel_rfl) ?_; intro K1 hK1; go_wp2_with fail
    refine (H1.out _ (HB1.out.trans ((HD3.out.below (Nat.le_refl _) fun _ q => q.elim).mono HB1.out.size))).mono ?_
    rintro e z4 ⟨rfl, hz4⟩
    have HD4 := Lib.hid (HD3.out.trans (chg_of (P := fun _ => False) hz4) fun _ _ q => q); clear hz4
    go_wp2_with fail
    refine ⟨later_of HD4.out, ?_⟩
    have HS4 := Lib.hid (later_of (p := fun _ => False) HD4.out)
    refine plan_group [false, false, false, false, false, false, false, false, false, false, false, false, false, false, true, true, true] [14, 15, 16] 3 (by dsimp only [sel]) (by rfl) rfl (by kernel_rfl) (by kernel_rfl) HS4.out ?_
    (repeat go_big_quiet_step (fail)); refine wpQuiet_nil ?_
    refine plan_one [false, false, false, false, false, false, false, false, false, false, false, false, false, false, false, false, false, true] 17 2 (by dsimp only [sel]) (by rfl) rfl (by kernel_rfl) ?_; intro K1 hK1; go_wp2_with fail
    refine (law5.awake _).mono ?_
    rintro e z5 ⟨rfl, hz5⟩
    have HD5 := Lib.hid (HD4.out.trans (chg_of (P := fun _ => False) hz5) fun _ _ q => q); clear hz5
    go_wp2_with fail
    refine ⟨later_of HD5.out, ?_⟩
    have HS5 := Lib.hid (later_of (p := fun _ => False) HD5.out)
    refine plan_group [false, false, false, false, false, false, false, false, false, false, false, false, false, false, false, false, false, false, true, true] [18, 19] 0 (by dsimp only [sel]) (by rfl) rfl (by kernel_rfl) (by kernel_rfl) HS5.out ?_
    (repeat go_big_quiet_step (fail)); refine wpQuiet_nil ?_
    refine wp_plan_end (by kernel_rfl) ?_
    go_wp2
    go_ret
    refine ⟨?_, (HB1.out.trans ((HD5.out.below (Nat.le_refl _) fun _ q => q.elim).mono HB1.out.size))⟩
    first | rfl | (simp; done)
end Go.Proofs.Ytndingohckcmdaa

/- commits: Same of two tables that say the same (chapter 18). -/
import Derived.BigQuiet
import Derived.Test.YtkkpbnhagobhmaaCmV
namespace Go.Proofs.Ytkkpbnhagobhmaa
open Go.RowKit Go.Maps
set_option maxRecDepth 100000
theorem CTab.goff_int (T : CTab) : ∀ x c, T.goff x = some c → ∃ z : Int, c = .int .i64 z := fun x c h => by
  unfold CTab.goff at h
  cases e : T.off x with
  | none => rw [e] at h; cases h
  | some z => rw [e] at h; exact ⟨z, (Option.some.inj h).symm⟩
theorem CTab.gflo_int (T : CTab) : ∀ x c, T.gflo x = some c → ∃ z : Int, c = .int .i64 z := fun x c h => by
  unfold CTab.gflo at h
  split at h
  · exact ⟨_, (Option.some.inj h).symm⟩
  · cases h
set_option maxHeartbeats 2000000 in
theorem cm.same_any (p1 o1 f1 n1 p2 o2 f2 n2 : Nat) (T : CTab) (w : World) (h1 : TabAt w p1 o1 f1 T n1) (h2 : TabAt w p2 o2 f2 T n2) :
    Calls Try.prog 28 #[.pointer (some ⟨p1, 0, none⟩), .pointer (some ⟨p2, 0, none⟩)] w fun e w' => e = .returned (.bool true) ∧ Below w.heap.size w w' := by
  obtain ⟨No, Nf, a1, a2, a3, -⟩ := h1
  obtain ⟨Mo, Mf, b1, b2, b3, -⟩ := h2
  obtain rfl : No = Mo := a2.count b2 fun _ _ => rfl
  obtain rfl : Nf = Mf := a3.count b3 fun _ _ => rfl
  have z0 : ∀ y : Later w (fun _ => False), y.1.cell? ⟨p1, 0, none⟩ = some (.map (some o1)) := fun y => (y.2.blk a1 fun q => q).cell 0 rfl
  have z1 : ∀ y : Later w (fun _ => False), y.1.cell? ⟨p1, 1, none⟩ = some (.map (some f1)) := fun y => (y.2.blk a1 fun q => q).cell 1 rfl
  have z2 : ∀ y : Later w (fun _ => False), y.1.cell? ⟨p2, 0, none⟩ = some (.map (some o2)) := fun y => (y.2.blk b1 fun q => q).cell 0 rfl
  have z3 : ∀ y : Later w (fun _ => False), y.1.cell? ⟨p2, 1, none⟩ = some (.map (some f2)) := fun y => (y.2.blk b1 fun q => q).cell 1 rfl
  have hq1 := fun wx => mq.equal_place o1 o2 No T.goff wx
  have hq2 := fun wx => mq.equal_str f1 f2 Nf T.gflo wx
  have H := Lib.hid (And.intro a2 (And.intro a3 (And.intro b2 (And.intro b3 (And.intro hq1 hq2))))); clear a1 a2 a3 b1 b2 b3 hq1 hq2
  go_enter Try.func28, Try.ntmps28
  go_upto_region 3 with fail
  have hS0 : later w (fun _ => False) w.drew := later_of ((Chg.refl _ _).drew)
  refine wp_plan (S := fun w0 => ∃ y : Later w (fun _ => False), w0 = y.1) (by kernel_rfl) hS0 ?_
  intro hS' K5 hK5
  have HS := Lib.hid hS'; clear hS' hS0
  refine plan_group [true, true, true, true, true, true, true, true] [0, 1, 2, 3, 4, 5, 6, 7] 13 (by dsimp only [sel]) (by rfl) rfl (by kernel_rfl) (by kernel_rfl) HS.out ?_
  (repeat go_big_quiet_step (fail)); refine wpQuiet_nil ?_
  refine plan_one [false, false, false, false, false, false, false, false, true] 8 12 (by dsimp only [sel]) (by rfl) rfl (by kernel_rfl) ?_; intro K1 hK1
  have hdr : Chg w w.drew (fun _ => False) := (Chg.refl w _).drew
  go_wp2_with (refine (H.out.2.2.2.2.1 w.drew (H.out.1.chg hdr fun q => q) (H.out.2.2.1.chg hdr fun q => q) T.goff_int).mono ?_; rintro en w2 ⟨rfl, h3⟩; have C2 := Lib.hid (show Chg w w2 (fun _ => False) from hdr.trans (chg_of (P := fun _ => False) h3) fun _ _ q => q); clear h3)
  refine ⟨by first | exact later_of C2.out | exact fun _ => later_of C2.out, ?_⟩
  refine plan_group [false, false, false, false, false, false, false, false, false, true, true, true, true, true, true, true, true, true] [9, 10, 11, 12, 13, 14, 15, 16, 17] 3 (by dsimp only [sel]) (by rfl) rfl (by kernel_rfl) (by kernel_rfl) (later_of C2.out) ?_
  (repeat go_big_quiet_step (fail)); refine wpQuiet_nil ?_
  clear z0 z1 z2 z3
  refine plan_one [false, false, false, false, false, false, false, false, false, false, false, false, false, false, false, false, false, false, true] 18 2 (by dsimp only [sel]) (by rfl) rfl (by kernel_rfl) ?_; intro K2 hK2
  go_wp2_with (refine (H.out.2.2.2.2.2 w2 (H.out.2.1.chg C2.out fun q => q) (H.out.2.2.2.1.chg C2.out fun q => q) T.gflo_int).mono ?_; rintro en w3 ⟨rfl, h3⟩; have C3 := Lib.hid (show Chg w w3 (fun _ => False) from C2.out.trans (chg_of (P := fun _ => False) h3) fun _ _ q => q); clear h3)
  refine ⟨by first | exact later_of C3.out | exact fun _ => later_of C3.out, ?_⟩
  refine plan_group [false, false, false, false, false, false, false, false, false, false, false, false, false, false, false, false, false, false, false, true, true] [19, 20] 0 (by dsimp only [sel]) (by rfl) rfl (by kernel_rfl) (by kernel_rfl) (later_of C3.out) ?_
  (repeat go_big_quiet_step (fail)); refine wpQuiet_nil ?_
  refine wp_plan_end (by kernel_rfl) ?_
  refine hK5 _ _ ?_
  clear HS hdr
  go_wp2
  go_ret
  exact ⟨rfl, C3.out.below (Nat.le_refl _) fun _ q => q.elim⟩
end Go.Proofs.Ytkkpbnhagobhmaa

/- The law package's same (cordwainlaw14), of the same; a piece of segments. -/
import Derived.Test.YtnlfdhoabbbheaaClP
import Derived.Test.YtnlfdhoabbbheaaSbT
namespace Go.Proofs.Ytnlfdhoabbbheaa
open Go.RowKit Go.Maps
set_option maxRecDepth 100000

theorem cl.SegsAt.take {w : World} {A : Option Addr} {ss : List (List Bat)} (h : cl.SegsAt w A ss) (k : Nat) : cl.SegsAt w A (ss.take k) := by
  obtain ⟨V, h1, h2⟩ := h
  refine ⟨V, fun hk => ?_, fun i bs hi => h2 i bs ?_⟩
  · rw [List.length_take] at hk
    obtain ⟨b, off, e1, e2, e3⟩ := h1 (by omega)
    refine ⟨b, off, e1, e2, fun j hj => e3 j ?_⟩
    rw [List.length_take] at hj
    omega
  · rw [List.getElem?_take] at hi
    split at hi
    · exact hi
    · cases hi
set_option maxHeartbeats 2000000 in
theorem law14.same_true (A : Option Addr) (n c : Nat) (B : Option Addr) (d : Nat) (ss : List (List Bat)) (w : World) (hn : ss.length = n) (hn1 : n ≤ 1000) (hl : ∀ bs ∈ ss, bs.length ≤ 1000000) (ha : cl.SegsAt w A ss) (hb : cl.SegsAt w B ss) :
    Calls Try.prog 12 #[.slice A n c, .slice B n d] w fun e w' => e = .returned (.bool true) ∧ Below w.heap.size w w' := by
  have HA := Lib.hid ha; clear ha
  have HB := Lib.hid hb; clear hb
  have HN := Lib.hid hn; clear hn
  have HL := Lib.hid hl; clear hl
  go_enter Try.func12, Try.ntmps12
  go_wp2_with fail
  go_loopw [5] (fun s5 wx => ∃ k : Nat, s5 = .int .i64 (k : Int) ∧ k ≤ n ∧ Below w.heap.size w wx) (fun s5 _ => n - (intOf s5).toNat)
  case atStart => exact ⟨0, rfl, by omega, Below.refl _ _⟩
  case round =>
    obtain ⟨k, rfl, hk, hbw⟩ := hrel
    have HBW := Lib.hid hbw; clear hbw
    by_cases hlt : k < n
    · have hlt' : (k : Int) < (n : Int) := by omega
      obtain ⟨x, hx⟩ : ∃ x, ss[k]? = some x := ⟨_, List.getElem?_eq_getElem (by rw [HN.out]; exact hlt)⟩
      obtain ⟨p, po, D, cD, hA, hp, d0, -, -, hax⟩ := (HA.out.below HBW.out (Nat.le_refl _)).at' hx
      obtain ⟨q, qo, E, cE, hB, hq, e0, -, -, hbx⟩ := (HB.out.below HBW.out (Nat.le_refl _)).at' hx
      subst hA hB
      have hcall := fun wx (h : Below wr.heap.size wr wx) => sb.true_any D x.length cD E cE x wx rfl (HL.out x (List.mem_of_getElem? hx)) (hax.below h (Nat.le_refl _)) (hbx.below h (Nat.le_refl _))
      have HC := Lib.hid hcall; clear hcall hax hbx hx
      generalize x.length = m at *
      have dl : ∀ z : Later wr (fun _ => False), z.1.cell? ⟨p, po + k, none⟩ = some (.slice D m cD) := fun z => ((z.2.below (Nat.le_refl _) fun _ q => q.elim).cell hp).trans d0
      have el : ∀ z : Later wr (fun _ => False), z.1.cell? ⟨q, qo + k, none⟩ = some (.slice E m cE) := fun z => ((z.2.below (Nat.le_refl _) fun _ q => q.elim).cell hq).trans e0
      go_wp2_with fail
      have hS0 : later wr (fun _ => False) wr.drew := later_of ((Chg.refl _ _).drew)
      refine wp_plan (S := fun w0 => ∃ x : Later wr (fun _ => False), w0 = x.1) (by kernel_rfl) hS0 ?_
      intro hS K5 hK5
      have HS := Lib.hid hS; clear hS hS0
      refine plan_group [true, true, true, true, true, true, true] [0, 1, 2, 3, 4, 5, 6] 3 (by dsimp only [sel]) (by rfl) rfl (by kernel_rfl) (by kernel_rfl) HS.out ?_
      (repeat go_big_quiet_step (fail)); refine wpQuiet_nil ?_
      refine plan_one [false, false, false, false, false, false, false, true] 7 2 (by dsimp only [sel]) (by rfl) rfl (by kernel_rfl) ?_; intro K1 hK1; go_wp2_with fail
      refine ⟨later_of ((Chg.refl _ _).drew), ?_⟩
      refine plan_one [false, false, false, false, false, false, false, false, true] 8 1 (by dsimp only [sel]) (by rfl) rfl (by kernel_rfl) ?_; intro K1 hK1; go_wp2_with fail
      refine (HC.out _ (bdrew (Below.refl _ wr) 1)).mono ?_
      rintro e wb ⟨rfl, hbb⟩
      go_wp2_with fail
      have HS2 := Lib.hid (later_of (((Chg.refl wr (fun _ => False)).drew).trans (chg_of (P := fun _ => False) hbb) fun _ _ q => q))
      refine ⟨HS2.out, ?_⟩
      refine plan_group [false, false, false, false, false, false, false, false, false, true] [9] 0 (by dsimp only [sel]) (by rfl) rfl (by kernel_rfl) (by kernel_rfl) HS2.out ?_
      (repeat go_big_quiet_step (fail)); refine wpQuiet_nil ?_
      refine wp_plan_end (by kernel_rfl) ?_
      have HB2 := Lib.hid (HBW.out.trans (((bdrew (Below.refl _ wr) 1).trans (hbb.mono (Nat.le_refl _))).mono HBW.out.size)); clear hbb
      go_wp2_with fail
      go_roundw
      case rel => exact ⟨k + 1, by go_num, by omega, HB2.out⟩
      case measure => simp [intOf]; omega
    · obtain rfl : k = n := by omega
      go_wp2_with fail
      go_ret
      exact ⟨rfl, HBW.out⟩
end Go.Proofs.Ytnlfdhoabbbheaa

/- SameBatches (cordwainref1) of the same batches. -/
import Derived.BigQuiet
import Derived.Deep.QuietTactic
import Derived.Deep.Cut
import Derived.Test.YtnlfdhoabbbheaaSmR
namespace Go.Proofs.Ytnlfdhoabbbheaa
open Go.RowKit Go.Maps
set_option maxRecDepth 100000

/-- The worlds in which all that stands in w stands still. -/
def Stand (w : World) : Type := { wx : World // Below w.heap.size w wx }
instance Stand.nonempty (w : World) : Nonempty (Stand w) := ⟨⟨w, Below.refl _ _⟩⟩
theorem stand_of {w w' : World} (h : Below w.heap.size w w') : ∃ x : Stand w, w' = x.1 := ⟨⟨w', h⟩, rfl⟩

theorem sb.self : ∀ rs : List Rec, recsSame rs rs = true
  | [] => rfl
  | r :: rs => by
    unfold recsSame
    rw [sb.self rs, decide_eq_true (show r.Same r from ⟨rfl, rfl, rfl, rfl, rfl, rfl⟩)]
    rfl
theorem Bat.same_self (b : Bat) : b.same b = true := by
  unfold Bat.same
  rw [sb.self, decide_eq_true (show b.heads b from ⟨rfl, rfl, rfl, rfl, rfl⟩)]
  rfl
set_option maxHeartbeats 4000000 in
/-- SameBatches of the same. -/
theorem sb.true_any (A : Option Addr) (n c : Nat) (B : Option Addr) (d : Nat) (bs : List Bat) (w : World) (hn : bs.length = n) (hn1 : n ≤ 1000000) (ha : BatsAt w A bs) (hb : BatsAt w B bs) :
    Calls Try.prog 21 #[.slice A n c, .slice B n d] w fun e w' => e = .returned (.bool true) ∧ Below w.heap.size w w' := by
  have HA := Lib.hid ha; clear ha
  have HB := Lib.hid hb; clear hb
  have HN := Lib.hid hn; clear hn
  go_enter Try.func21, Try.ntmps21
  go_wp2_with fail
  go_loopw [5] (fun s5 wx => ∃ k : Nat, s5 = .int .i64 (k : Int) ∧ k ≤ n ∧ Below w.heap.size w wx) (fun s5 _ => n - (intOf s5).toNat)
  case atStart => exact ⟨0, rfl, by omega, Below.refl _ _⟩
  case round =>
    obtain ⟨k, rfl, hk, hbw⟩ := hrel
    have HBW := Lib.hid hbw; clear hbw
    by_cases hlt : k < n
    · have hlt' : (k : Int) < n := by omega
      obtain ⟨x, hx⟩ : ∃ x, bs[k]? = some x := ⟨_, List.getElem?_eq_getElem (by rw [HN.out]; exact hlt)⟩
      obtain ⟨p, po, v1, hA1, hp, d0, d1, d2, d3, d4, d5, hv1, -⟩ := HA.out.at' hx
      obtain ⟨q, qo, v2, hA2, hq, e0, e1, e2, e3, e4, e5, hv2, -⟩ := HB.out.at' hx
      subst hA1 hA2
      obtain ⟨A1, c1, V1, rfl, -⟩ := id hv1
      obtain ⟨A2, c2, V2, rfl, -⟩ := id hv2
      have hsame := fun wx (h : Below w.heap.size w wx) => ref.same_any x x A1 c1 A2 c2 wx (hv1.below h (Nat.le_refl _)) (hv2.below h (Nat.le_refl _))
      rw [Bat.same_self] at hsame
      unfold Bat.sval at hsame
      obtain ⟨m, hm⟩ : ∃ m, m = x.recs.length := ⟨_, rfl⟩
      rw [← hm] at hsame d5 e5
      have HSAME := Lib.hid hsame; clear hsame hv1 hv2 hm hx
      have hst : ∀ y : Stand w, Below w.heap.size w y.1 := fun y => y.2
      have f0 : ∀ y : Stand w, y.1.cell? ⟨p, po + k * 6, none⟩ = some (.int .i64 x.base) := fun y => (y.2.cell (p := ⟨p, po + k * 6, none⟩) hp).trans d0
      have f1 : ∀ y : Stand w, y.1.cell? ⟨p, po + k * 6 + 1, none⟩ = some (.int .i64 x.last) := fun y => (y.2.cell (p := ⟨p, po + k * 6 + 1, none⟩) hp).trans d1
      have f2 : ∀ y : Stand w, y.1.cell? ⟨p, po + k * 6 + 2, none⟩ = some (.int .i64 x.prod) := fun y => (y.2.cell (p := ⟨p, po + k * 6 + 2, none⟩) hp).trans d2
      have f3 : ∀ y : Stand w, y.1.cell? ⟨p, po + k * 6 + 3, none⟩ = some (.int .i64 x.epoch) := fun y => (y.2.cell (p := ⟨p, po + k * 6 + 3, none⟩) hp).trans d3
      have f4 : ∀ y : Stand w, y.1.cell? ⟨p, po + k * 6 + 4, none⟩ = some (.int .i64 x.seq) := fun y => (y.2.cell (p := ⟨p, po + k * 6 + 4, none⟩) hp).trans d4
      have f5 : ∀ y : Stand w, y.1.cell? ⟨p, po + k * 6 + 5, none⟩ = some (.slice A1 m c1) := fun y => (y.2.cell (p := ⟨p, po + k * 6 + 5, none⟩) hp).trans d5
      have g0 := (HBW.out.cell (p := ⟨q, qo + k * 6, none⟩) hq).trans e0
      have g1 := (HBW.out.cell (p := ⟨q, qo + k * 6 + 1, none⟩) hq).trans e1
      have g2 := (HBW.out.cell (p := ⟨q, qo + k * 6 + 2, none⟩) hq).trans e2
      have g3 := (HBW.out.cell (p := ⟨q, qo + k * 6 + 3, none⟩) hq).trans e3
      have g4 := (HBW.out.cell (p := ⟨q, qo + k * 6 + 4, none⟩) hq).trans e4
      have g5 := (HBW.out.cell (p := ⟨q, qo + k * 6 + 5, none⟩) hq).trans e5
      have h0 : wr.drew.cell? ⟨q, qo + k * 6, none⟩ = some (.int .i64 x.base) := g0
      have h1 : wr.drew.cell? ⟨q, qo + k * 6 + 1, none⟩ = some (.int .i64 x.last) := g1
      have h2 : wr.drew.cell? ⟨q, qo + k * 6 + 2, none⟩ = some (.int .i64 x.prod) := g2
      have h3 : wr.drew.cell? ⟨q, qo + k * 6 + 3, none⟩ = some (.int .i64 x.epoch) := g3
      have h4 : wr.drew.cell? ⟨q, qo + k * 6 + 4, none⟩ = some (.int .i64 x.seq) := g4
      have h5 : wr.drew.cell? ⟨q, qo + k * 6 + 5, none⟩ = some (.slice A2 m c2) := g5
      clear d0 d1 d2 d3 d4 d5 e0 e1 e2 e3 e4 e5 hst
      go_upto_region 6 with fail
      have hS0 : ∃ y : Stand w, wr.drew = y.1 := stand_of (bdrew HBW.out 1)
      refine wp_plan (S := fun w0 => ∃ y : Stand w, w0 = y.1) (by kernel_rfl) hS0 ?_
      intro hS K5 hK5
      have HS := Lib.hid hS; clear hS hS0
      refine plan_group [true, true, true, true, true, true, true] [0, 1, 2, 3, 4, 5, 6] 3 (by dsimp only [sel]) (by rfl) rfl (by kernel_rfl) (by kernel_rfl) HS.out ?_
      (repeat go_big_quiet_step (fail)); refine wpQuiet_nil ?_
      clear f0 f1 f2 f3 f4 f5
      refine plan_one [false, false, false, false, false, false, false, true] 7 2 (by dsimp only [sel]) (by rfl) rfl (by kernel_rfl) ?_; intro K1 hK1; go_wp2_with fail
      refine ⟨HS.out, ?_⟩
      clear g0 g1 g2 g3 g4 g5 h0 h1 h2 h3 h4 h5
      refine plan_one [false, false, false, false, false, false, false, false, true] 8 1 (by dsimp only [sel]) (by rfl) rfl (by kernel_rfl) ?_; intro K1 hK1; go_wp2_with fail
      refine (HSAME.out _ (bdrew HBW.out 1)).mono ?_
      rintro e w5 ⟨rfl, hb5⟩
      have HB5 := Lib.hid ((bdrew HBW.out 1).trans (hb5.mono (bdrew HBW.out 1).size)); clear hb5
      go_wp2_with fail
      refine ⟨stand_of HB5.out, ?_⟩
      refine plan_group [false, false, false, false, false, false, false, false, false, true] [9] 0 (by dsimp only [sel]) (by rfl) rfl (by kernel_rfl) (by kernel_rfl) (stand_of HB5.out) ?_
      (repeat go_big_quiet_step (fail)); refine wpQuiet_nil ?_
      refine wp_plan_end (by kernel_rfl) ?_
      go_wp2_with fail
      go_roundw
      case rel => exact ⟨k + 1, by go_num, by omega, HB5.out⟩
      case measure => simp [intOf]; omega
    · obtain rfl : k = n := by omega
      go_wp2_with fail
      go_ret
      exact ⟨rfl, HBW.out⟩

end Go.Proofs.Ytnlfdhoabbbheaa

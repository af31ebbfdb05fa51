/- The law package's small (cordwainlaw4): few steps, of few bytes. -/
import Derived.Test.YthffkbcjidbdaaaDsA
import Derived.Test.YthffkbcjidbdaaaRfX
import Derived.Test.YthffkbcjidbdaaaAlikeB
namespace Go.Proofs.Ythffkbcjidbdaaa
open Go.RowKit
set_option maxRecDepth 100000

def DStep.weight (x : DStep) : Nat := x.a.size + x.to.size + x.b.length + 1
def ds.sum (xs : List DStep) (k : Nat) : Nat := ((xs.take k).map DStep.weight).sum
theorem ds.sum_succ (xs : List DStep) (k : Nat) (hk : k < xs.length) : ds.sum xs (k + 1) = ds.sum xs k + (xs[k]).weight := by
  unfold ds.sum
  rw [List.take_succ_eq_append_getElem hk, List.map_append, List.sum_append]
  simp
theorem ds.sum_mono (xs : List DStep) {j k : Nat} (h : j ≤ k) : ds.sum xs j ≤ ds.sum xs k := by
  unfold ds.sum
  have e : xs.take k = (xs.take k).take j ++ (xs.take k).drop j := (List.take_append_drop j _).symm
  rw [List.take_take, Nat.min_eq_left h] at e
  rw [e, List.map_append, List.sum_append]
  omega
theorem at_four4 (w : World) (a b c d : Int) (t : TypeId) : At (w.alloc (.cells #[.int .i64 a, .int .i64 b, .int .i64 c, .int .i64 d] t)) (some ⟨w.heap.size, 0, none⟩) 4 (fun j => .int .i64 ([a, b, c, d].getD j 0)) :=
  (At.new w #[.int .i64 a, .int .i64 b, .int .i64 c, .int .i64 d] t (fr := (0, 0)) (n := 4) rfl).congr fun j hj => by
    have hj' : j = 0 ∨ j = 1 ∨ j = 2 ∨ j = 3 := by omega
    rcases hj' with rfl | rfl | rfl | rfl <;> rfl
def ds.small (xs : List DStep) (n : Nat) : Bool := decide (ds.sum xs n ≤ 1000 ∧ n ≤ 80)
set_option maxHeartbeats 4000000 in
theorem law4.small_any (A : Option Addr) (n c : Nat) (xs : List DStep) (w : World) (hx : xs.length = n ∧ n ≤ c ∧ c ≤ maxLen) (hat : DSteps w A xs) :
    Calls Try.prog 10 #[.slice A n c] w fun e w' => e = .returned (.bool (ds.small xs n)) ∧ Below w.heap.size w w' := by
  obtain ⟨hx1, hx2, hx3⟩ := hx
  unfold maxLen at hx3
  have HAX := Lib.hid (And.intro hat hx1); clear hat hx1
  go_enter Try.func10, Try.ntmps10
  go_wp2_with fail
  go_loopw [3, 4] (fun x i wr => ∃ (k : Nat) (t : Int), k ≤ n ∧ i = .int .i64 (k : Int) ∧ x = .int .i64 t ∧ 0 ≤ t ∧ t ≤ 1099511627776 ∧ (t ≤ 1000 → t = ds.sum xs k) ∧ (1000 < t → 1000 < ds.sum xs k) ∧ Below w.heap.size w wr) (fun _ i _ => n - (intOf i).toNat)
  case atStart => exact ⟨0, 0, by omega, rfl, rfl, by omega, by omega, fun _ => rfl, fun h => absurd h (by omega), Below.refl _ _⟩
  case round =>
    obtain ⟨k, t, hk, rfl, rfl, ht0, ht1, ht, htb, hb⟩ := hrel
    have HT := Lib.hid (And.intro ht htb); clear ht htb
    have HB := Lib.hid hb; clear hb
    by_cases hgo : k < n ∧ t ≤ 1000
    · obtain ⟨hlt, ht2⟩ := hgo
      have hlt' : (k : Int) < (n : Int) := by omega
      have hkx : k < xs.length := by rw [HAX.out.2]; exact hlt
      obtain ⟨b, off, rfl, hbb, X, cx, -, c1, c2, c3, -, -, hbl, -, hsa, hst, -, -⟩ := (HAX.out.1.below HB.out (Nat.le_refl _)).at' k hkx
      have hwt : (xs[k]).weight = (xs[k]).a.size + (xs[k]).to.size + (xs[k]).b.length + 1 := rfl
      have hsucc := ds.sum_succ xs k hkx
      rw [hwt] at hsucc
      clear hwt
      generalize (xs[k]).a = sa at *
      generalize (xs[k]).to = st at *
      obtain ⟨m, hm⟩ : ∃ m, m = (xs[k]).b.length := ⟨_, rfl⟩
      rw [← hm] at c3 hbl hsucc
      clear hm
      unfold maxLen at hbl hsa hst
      have HSU := Lib.hid hsucc; clear hsucc
      have p1 : ∀ x : Later wr (fun _ => False), x.1.cell? ⟨b, off + k * 5 + 1, none⟩ = some (.string sa) := fun x => x.2.cellF c1 hbb
      have p2 : ∀ x : Later wr (fun _ => False), x.1.cell? ⟨b, off + k * 5 + 2, none⟩ = some (.string st) := fun x => x.2.cellF c2 hbb
      have p3 : ∀ x : Later wr (fun _ => False), x.1.cell? ⟨b, off + k * 5 + 3, none⟩ = some (.slice X m cx) := fun x => x.2.cellF c3 hbb
      have d3 : wr.drew.cell? ⟨b, off + k * 5 + 3, none⟩ = some (.slice X m cx) := c3
      go_upto_region 5 with fail
      have hS0 : later wr (fun _ => False) wr.drew := later_of ((Chg.refl _ _).drew)
      refine wp_plan (S := fun w0 => ∃ x : Later wr (fun _ => False), w0 = x.1) (by kernel_rfl) hS0 ?_
      intro hS' K5 hK5
      have HS := Lib.hid hS'; clear hS' hS0
      refine plan_group [true, true, true, true, true, true, true, true, true, true, true, true, true, true, true, true, true] [0, 1, 2, 3, 4, 5, 6, 7, 8, 9, 10, 11, 12, 13, 14, 15, 16] 5 (by dsimp only [sel]) (by rfl) rfl (by kernel_rfl) (by kernel_rfl) HS.out ?_
      (repeat go_big_quiet_step (fail)); refine wpQuiet_nil ?_
      refine plan_one [false, false, false, false, false, false, false, false, false, false, false, false, false, false, false, false, false, true] 17 4 (by dsimp only [sel]) (by rfl) rfl (by kernel_rfl) ?_; intro K1 hK1; go_wp2_with fail
      refine ⟨HS.out, ?_⟩
      refine plan_group [false, false, false, false, false, false, false, false, false, false, false, false, false, false, false, false, false, false, true] [18] 3 (by dsimp only [sel]) (by rfl) rfl (by kernel_rfl) (by kernel_rfl) HS.out ?_
      (repeat go_big_quiet_step (fail)); refine wpQuiet_nil ?_
      refine plan_one [false, false, false, false, false, false, false, false, false, false, false, false, false, false, false, false, false, false, false, true] 19 2 (by dsimp only [sel]) (by rfl) rfl (by kernel_rfl) ?_; intro K1 hK1; go_wp2_with fail
      refine ⟨later_of (Chg.alloc _ _ _).drew, ?_⟩
      refine plan_one [false, false, false, false, false, false, false, false, false, false, false, false, false, false, false, false, false, false, false, false, true] 20 1 (by dsimp only [sel]) (by rfl) rfl (by kernel_rfl) ?_; intro K1 hK1; go_wp2_with fail
      refine (alike.sum_any t _ 4 4 [(sa.size : Int), (st.size : Int), (m : Int), 1] _ ht0 ht1 (by omega) rfl ((at_four4 wr _ _ _ _ _).below (bdrew (Below.refl _ _) 1) (Nat.le_refl _)) (fun x hx => by simp at hx; omega)).mono ?_
      rintro a w' ⟨rfl, rfl⟩
      have hsm : alike.sum t [(sa.size : Int), (st.size : Int), (m : Int), 1] = min (t + sa.size + st.size + m + 1) 1099511627776 := by unfold alike.sum; simp; omega
      rw [hsm]
      clear hsm
      go_wp2_with fail
      refine ⟨later_of (Chg.alloc _ _ _).drew, ?_⟩
      refine plan_group [false, false, false, false, false, false, false, false, false, false, false, false, false, false, false, false, false, false, false, false, false, true] [21] 0 (by dsimp only [sel]) (by rfl) rfl (by kernel_rfl) (by kernel_rfl) (later_of (Chg.alloc _ _ _).drew) ?_
      (repeat go_big_quiet_step (fail)); refine wpQuiet_nil ?_
      refine wp_plan_end (by kernel_rfl) ?_
      go_wp2_with fail
      go_roundw
      case rel =>
        refine ⟨k + 1, min (t + sa.size + st.size + m + 1) 1099511627776, by omega, by go_num, rfl, by omega, by omega, fun h => ?_, fun h => ?_, bdrew (HB.out.alloc HB.out.size _) 1⟩
        · have h1 := HT.out.1 (by omega)
          have h2 := HSU.out
          omega
        · have h1 := HT.out.1 (by omega)
          have h2 := HSU.out
          omega
      case measure => simp [intOf]; omega
    · by_cases hbig : 1000 < t
      · clear hgo
        have hnb : ¬ t ≤ 1000 := by omega
        have hno : ds.small xs n = false := decide_eq_false fun h => by
          have h1 := HT.out.2 hbig
          have h2 := ds.sum_mono xs hk
          omega
        have HNO := Lib.hid hno; clear hno
        go_wp2_with fail
        all_goals
          go_ret
          exact ⟨by rw [HNO.out]; rfl, HB.out⟩
      · have hkn : ¬ k < n := by omega
        obtain rfl : k = n := by omega
        have ht2 : t ≤ 1000 := by omega
        have htl := HT.out.1 ht2
        clear hgo hkn
        by_cases h80 : (k : Int) ≤ 80
        · have h8 : decide ((k : Int) ≤ 80) = true := decide_eq_true h80
          have HTL := Lib.hid htl; clear htl
          go_wp2_with fail
          go_ret
          exact ⟨by rw [show ds.small xs k = true from decide_eq_true ⟨by have := HTL.out; omega, by omega⟩]; rfl, HB.out⟩
        · have h8 : decide ((k : Int) ≤ 80) = false := decide_eq_false h80
          clear htl
          go_wp2_with fail
          go_ret
          exact ⟨by rw [show ds.small xs k = false from decide_eq_false fun h => by omega]; rfl, HB.out⟩
end Go.Proofs.Ythffkbcjidbdaaa

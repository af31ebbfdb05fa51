/- The law package's awake (cordwainlaw23). -/
import Derived.Test.YtbbekgliaedigaaNetH
import Derived.Test.YtbbekgliaedigaaFrz
namespace Go.Proofs.Ytbbekgliaedigaa
open Go.RowKit
set_option maxRecDepth 20000

theorem NChg.toBelow {B : Nat} {a b : World} (h : NChg B a b) (hB : B ≤ a.heap.size) : Below B a b :=
  ⟨h.chg.os, h.chg.tape, h.chg.output, h.chg.size, fun k hk => h.chg.block k (by omega) fun hh => by have := hh.1; omega⟩
set_option maxHeartbeats 4000000 in
theorem law23.awake (w : World) :
    Calls Try.prog 53 #[] w fun e w' => e = .returned (.bool true) ∧ Below w.heap.size w w' := by
  go_enter Try.func53, Try.ntmps53
  go_wp2_with fail
  refine (net.newS w.heap.size 0 w (Nat.le_refl _)).mono ?_
  rintro e w1 ⟨p, rfl, hn1, hb1⟩
  have HB1 := Lib.hid hb1; clear hb1
  have HN1 := Lib.hid hn1; clear hn1
  go_wp2_with fail
  rw [conv_mark 23 5 Try.underlying23 Try.underlying5 _ _ _ _ _ rfl]
  go_wp2_with fail
  obtain ⟨w2, hw2⟩ : ∃ w2, w2 = w1.alloc (.cells #[.int .u8 120] 5 (1, 2)) := ⟨_, rfl⟩
  have hb2 : Below w1.heap.size w1 w2 := by rw [hw2]; exact (Below.refl _ _).alloc (Nat.le_refl _) _
  have hat : At w2 (some ⟨w1.heap.size, 0, none⟩) 1 (byteAt [120]) := by
    rw [hw2]
    exact (At.new w1 #[.int .u8 120] 5 (n := 1) rfl).congr fun j hj => match j, hj with | 0, _ => rfl
  have hn2 := HN1.out.below hb2
  have HB2 := Lib.hid (HB1.out.trans (hb2.mono HB1.out.size)); clear hb2
  rw [← hw2]
  clear hw2 HB1
  refine (net.sendS w.heap.size 0 p 0 [] _ 1 1 [120] w2 hn2 (by omega) (Nat.zero_le _) rfl (by omega) hat).mono ?_
  rintro e w3 ⟨he, hn3, hc3⟩
  obtain rfl : e = .returned (.int .i64 1) := he
  replace hn3 : NetS w.heap.size 0 w3 p 1 [(1, [120])] := hn3
  have HB3 := Lib.hid (HB2.out.trans (hc3.toBelow HB2.out.size)); clear hc3 hn2 hat HB2
  have HN3 := Lib.hid hn3; clear hn3 HN1
  go_wp2_with fail
  refine (net.doubleS w.heap.size 0 p 1 _ 1 [120] w3 HN3.out (by omega) (Nat.zero_le _) (by simp)).mono ?_
  rintro e w4 ⟨he, hn4, hc4⟩
  obtain rfl : e = .returned (.tuple #[.int .i64 2, .int .i64 0]) := he
  replace hn4 : NetS w.heap.size 0 w4 p 2 [(1, [120]), (2, [120])] := hn4
  have HB4 := Lib.hid (HB3.out.trans (hc4.toBelow HB3.out.size)); clear hc4 HB3
  have HN4 := Lib.hid hn4; clear hn4 HN3
  go_wp2_with fail
  refine (net.deliverS w.heap.size 0 p 2 _ 2 [120] w4 HN4.out (by omega) (by simp)).mono ?_
  rintro e w5 ⟨v, rfl, hrow, hn5, hc5⟩
  replace hn5 : NetS w.heap.size 0 w5 p 2 [(1, [120])] := hn5
  have HB5 := Lib.hid (HB4.out.trans (hc5.toBelow HB4.out.size)); clear hc5 HB4
  have HN5 := Lib.hid hn5; clear hn5 HN4
  obtain ⟨A5, c5, rfl, -, -, hat5⟩ := own_bytes hrow
  have hcv := conv_any (P := Try.prog) Try.underlying23 Try.underlying5 Try.underlying9 (c := c5) [120] rfl hat5
  replace hcv : (convert 23 9 (.slice A5 1 c5)).run Try.prog w5 = .ok (.string ⟨#[120]⟩) w5 := hcv
  clear hrow hat5
  go_wp2_with fail
  refine (net.drop_no w.heap.size 0 p 2 _ 5 w5 HN5.out (by constructor <;> omega) (by simp)).mono ?_
  rintro e w6 ⟨rfl, rfl⟩
  go_wp2_with fail
  refine (net.waitingS w.heap.size 0 p 2 _ w6 HN5.out (by omega)).mono ?_
  rintro e w7 ⟨v, rfl, hrow, hb7⟩
  obtain ⟨A7, c7, rfl, -⟩ := own_at hrow
  have HB7 := Lib.hid (HB5.out.trans (hb7.mono HB5.out.size)); clear hb7 hrow hcv
  go_wp2
  go_ret
  exact ⟨rfl, HB7.out⟩
end Go.Proofs.Ytbbekgliaedigaa

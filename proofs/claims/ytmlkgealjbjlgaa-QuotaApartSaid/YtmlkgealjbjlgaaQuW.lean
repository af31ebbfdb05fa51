/- cordwainlaw19's awake answers true. -/
import Derived.Test.YtmlkgealjbjlgaaQuV
namespace Go.Proofs.Ytmlkgealjbjlgaa
open Go.RowKit Go.Maps

def keyA : ByteArray := { data := #[97] }
theorem keyA_size : keyA.size ≤ maxLen := by simp [keyA, ByteArray.size, maxLen]
theorem keyB_ne : ({ data := #[98] } : ByteArray) ≠ keyA := fun h => by
  have := congrArg (fun s : ByteArray => s.data) h
  simp [keyA] at this
theorem quT_below {w w' : World} {p b X : Nat} (h : Chg w w' (quT p b)) (hX : X ≤ w.heap.size) (hp : X ≤ p) (hb : X ≤ b) : Below X w w' :=
  h.below hX fun k hk => hk.elim (fun e => by omega) fun e => by omega

set_option maxRecDepth 20000 in
set_option maxHeartbeats 1000000 in
theorem qu.awake_any (w : World) : Calls Try.prog 26 #[] w fun e w' => e = .returned (.bool true) ∧ Below w.heap.size w w' := by
  have a1 : (if (5 : Int) ≤ qu.x1 1 5 0 5 0 then (0 : Int) else 15) = 0 := by decide
  have a2 : (if (5 : Int) ≤ qu.x1 1 5 0 5 0 then qu.x1 1 5 0 5 0 - 5 else qu.x1 1 5 0 5 0) = 0 := by decide
  have a3 : qu.to 0 0 = 0 := by decide
  have b1 : (if (1 : Int) ≤ qu.x1 1 5 0 0 0 then (0 : Int) else 15) = 15 := by decide
  have b2 : (if (1 : Int) ≤ qu.x1 1 5 0 0 0 then qu.x1 1 5 0 0 0 - 1 else qu.x1 1 5 0 0 0) = 0 := by decide
  have c1 : (if (1 : Int) ≤ qu.x1 1 5 0 0 1 then (0 : Int) else 15) = 0 := by decide
  have AA := Lib.hid (And.intro a1 (And.intro a2 a3)); clear a1 a2 a3
  have BB := Lib.hid (And.intro b1 b2); clear b1 b2
  have CC := Lib.hid c1; clear c1
  go_enter Try.func26, Try.ntmps26
  go_wp2_with fail
  refine (qu.new_any 1 5 10 w (by omega) (by omega) (by omega)).mono ?_
  rintro e w1 ⟨⟨p, b, rfl, hq, hp, hb⟩, hb1⟩
  have HB1 := Lib.hid hb1; clear hb1
  have HQ1 := Lib.hid (QA.start keyA hq (by omega) (by omega) (by omega)); clear hq
  go_wp2_with fail
  refine (qu.new_bad 1 10 w1 (by omega)).mono ?_
  rintro e w' ⟨rfl, rfl⟩
  go_wp2_with fail
  refine (QA.use p b 1 5 10 0 keyA 5 5 0 w' HQ1.out keyA_size (by omega) (by omega)).mono ?_
  rintro e w2 ⟨rfl, hq, hch⟩
  rw [AA.out.1]
  rw [AA.out.2.1, AA.out.2.2] at hq
  have HB2 := Lib.hid (HB1.out.trans (quT_below hch HB1.out.size hp hb)); clear hch HB1 HQ1
  have HQ2 := Lib.hid hq; clear hq
  go_wp2_with fail
  refine (QA.use p b 1 5 10 0 keyA 0 1 0 w2 HQ2.out keyA_size (by omega) (by omega)).mono ?_
  rintro e w3 ⟨rfl, hq, hch⟩
  rw [BB.out.1]
  rw [BB.out.2, AA.out.2.2] at hq
  have HB3 := Lib.hid (HB2.out.trans (quT_below hch HB2.out.size hp hb)); clear hch HB2 HQ2
  have HQ3 := Lib.hid hq; clear hq
  go_wp2_with fail
  refine (QA.use p b 1 5 10 0 keyA 0 1 1 w3 HQ3.out keyA_size (by omega) (by omega)).mono ?_
  rintro e w4 ⟨rfl, hq, hch⟩
  rw [CC.out]
  have HB4 := Lib.hid (HB3.out.trans (quT_below hch HB3.out.size hp hb)); clear hch HB3 HQ3
  have HQ4 := Lib.hid hq; clear hq
  go_wp2_with fail
  refine (QA.left_other p b 1 5 10 _ keyA { data := #[98] } _ 1 w4 HQ4.out keyB_ne (by simp [ByteArray.size, maxLen]) (by omega)).mono ?_
  rintro e w5 ⟨rfl, -, hch⟩
  have HB5 := Lib.hid (HB4.out.trans (quT_below hch HB4.out.size hp hb)); clear hch HB4 HQ4
  go_wp2_with fail
  go_ret
  exact ⟨rfl, HB5.out⟩
end Go.Proofs.Ytmlkgealjbjlgaa

/- cordwainlaw6's awake answers true. -/
import Derived.Test.YtmlkgealjbjlgaaOiD
namespace Go.Proofs.Ytmlkgealjbjlgaa
open Go.RowKit

/-- A slice of one byte, new. -/
theorem oi.byte1 (w : World) (x : Nat) (t : TypeId) (fr : Nat × Nat) : At (w.alloc (.cells #[.int .u8 (x : Int)] t fr)) (some ⟨w.heap.size, 0, none⟩) [x].length (byteAt [x]) :=
  (At.new w #[.int .u8 (x : Int)] t (n := 1) rfl).congr fun j hj => by
    obtain rfl : j = 0 := by simp at hj; omega
    rfl

def oi.two (i j : Nat) : Int := (#[(3 : Int), 50, 7, 90] : Array Int).getD (i * 2 + j) 0
theorem oi.two_at (w : World) (t : TypeId) (fr : Nat × Nat) : At2 (w.alloc (.cells #[.int .i64 3, .int .i64 50, .int .i64 7, .int .i64 90] t fr)) (some ⟨w.heap.size, 0, none⟩) 2 oi.two :=
  ⟨_, At.new w #[.int .i64 3, .int .i64 50, .int .i64 7, .int .i64 90] t (n := 2 * 2) rfl, fun i j hi hj => by
    have h : (i = 0 ∨ i = 1) ∧ (j = 0 ∨ j = 1) := by omega
    obtain ⟨rfl | rfl, rfl | rfl⟩ := h <;> rfl⟩
theorem oi.two_bd : ∀ i j, i < 2 → j < 2 → -9223372036854775808 ≤ oi.two i j ∧ oi.two i j ≤ 9223372036854775807 := fun i j hi hj => by
  have h : (i = 0 ∨ i = 1) ∧ (j = 0 ∨ j = 1) := by omega
  obtain ⟨rfl | rfl, rfl | rfl⟩ := h <;> decide
theorem oi.two_ok : ∀ k, k < 2 → ¬ oi.bad oi.two k := fun k hk h => by
  have h' : k = 0 ∨ k = 1 := by omega
  unfold oi.bad at h
  rcases h' with rfl | rfl
  · revert h; decide
  · revert h; decide

set_option maxRecDepth 20000 in
set_option maxHeartbeats 1000000 in
theorem oi.awake_any (w : World) : Calls Try.prog 19 #[] w fun e w' => e = .returned (.bool true) ∧ Below w.heap.size w w' := by
  have l1 : oi.look oi.two 6 2 = 50 := by decide
  have l2 : oi.look oi.two 2 2 = 0 := by decide
  have LL := Lib.hid (And.intro l1 l2); clear l1 l2
  go_enter Try.func19, Try.ntmps19
  go_wp2_with fail
  have h0 := oi.two_at w 78 (0, 0)
  have hb : Below w.heap.size w (w.alloc (.cells #[.int .i64 3, .int .i64 50, .int .i64 7, .int .i64 90] 78)) := (Below.refl _ w).alloc (Nat.le_refl _) _
  have hz : w.heap.size < (w.alloc (.cells #[.int .i64 3, .int .i64 50, .int .i64 7, .int .i64 90] 78)).heap.size := by simp
  refine (oi.encode_any _ 2 _ oi.two _ (by omega) h0 oi.two_bd).mono ?_
  rintro e w1 ⟨h1, hb1⟩
  rcases h1 with ⟨-, v, rfl, hown⟩ | ⟨⟨k, hk, hbad, -⟩, -⟩
  case inr => exact absurd hbad (oi.two_ok k hk)
  have H1 := Lib.hid (h0.below hb1 (Nat.le_refl _))
  have HB1 := Lib.hid (hb.trans (hb1.mono (by omega)))
  rw [oi.enc_len] at hown
  obtain ⟨A1, c1, rfl, -, -⟩ := own_at hown
  clear h0 hb hz hb1 hown
  go_wp2_with fail
  have hd := oi.decode_any (some ⟨w1.heap.size, 0, none⟩) 1 1 0 oi.two [1] (w1.alloc (.cells #[.int .u8 1] 5)) (by omega) (by simp) (by simp) (fun i j hi => absurd hi (by omega)) (fun j hj => absurd hj (by omega)) rfl (oi.byte1 w1 1 5 (0, 0)) (by unfold maxLen; omega)
  refine hd.mono ?_
  clear hd
  rintro e w2 ⟨h2, hb2⟩
  rcases h2 with ⟨h2, -⟩ | ⟨-, rfl⟩
  · exact absurd h2 (by simp)
  have hb12 : Below w1.heap.size w1 w2 := ((Below.refl _ w1).alloc (Nat.le_refl _) _).trans (hb2.mono (by simp))
  have H2 := Lib.hid (H1.out.below hb12 (Nat.le_refl _))
  have HB2 := Lib.hid (HB1.out.trans (hb12.mono HB1.out.size)); clear hb12 hb2 H1 HB1
  go_wp2_with fail
  refine (oi.lookup_any _ 2 _ oi.two 6 w2 (by omega) H2.out).mono ?_
  rintro e w' ⟨rfl, rfl⟩
  rw [LL.out.1]
  go_wp2_with fail
  refine (oi.lookup_any _ 2 _ oi.two 2 w' (by omega) H2.out).mono ?_
  rintro e w2 ⟨rfl, rfl⟩
  rw [LL.out.2]
  go_wp2_with fail
  go_ret
  exact ⟨rfl, HB2.out⟩
end Go.Proofs.Ytmlkgealjbjlgaa

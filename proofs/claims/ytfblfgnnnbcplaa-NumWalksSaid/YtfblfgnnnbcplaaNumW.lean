/- The law package's awake (cordwainlaw1): it answers true. -/
import Derived.Test.YtfblfgnnnbcplaaNumC
namespace Go.Proofs.Ytfblfgnnnbcplaa
open Go.RowKit

theorem num.put64 : num.put 64 = [128, 1] := by decide +kernel
theorem num.get1 : num.res (num.get (fun _ => 1) 1) = .tuple #[.int .i64 (-1), .int .i64 1, .int .i64 0] := by rfl
theorem num.get0 (bs : Nat → Nat) : num.res (num.get bs 0) = .tuple #[.int .i64 0, .int .i64 0, .int .i64 2] := by rfl
theorem num.zigm2 : num.zig (-2) = 3 := by decide

set_option maxRecDepth 20000 in
set_option maxHeartbeats 1000000 in
theorem num.awake_any (w : World) : Calls Try.prog 9 #[] w fun e w' => e = .returned (.bool true) ∧ Below w.heap.size w w' := by
  go_enter Try.func9, Try.ntmps9
  go_wp2_with fail
  refine (num.put_any 64 w (by omega) (by omega)).mono ?_
  rintro e w1 ⟨⟨v, rfl, hown⟩, hb1⟩
  rw [num.put64] at hown
  obtain ⟨A, c, rfl, _, hat⟩ := own_at hown
  obtain ⟨b, off, rfl, hbb, hc⟩ := hat (by decide)
  have hb0 := hown.lt b rfl
  have hc0 : w1.cell? ⟨b, off, none⟩ = some (.int .u8 128) := hc 0 (by decide)
  have hc1 : w1.cell? ⟨b, off + 1, none⟩ = some (.int .u8 1) := hc 1 (by decide)
  clear hc hown hat
  have HB1 := Lib.hid hb1; clear hb1
  go_wp2_with fail
  refine (num.get_any _ 1 1 (fun _ => 1) _ (by omega) (At.one w1 (.int .u8 1) _) (fun _ _ => by omega)).mono ?_
  rintro e w2 ⟨rfl, rfl⟩
  rw [num.get1]
  go_wp2_with fail
  refine (num.get_any _ 0 0 (fun _ => 0) _ (by omega) (fun h => absurd h (by omega)) (fun _ _ => by omega)).mono ?_
  rintro e w3 ⟨rfl, rfl⟩
  rw [num.get0]
  go_wp2_with fail
  refine (num.zig_any _ _ (by omega) (by omega)).mono ?_
  rintro e w4 ⟨rfl, rfl⟩
  rw [num.zigm2]
  go_wp2
  go_ret
  exact ⟨rfl, HB1.out.alloc HB1.out.size _⟩
end Go.Proofs.Ytfblfgnnnbcplaa

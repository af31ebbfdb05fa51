/- proto: Answer refuses a code below zero, and a thousand and one numbers (chapter 20). -/
import Derived.BigQuiet
import Derived.Test.YtimcpbbcealkiaaPqF
namespace Go.Proofs.Ytimcpbbcealkiaa
open Go.RowKit
set_option maxRecDepth 20000
theorem pq.at_two (w : World) (a b : ByteArray) (t : TypeId) : At (w.alloc (.cells #[.string a, .string b] t)) (some ⟨w.heap.size, 0, none⟩) 2 (fun j => .string ([a, b].getD j ByteArray.empty)) :=
  (At.new w #[.string a, .string b] t (fr := (0, 0)) (n := 2) rfl).congr fun j hj => by
    have hj' : j = 0 ∨ j = 1 := by omega
    rcases hj' with rfl | rfl <;> rfl
set_option maxHeartbeats 8000000 in
theorem pq.answer_neg (w : World) :
    Calls Try.prog 18 #[.agg #[.int .i64 0, .int .i64 (-1), .int .i64 0, .int .i64 0, .int .i64 0, .string (ByteArray.mk #[]), .string (ByteArray.mk #[]), .slice none 0 0, .slice none 0 0, .slice none 0 0]] w fun e w' => e = .returned (.tuple #[.slice none 0 0, .int .i64 1]) ∧ Below w.heap.size w w' := by
  obtain ⟨bx, hbx⟩ : ∃ b, b = w.heap.size := ⟨_, rfl⟩
  obtain ⟨w1, hw1⟩ : ∃ w1, w1 = w.alloc (.cells #[.int .i64 0, .int .i64 (-1), .int .i64 0, .int .i64 0, .int .i64 0, .string (ByteArray.mk #[]), .string (ByteArray.mk #[]), .slice none 0 0, .slice none 0 0, .slice none 0 0] 41) := ⟨_, rfl⟩
  have hk1 : Blk w1 bx 41 #[.int .i64 0, .int .i64 (-1), .int .i64 0, .int .i64 0, .int .i64 0, .string (ByteArray.mk #[]), .string (ByteArray.mk #[]), .slice none 0 0, .slice none 0 0, .slice none 0 0] := by rw [hw1, hbx]; exact Blk.new _ _ _
  have hb1 : Below w.heap.size w w1 := by rw [hw1]; exact (Below.refl _ _).alloc (Nat.le_refl _) _
  have HA := Lib.hid hb1; clear hb1
  have y0 := hk1.cell 0 (v := .int .i64 0) rfl
  have y1 := hk1.cell 1 (v := .int .i64 (-1)) rfl
  have y2 := hk1.cell 2 (v := .int .i64 0) rfl
  have y3 := hk1.cell 3 (v := .int .i64 0) rfl
  have y4 := hk1.cell 4 (v := .int .i64 0) rfl
  have y5 := hk1.cell 5 (v := .string (ByteArray.mk #[])) rfl
  have y6 := hk1.cell 6 (v := .string (ByteArray.mk #[])) rfl
  have y7 := hk1.cell 7 (v := .slice none 0 0) rfl
  have y8 := hk1.cell 8 (v := .slice none 0 0) rfl
  have y9 := hk1.cell 9 (v := .slice none 0 0) rfl
  have yl := hk1.lt
  clear hk1
  go_enter Try.func18, Try.ntmps18
  go_upto_region 1 with fail
  rw [← hw1, ← hbx]
  clear hw1 hbx
  go_wp2_with fail
  go_ret2
  exact ⟨rfl, HA.out⟩
set_option maxHeartbeats 8000000 in
theorem pq.answer_many (A : Option Addr) (c : Nat) (w : World) :
    Calls Try.prog 18 #[.agg #[.int .i64 0, .int .i64 0, .int .i64 0, .int .i64 0, .int .i64 0, .string (ByteArray.mk #[]), .string (ByteArray.mk #[]), .slice none 0 0, .slice A 1001 c, .slice none 0 0]] w fun e w' => e = .returned (.tuple #[.slice none 0 0, .int .i64 3]) ∧ Below w.heap.size w w' := by
  obtain ⟨bx, hbx⟩ : ∃ b, b = w.heap.size := ⟨_, rfl⟩
  obtain ⟨w1, hw1⟩ : ∃ w1, w1 = w.alloc (.cells #[.int .i64 0, .int .i64 0, .int .i64 0, .int .i64 0, .int .i64 0, .string (ByteArray.mk #[]), .string (ByteArray.mk #[]), .slice none 0 0, .slice A 1001 c, .slice none 0 0] 41) := ⟨_, rfl⟩
  have hk1 : Blk w1 bx 41 #[.int .i64 0, .int .i64 0, .int .i64 0, .int .i64 0, .int .i64 0, .string (ByteArray.mk #[]), .string (ByteArray.mk #[]), .slice none 0 0, .slice A 1001 c, .slice none 0 0] := by rw [hw1, hbx]; exact Blk.new _ _ _
  have hb1 : Below w.heap.size w w1 := by rw [hw1]; exact (Below.refl _ _).alloc (Nat.le_refl _) _
  have h2 : Calls Try.prog 26 #[.slice (some ⟨w1.heap.size, 0, none⟩) 2 2] (w1.alloc (.cells #[.string (ByteArray.mk #[]), .string (ByteArray.mk #[])] 9)) fun e w' => e = .returned (.bool false) ∧ Below w.heap.size w w' ∧ Blk w' bx 41 #[.int .i64 0, .int .i64 0, .int .i64 0, .int .i64 0, .int .i64 0, .string (ByteArray.mk #[]), .string (ByteArray.mk #[]), .slice none 0 0, .slice A 1001 c, .slice none 0 0] := by
    refine (pq.long_any [ByteArray.mk #[], ByteArray.mk #[]] (some ⟨w1.heap.size, 0, none⟩) 2 (w1.alloc (.cells #[.string (ByteArray.mk #[]), .string (ByteArray.mk #[])] 9)) (pq.at_two w1 _ _ _) (by decide)).mono ?_
    rintro e w' ⟨rfl, h⟩
    rw [World.size_alloc] at h
    have a1 : Below w1.heap.size w1 w' := ((Below.refl w1.heap.size w1).alloc (Nat.le_refl _) _).trans (h.mono (by omega))
    exact ⟨rfl, hb1.trans (a1.mono hb1.size), (chg_of (P := fun _ => False) a1).blk hk1 fun q => q⟩
  have hn : ∀ wx, Below w.heap.size w wx → Calls Try.prog 26 #[.slice none 0 0] wx fun e w' => e = .returned (.bool false) ∧ Below wx.heap.size wx w' := fun wx _ => pq.long_any [] none 0 wx (fun h => absurd h (by decide)) (by decide)
  have HA := Lib.hid (And.intro h2 hn); clear h2 hn hb1
  have y0 := hk1.cell 0 (v := .int .i64 0) rfl
  have y1 := hk1.cell 1 (v := .int .i64 0) rfl
  have y2 := hk1.cell 2 (v := .int .i64 0) rfl
  have y3 := hk1.cell 3 (v := .int .i64 0) rfl
  have y4 := hk1.cell 4 (v := .int .i64 0) rfl
  have y5 := hk1.cell 5 (v := .string (ByteArray.mk #[])) rfl
  have y6 := hk1.cell 6 (v := .string (ByteArray.mk #[])) rfl
  have y7 := hk1.cell 7 (v := .slice none 0 0) rfl
  have y8 := hk1.cell 8 (v := .slice A 1001 c) rfl
  have y9 := hk1.cell 9 (v := .slice none 0 0) rfl
  have yl := hk1.lt
  clear hk1
  go_enter Try.func18, Try.ntmps18
  go_upto_region 1 with fail
  rw [← hw1, ← hbx]
  clear hw1 hbx
  go_upto_region 4 with (go_at_call 26; refine HA.out.1.mono ?_; rintro e w2 ⟨rfl, h1, h2⟩; have H2 := Lib.hid (And.intro h1 h2); clear h1 h2)
  clear y0 y1 y2 y3 y4 y5 y6 y7 y8 y9 yl
  have y7 := H2.out.2.cell 7 (v := .slice none 0 0) rfl
  have y8 := H2.out.2.cell 8 (v := .slice A 1001 c) rfl
  have y9 := H2.out.2.cell 9 (v := .slice none 0 0) rfl
  have yl := H2.out.2.lt
  go_upto_region 6 with (go_at_call 26; refine (HA.out.2 w2 H2.out.1).mono ?_; rintro e w3 ⟨rfl, h1⟩; have H3 := Lib.hid (And.intro (H2.out.1.trans (h1.mono H2.out.1.size)) ((chg_of (P := fun _ => False) h1).blk H2.out.2 fun q => q)); clear h1)
  clear y7 y8 y9 yl
  have y8 := H3.out.2.cell 8 (v := .slice A 1001 c) rfl
  have y9 := H3.out.2.cell 9 (v := .slice none 0 0) rfl
  have yl := H3.out.2.lt
  go_wp2_with fail
  go_ret2
  exact ⟨rfl, H3.out.1⟩
end Go.Proofs.Ytimcpbbcealkiaa

/- Contracts of wire.Writer: Text, Done, spoil, fits, Fixed. -/
import Derived.Test.YtfblfgnnnbcplaaWr
import Derived.Test.YtfblfgnnnbcplaaConv
namespace Go.Proofs.Ytfblfgnnnbcplaa
open Go.RowKit

set_option maxRecDepth 20000 in
set_option maxHeartbeats 800000 in
theorem wire.text_any (B p : Nat) (v : Value) (L : List Nat) (bad : Bool) (s : ByteArray) (w : World) (h : Wr w B p v L bad) (hL : L.length + s.size ≤ 70368744177664) :
    Calls Try.prog 46 #[.pointer (some ⟨p, 0, none⟩), .string s] w (WrPost w B p v (L ++ num.put s.size ++ strNats s) bad) := by
  obtain ⟨i0, hi, hz0, hz1, hz2⟩ := info_parts infoByte
  have hpb := num.put_bd (s.size : Int)
  have H := Lib.hid h; clear h
  go_enter Try.func46, Try.ntmps46
  go_wp2_with fail
  refine (wire.num_any B p v L bad s.size w H.out (by omega) (by omega) (by omega)).mono ?_
  rintro e w1 ⟨rfl, v1, hw1, hc1, hl1⟩
  have hcell := hw1.blk.cell 0 (v := v1) rfl
  have hfr := hw1.blk.frozen 0
  have H1 := Lib.hid hw1; clear hw1
  have HC1 := Lib.hid hc1; clear hc1
  have HL1 := Lib.hid hl1; clear hl1
  go_wp2_with (at_builtin; refine wpList_str2 _ rfl (.tmp 14) (.tmp 15) 23 9 rfl B 5 i0 Try.underlying23 Try.underlying9 hi hz0 hz1 hz2 _ (L ++ num.put s.size).length (u8s (L ++ num.put s.size)) rfl H1.out.row s rfl (by rw [List.length_append]; unfold maxLen; omega) (by rw [List.length_append]; omega) (by have := H1.out.blk.lt; have := H1.out.le; omega) ?_; intro v' w2 hown2 hg2 hl2; rw [strCells_u8s] at hown2; obtain ⟨A2, k2, c2, rfl, hb2, hd2⟩ := H1.out.appended (strNats_len s) hown2 hg2 hl2; have hc2 := hb2.cell 0 (v := v1) rfl; have hf2 := hb2.frozen 0; have HD2 := Lib.hid hd2; clear hd2 hg2 hl2 hown2 hb2)
  go_ret
  exact ⟨rfl, WrDone.trans HC1.out HL1.out HD2.out⟩

/-- Done of a Writer that is not spoilt: a copy. -/
theorem wire.done_any (B p : Nat) (v : Value) (L : List Nat) (w : World) (h : Wr w B p v L false) (hL : L.length ≤ 70368744177664) :
    Calls Try.prog 26 #[.pointer (some ⟨p, 0, none⟩)] w fun e w' => (∃ u, e = .returned (.tuple #[u, .bool true]) ∧ w'.ownsRow w.heap.size 5 1 u L.length (u8s L)) ∧ Below w.heap.size w w' := by
  have hc0 := h.blk.cell 0 (v := v) rfl
  have hc1 := h.blk.cell 1 (v := .bool false) rfl
  obtain ⟨A, c, rfl, hc, _, hat⟩ := own_bytes h.row
  have HAT := Lib.hid hat; clear hat
  clear h
  go_enter Try.func26, Try.ntmps26
  go_wp2_with fail
  refine (clone_any A L.length c L w rfl (by omega) HAT.out).mono ?_
  rintro e w1 ⟨⟨u, rfl, hown⟩, hb⟩
  have HO := Lib.hid hown; clear hown
  have HB := Lib.hid hb; clear hb
  go_wp2
  go_ret2
  exact ⟨⟨_, rfl, HO.out⟩, HB.out⟩
theorem wire.done_bad (B p : Nat) (v : Value) (L : List Nat) (w : World) (h : Wr w B p v L true) :
    Calls Try.prog 26 #[.pointer (some ⟨p, 0, none⟩)] w fun e w' => e = .returned (.tuple #[.slice none 0 0, .bool false]) ∧ w = w' := by
  have hc0 := h.blk.cell 0 (v := v) rfl
  have hc1 := h.blk.cell 1 (v := .bool true) rfl
  clear h
  go_enter Try.func26, Try.ntmps26
  go_wp2
  go_ret2
  exact ⟨rfl, rfl⟩
theorem wire.done_nil (w : World) :
    Calls Try.prog 26 #[.pointer none] w fun e w' => e = .returned (.tuple #[.slice none 0 0, .bool false]) ∧ w = w' := by
  go_enter Try.func26, Try.ntmps26
  go_wp2
  go_ret2
  exact ⟨rfl, rfl⟩
theorem wire.num_nil (n : Int) (w : World) :
    Calls Try.prog 27 #[.pointer none, .int .i64 n] w fun e w' => e = .returned (.pointer none) ∧ w = w' := by
  go_enter Try.func27, Try.ntmps27
  go_wp2
  go_ret
  exact ⟨rfl, rfl⟩
theorem wire.spoil_any (B p : Nat) (v : Value) (L : List Nat) (bad : Bool) (w : World) (h : Wr w B p v L bad) :
    Calls Try.prog 55 #[.pointer (some ⟨p, 0, none⟩)] w (WrPost w B p v L true) := by
  have hc1 := h.blk.cell 1 (v := .bool bad) rfl
  have hf1 := h.blk.frozen 1
  have H := Lib.hid h; clear h
  go_enter Try.func55, Try.ntmps55
  go_wp2
  go_ret
  refine ⟨rfl, v, ⟨H.out.blk.set 1 (.bool true), (Chg.setCell w p 1 _).own H.out.row fun k hk e => ?_, H.out.le⟩, (Chg.setCell w p 1 _).mono fun k _ hk => .inl hk, LiesU.refl _ _⟩
  subst e
  exact H.out.blk.not_row writerByte H.out.row hk

/-- May a number be written so? -/
def wire.fit (n size : Int) : Bool := decide (0 ≤ n) && decide (1 ≤ size) && decide (size ≤ 8) && (decide (size = 8) || decide (n < 2 ^ (8 * size.toNat)))
theorem wire.fit_no {n size : Int} (h : n < 0 ∨ size < 1 ∨ 8 < size) : wire.fit n size = false := by
  unfold wire.fit
  rw [Bool.eq_false_iff]
  intro hh
  simp only [Bool.and_eq_true, decide_eq_true_eq] at hh
  omega
set_option maxRecDepth 20000 in
set_option maxHeartbeats 800000 in
theorem wire.fits_any (n size : Int) (w : World) (h1 : -9223372036854775808 ≤ n) (h2 : n ≤ 9223372036854775807) :
    Calls Try.prog 54 #[.int .i64 n, .int .i64 size] w fun e w' => e = .returned (.bool (wire.fit n size)) ∧ w = w' := by
  go_enter Try.func54, Try.ntmps54
  go_wp2
  all_goals go_ret
  all_goals refine ⟨ret_bool ?_, rfl⟩
  · rw [wire.fit_no (by omega)]
  · have e : size = 8 := by simpa using ‹(size == 8) = true›
    subst e
    simp [wire.fit]; omega
  · have hne : size ≠ 8 := by simpa using ‹(size == 8) = false›
    have h7 : size = 1 ∨ size = 2 ∨ size = 3 ∨ size = 4 ∨ size = 5 ∨ size = 6 ∨ size = 7 := by omega
    rcases h7 with rfl | rfl | rfl | rfl | rfl | rfl | rfl
    all_goals simp [wire.fit, wrap64]; omega
  · rw [wire.fit_no (by omega)]
  · rw [wire.fit_no (by omega)]
end Go.Proofs.Ytfblfgnnnbcplaa

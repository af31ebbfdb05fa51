/- The walk of the law ClientNothing. -/
import Derived.Test.YtahncanmfjmfnaaCnM
namespace Go.Proofs.Ytahncanmfjmfnaa
open Go.RowKit Go.Maps
set_option maxRecDepth 100000

theorem cn.field0 (w : World) : (Instr.field 35 (.agg cn.zero) 0).run Try.prog w = .ok (.int .i64 0) w := by kernel_rfl
set_option maxHeartbeats 4000000 in
theorem law24.nothing (n : Int) (w : World) : Calls Try.prog 5 #[.int .i64 n] w fun e w' => e = .returned (.bool true) ∧ Below w.heap.size w w' := by
  have hrec := cn.records_any 1 n w (by omega)
  have HREC := Lib.hid hrec; clear hrec
  have hfl := cn.field0
  unfold cn.zero at hfl
  go_enter Try.func5, Try.ntmps5
  go_upto_region 4 with (first
    | (go_at_call 13; refine (cn.make_nil _ _ _ w1).mono ?_; rintro e w2 ⟨rfl, h1⟩; unfold cn.zero; have H2 := Lib.hid (H1.out.trans (h1.mono H1.out.size)); clear h1)
    | (go_at_call 12; refine HREC.out.mono ?_; rintro e w1 ⟨v, rfl, h1, h2⟩; obtain ⟨A1, c1, rfl, -⟩ := h1.recsV; have H1 := Lib.hid h2; clear h1 h2))
  obtain ⟨w3, hw3⟩ : ∃ w3, w3 = w2.alloc (.cells #[.int .i64 0, .int .i64 0, .string (ByteArray.mk #[]), .string (ByteArray.mk #[]), .int .i64 0, .int .i64 0, .int .i64 0, .int .i64 0, .string (ByteArray.mk #[]), .string (ByteArray.mk #[]), .int .i64 0, .slice none 0 0, .slice none 0 0] 35) := ⟨_, rfl⟩
  rw [← hw3]
  have h3 : Below w.heap.size w w3 := by rw [hw3]; exact H2.out.alloc H2.out.size _
  have H3 := Lib.hid h3; clear h3 hw3
  go_upto_region 5 with (go_at_call 16; refine (cn.retry_nil w3).mono ?_; rintro e w4 ⟨rfl, h1⟩; unfold cn.zero; have H4 := Lib.hid (H3.out.trans (h1.mono H3.out.size)); clear h1)
  obtain ⟨w5, hw5⟩ : ∃ w5, w5 = w4.alloc (.cells #[.int .i64 0, .int .i64 0, .string (ByteArray.mk #[]), .string (ByteArray.mk #[]), .int .i64 0, .int .i64 0, .int .i64 0, .int .i64 0, .string (ByteArray.mk #[]), .string (ByteArray.mk #[]), .int .i64 0, .slice none 0 0, .slice none 0 0] 35) := ⟨_, rfl⟩
  rw [← hw5]
  have h5 : Below w.heap.size w w5 := by rw [hw5]; exact H4.out.alloc H4.out.size _
  have H5 := Lib.hid h5; clear h5 hw5
  go_upto_region 6 with (go_at_call 15; refine (cn.done_nil _ w5).mono ?_; rintro e w6 ⟨rfl, h1⟩; have H6 := Lib.hid (H5.out.trans (h1.mono H5.out.size)); clear h1)
  go_upto_region 7 with (go_at_call 21; refine (cn.got_nil _ w6).mono ?_; rintro e w7 ⟨rfl, h1⟩; have H7 := Lib.hid (H6.out.trans (h1.mono H6.out.size)); clear h1)
  go_wp2_with (first
    | (go_at_call 9; refine (law24.awake w8).mono ?_; rintro e w9 ⟨rfl, h1⟩; have H9 := Lib.hid (H8.out.trans (h1.mono H8.out.size)); clear h1)
    | (go_at_call 19; refine (cn.ask_nil 1 w7).mono ?_; rintro e w8 ⟨rfl, h1⟩; unfold cn.zero; have H8 := Lib.hid (H7.out.trans (h1.mono H7.out.size)); clear h1)
    | (go_at_call 22; refine (cn.offset_nil w7).mono ?_; rintro e w7' ⟨rfl, h3⟩; subst h3)
    | (go_at_call 17; refine (cn.seq_nil _ _ w7).mono ?_; rintro e w7' ⟨rfl, h3⟩; subst h3))
  go_ret
  exact ⟨rfl, H9.out⟩
end Go.Proofs.Ytahncanmfjmfnaa

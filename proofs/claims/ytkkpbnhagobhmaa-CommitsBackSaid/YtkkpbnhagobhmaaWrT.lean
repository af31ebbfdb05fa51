/- Contract of wire.Writer: Text. -/
import Derived.Test.YtkkpbnhagobhmaaWr
import Derived.Test.YtkkpbnhagobhmaaConv
namespace Go.Proofs.Ytkkpbnhagobhmaa
open Go.RowKit

set_option maxRecDepth 20000 in
set_option maxHeartbeats 800000 in
theorem wire.text_any (B p : Nat) (v : Value) (L : List Nat) (bad : Bool) (s : ByteArray) (w : World) (h : Wr w B p v L bad) (hL : L.length + s.size ≤ 70368744177664) :
    Calls Try.prog 48 #[.pointer (some ⟨p, 0, none⟩), .string s] w (WrPost w B p v (L ++ num.put s.size ++ strNats s) bad) := by
  obtain ⟨i0, hi, hz0, hz1, hz2⟩ := info_parts infoByte
  have hpb := num.put_bd (s.size : Int)
  have H := Lib.hid h; clear h
  go_enter Try.func48, Try.ntmps48
  go_wp2_with fail
  refine (wire.num_any B p v L bad s.size w H.out (by omega) (by omega) (by omega)).mono ?_
  rintro e w1 ⟨rfl, v1, hw1, hc1, hl1⟩
  have hcell := hw1.blk.cell 0 (v := v1) rfl
  have hfr := hw1.blk.frozen 0
  have H1 := Lib.hid hw1; clear hw1
  have HC1 := Lib.hid hc1; clear hc1
  have HL1 := Lib.hid hl1; clear hl1
  go_wp2_with (at_builtin; refine wpList_str2 _ rfl (.tmp 14) (.tmp 15) 35 9 rfl B 5 i0 Try.underlying35 Try.underlying9 hi hz0 hz1 hz2 _ (L ++ num.put s.size).length (u8s (L ++ num.put s.size)) rfl H1.out.row s rfl (by rw [List.length_append]; unfold maxLen; omega) (by rw [List.length_append]; omega) (by have := H1.out.blk.lt; have := H1.out.le; omega) ?_; intro v' w2 hown2 hg2 hl2; rw [strCells_u8s] at hown2; obtain ⟨A2, k2, c2, rfl, hb2, hd2⟩ := H1.out.appended (strNats_len s) hown2 hg2 hl2; have hc2 := hb2.cell 0 (v := v1) rfl; have hf2 := hb2.frozen 0; have HD2 := Lib.hid hd2; clear hd2 hg2 hl2 hown2 hb2)
  go_ret
  exact ⟨rfl, WrDone.trans HC1.out HL1.out HD2.out⟩

end Go.Proofs.Ytkkpbnhagobhmaa

/- Contracts of wire.Writer: Num, Bytes. -/
import Derived.Test.YtkkpbnhagobhmaaWrA
import Derived.Test.YtkkpbnhagobhmaaNumP
namespace Go.Proofs.Ytkkpbnhagobhmaa
open Go.RowKit

set_option maxRecDepth 20000 in
set_option maxHeartbeats 800000 in
theorem wire.num_any (B p : Nat) (v : Value) (L : List Nat) (bad : Bool) (n : Int) (w : World) (h : Wr w B p v L bad) (hL : L.length ≤ 70368744177664) (h1 : -9223372036854775808 ≤ n) (h2 : n ≤ 9223372036854775807) :
    Calls Try.prog 65 #[.pointer (some ⟨p, 0, none⟩), .int .i64 n] w (WrPost w B p v (L ++ num.put n) bad) := by
  obtain ⟨i0, hi, hz0, hz1, hz2⟩ := info_parts infoByte
  have hpb := num.put_bd n
  have hc0 := h.blk.cell 0 (v := v) rfl
  have hf0 := h.blk.frozen 0
  have H := Lib.hid h; clear h
  go_enter Try.func65, Try.ntmps65
  go_wp2
  go_region_law
    (first
      | (refine step_app2 _ rfl (.tmp 11) (.tmp 13) 35 rfl B 5 i0 _ 1 1 Try.underlying35 hi hz0 hz1 hz2 rfl (by decide) v L.length (u8s L) rfl H1.out.row A1 (num.put n).length c1 (byteAt (num.put n)) rfl (by rw [Nat.mul_one]; exact HAT1.out) (fun j _ => byteAt_one _ j) (by unfold maxLen; omega) (by omega) (by have := H1.out.blk.lt; have := H1.out.le; omega) ?_; intro v' w2 hown2 hg2 hl2; rw [byteAt_cells_n _ _ rfl] at hown2; obtain ⟨A2, k2, c2, rfl, hb2, hd2⟩ := H1.out.appended rfl hown2 hg2 hl2; have hc2 := hb2.cell 0 (v := v) rfl; have hf2 := hb2.frozen 0; have HD2 := Lib.hid hd2; clear hd2 hg2 hl2 hown2 hb2)
      | (go_simp; go_at_call 80; refine (num.put_any n _ h1 h2).mono ?_; rintro e w1 ⟨⟨v1, rfl, hown1⟩, hb1⟩; obtain ⟨A1, c1, rfl, hc1', hl1, hat1⟩ := own_bytes hown1; have hk1 : Wr w1 B p v L bad := H.out.drew.keep hb1; have hc1 := hk1.blk.cell 0 (v := v) rfl; have hf1 := hk1.blk.frozen 0; have H1 := Lib.hid hk1; clear hk1; have HAT1 := Lib.hid hat1; clear hat1; have HB1 := Lib.hid hb1; clear hb1 hown1))
  all_goals
    go_wp2
    go_ret
    exact ⟨rfl, WrDone.trans (v1 := v) (chg_of (undrew HB1.out)) (LiesU.refl _ _) HD2.out⟩

end Go.Proofs.Ytkkpbnhagobhmaa

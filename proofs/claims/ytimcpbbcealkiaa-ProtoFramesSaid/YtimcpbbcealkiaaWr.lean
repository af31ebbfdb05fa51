/- Contracts of wire.Writer: Num, Bytes. -/
import Derived.Test.YtimcpbbcealkiaaWrA
import Derived.Test.YtimcpbbcealkiaaNumP
namespace Go.Proofs.Ytimcpbbcealkiaa
open Go.RowKit

set_option maxRecDepth 20000 in
set_option maxHeartbeats 800000 in
theorem wire.num_any (B p : Nat) (v : Value) (L : List Nat) (bad : Bool) (n : Int) (w : World) (h : Wr w B p v L bad) (hL : L.length ≤ 70368744177664) (h1 : -9223372036854775808 ≤ n) (h2 : n ≤ 9223372036854775807) :
    Calls Try.prog 29 #[.pointer (some ⟨p, 0, none⟩), .int .i64 n] w (WrPost w B p v (L ++ num.put n) bad) := by
  obtain ⟨i0, hi, hz0, hz1, hz2⟩ := info_parts infoByte
  have hpb := num.put_bd n
  have hc0 := h.blk.cell 0 (v := v) rfl
  have hf0 := h.blk.frozen 0
  have H := Lib.hid h; clear h
  go_enter Try.func29, Try.ntmps29
  go_wp2
  go_region_law
    (first
      | (refine step_app2 _ rfl (.tmp 11) (.tmp 13) 23 rfl B 5 i0 _ 1 1 Try.underlying23 hi hz0 hz1 hz2 rfl (by decide) v L.length (u8s L) rfl H1.out.row A1 (num.put n).length c1 (byteAt (num.put n)) rfl (by rw [Nat.mul_one]; exact HAT1.out) (fun j _ => byteAt_one _ j) (by unfold maxLen; omega) (by omega) (by have := H1.out.blk.lt; have := H1.out.le; omega) ?_; intro v' w2 hown2 hg2 hl2; rw [byteAt_cells_n _ _ rfl] at hown2; obtain ⟨A2, k2, c2, rfl, hb2, hd2⟩ := H1.out.appended rfl hown2 hg2 hl2; have hc2 := hb2.cell 0 (v := v) rfl; have hf2 := hb2.frozen 0; have HD2 := Lib.hid hd2; clear hd2 hg2 hl2 hown2 hb2)
      | (go_simp; go_at_call 57; refine (num.put_any n _ h1 h2).mono ?_; rintro e w1 ⟨⟨v1, rfl, hown1⟩, hb1⟩; obtain ⟨A1, c1, rfl, hc1', hl1, hat1⟩ := own_bytes hown1; have hk1 : Wr w1 B p v L bad := H.out.drew.keep hb1; have hc1 := hk1.blk.cell 0 (v := v) rfl; have hf1 := hk1.blk.frozen 0; have H1 := Lib.hid hk1; clear hk1; have HAT1 := Lib.hid hat1; clear hat1; have HB1 := Lib.hid hb1; clear hb1 hown1))
  all_goals
    go_wp2
    go_ret
    exact ⟨rfl, WrDone.trans (v1 := v) (chg_of (undrew HB1.out)) (LiesU.refl _ _) HD2.out⟩

set_option maxRecDepth 20000 in
set_option maxHeartbeats 800000 in
theorem wire.bytes_any (B p : Nat) (v : Value) (L : List Nat) (bad : Bool) (X : Option Addr) (m c : Nat) (M : List Nat) (w : World) (h : Wr w B p v L bad) (hL : L.length + m ≤ 70368744177664) (hM : M.length = m) (hat : At w X m (byteAt M)) (hx : 0 < m → ∀ b off, X = some ⟨b, off, none⟩ → v.ownBlock ≠ some b) :
    Calls Try.prog 31 #[.pointer (some ⟨p, 0, none⟩), .slice X m c] w (WrPost w B p v (L ++ num.put m ++ M) bad) := by
  obtain ⟨i0, hi, hz0, hz1, hz2⟩ := info_parts infoByte
  have hpb := num.put_bd (m : Int)
  have H := Lib.hid h; clear h
  have HAT := Lib.hid hat; clear hat
  have HX := Lib.hid hx; clear hx
  have HM := Lib.hid hM; clear hM
  go_enter Try.func31, Try.ntmps31
  go_wp2_with fail
  refine (wire.num_any B p v L bad m w H.out (by omega) (by omega) (by omega)).mono ?_
  rintro e w1 ⟨rfl, v1, hw1, hc1, hl1⟩
  have hat1 : At w1 X m (byteAt M) := hc1.at' HAT.out fun hm b off e => by
    have hne := HAT.out.not_blk hm H.out.blk (fun j u hj => by
      rcases j with _ | _ | j
      · simp at hj; subst hj; unfold byteAt; rcases H.out.row.2 with ⟨rfl, _⟩ | ⟨g, cap, cur, rfl, _⟩ <;> simp
      · simp at hj; subst hj; unfold byteAt; simp
      · simp at hj) b off e
    rintro (hh | hh)
    · exact hne hh
    · exact HX.out hm b off e hh
  have hcell := hw1.blk.cell 0 (v := v1) rfl
  have hfr := hw1.blk.frozen 0
  have H1 := Lib.hid hw1; clear hw1
  have HAT1 := Lib.hid hat1; clear hat1
  have HC1 := Lib.hid hc1; clear hc1
  have HL1 := Lib.hid hl1; clear hl1
  go_wp2_with (at_builtin; refine wpList_app2 _ rfl (.tmp 14) (.tmp 15) 23 rfl B 5 i0 _ 1 1 Try.underlying23 hi hz0 hz1 hz2 rfl (by decide) _ (L ++ num.put m).length (u8s (L ++ num.put m)) rfl H1.out.row X m c (byteAt M) rfl (by rw [Nat.mul_one]; exact HAT1.out) (fun j _ => byteAt_one _ j) (by rw [List.length_append]; unfold maxLen; omega) (by rw [List.length_append]; omega) (by have := H1.out.blk.lt; have := H1.out.le; omega) ?_; intro v' w2 hown2 hg2 hl2; rw [byteAt_cells_n _ _ HM.out] at hown2; obtain ⟨A2, k2, c2, rfl, hb2, hd2⟩ := H1.out.appended HM.out hown2 hg2 hl2; have hc2 := hb2.cell 0 (v := v1) rfl; have hf2 := hb2.frozen 0; have HD2 := Lib.hid hd2; clear hd2 hg2 hl2 hown2 hb2)
  go_ret
  exact ⟨rfl, WrDone.trans HC1.out HL1.out HD2.out⟩
end Go.Proofs.Ytimcpbbcealkiaa

/- The walk of the law OindexBack. -/
import Derived.Test.YtmlkgealjbjlgaaOiW
import Derived.Test.YtmlkgealjbjlgaaOiR
import Derived.Test.YtmlkgealjbjlgaaAlike
import Derived.Test.YtmlkgealjbjlgaaOpen
namespace Go.Proofs.Ytmlkgealjbjlgaa
open Go.RowKit

set_option maxRecDepth 20000 in
set_option maxHeartbeats 2000000 in
theorem oi.lawBack (A : Option Addr) (n c : Nat) (V : Nat → Value) (f : Nat → Nat → Int) (x : Int) (w : World) (hm : n ≤ c ∧ c ≤ maxLen) (hat : At w A (n * 2) V) (hV : ∀ i j, i < n → j < 2 → V (i * 2 + j) = .int .i64 (f i j))
    (hwf : ∀ i j, i < n → j < 2 → (Lit.int .i64 (f i j)).wf = true) (hx : (Lit.int .u8 x).wf = true) :
    Calls Try.prog 5 #[.slice A n c, .int .u8 x] w fun e w' => e = .returned (.bool true) ∧ Below w.heap.size w w' := by
  obtain ⟨i0, hi, hz0, hz1, hz2⟩ := info_parts infoByte
  obtain ⟨hnc, hcm⟩ := hm
  have H0 := Lib.hid (show At2 w A n f from ⟨V, hat, hV⟩); clear hat hV
  have HF := Lib.hid (show ∀ i j, i < n → j < 2 → -9223372036854775808 ≤ f i j ∧ f i j ≤ 9223372036854775807 from fun i j hi hj => wf_bd (hwf i j hi hj)); clear hwf
  obtain ⟨y, rfl⟩ : ∃ y : Nat, x = (y : Int) := by
    have h1 : IntKind.u8.min = 0 := rfl
    simp only [Lit.wf, Bool.and_eq_true, decide_eq_true_eq] at hx
    exact ⟨x.toNat, by omega⟩
  have hy : y < 256 := by
    have h2 : IntKind.u8.max = 255 := rfl
    simp only [Lit.wf, Bool.and_eq_true, decide_eq_true_eq] at hx
    omega
  clear hx
  go_enter Try.func5, Try.ntmps5
  by_cases hn : 200 < n
  · have hn' : (200 : Int) < (n : Int) := by omega
    go_wp2_with fail
    refine (oi.awake_any w).mono ?_
    rintro e w1 ⟨rfl, hb1⟩
    go_wp2_with fail
    go_ret
    exact ⟨rfl, hb1⟩
  have hn' : ¬ (200 : Int) < (n : Int) := by omega
  go_wp2_with fail
  refine (oi.made_any A n c f w (by omega) H0.out).mono ?_
  rintro e w1 ⟨⟨v, rfl, hown⟩, hb1⟩
  obtain ⟨A1, c1, rfl, -, hat1⟩ := own_at2 hown
  clear hown
  have HB1 := Lib.hid hb1
  have H1 := Lib.hid (H0.out.below hb1 (Nat.le_refl _)); clear hb1
  go_wp2_with fail
  refine (oi.encode_any A1 n c1 f w1 (by omega) hat1 HF.out).mono ?_
  clear hat1
  rintro e w2 ⟨h2, hb2⟩
  have H2 := Lib.hid (H1.out.below hb2 (Nat.le_refl _)); clear H1
  have HB2 := Lib.hid (HB1.out.trans (hb2.mono HB1.out.size)); clear HB1
  rcases h2 with ⟨hok, v2, rfl, hown⟩ | ⟨⟨k, hk, hbad, hok⟩, rfl⟩
  case inr =>
    clear hb2
    go_wp2_with fail
    refine (oi.refenc_bad A n c f k w2 (by omega) H2.out HF.out hk hbad hok).mono ?_
    rintro e w3 ⟨⟨v3, rfl⟩, hb3⟩
    have HB3 := Lib.hid (HB2.out.trans (hb3.mono HB2.out.size)); clear hb3
    clear hbad hok
    go_wp2_with fail
    refine (oi.awake_any w3).mono ?_
    rintro e w4 ⟨rfl, hb4⟩
    have HB4 := Lib.hid (HB3.out.trans (hb4.mono HB3.out.size)); clear hb4
    go_wp2_with fail
    go_ret
    exact ⟨rfl, HB4.out⟩
  have hsz2 := HB2.out.size
  have hb0 := HB2.out
  clear hb2
  have HOK := Lib.hid hok; clear hok
  obtain ⟨A2, c2, rfl, hc2, hl2, hat2⟩ := own_bytes hown
  have hcm2 := own_cap hown
  clear hown
  rw [oi.enc_len] at hat2 hc2 ⊢
  have HAT2 := Lib.hid hat2; clear hat2
  go_wp2_with fail
  have hd := oi.decode_any A2 (16 * n) c2 n f [] w2 (by omega) (by simp) (by simp) HF.out HOK.out (by rw [List.append_nil]; exact oi.enc_len f n) (by rw [List.append_nil]; exact HAT2.out) ⟨hc2, hcm2⟩
  refine hd.mono ?_
  clear hd
  rintro e w3 ⟨h3, hb3⟩
  rcases h3 with ⟨-, v3, rfl, hown3⟩ | ⟨h3, -⟩
  case inr => exact absurd rfl h3
  obtain ⟨A3, c3, rfl, -, hat3⟩ := own_at2 hown3
  clear hown3
  have HAT3 := Lib.hid hat3; clear hat3
  have HAT2' := Lib.hid (HAT2.out.below hb3 (Nat.le_refl _)); clear HAT2
  have HB3 := Lib.hid (HB2.out.trans (hb3.mono HB2.out.size)); clear HB2
  have H3 := Lib.hid (H2.out.below hb3 (Nat.le_refl _)); clear H2 hb3
  go_wp2_with (at_builtin; first
    | (refine wpList_app2 _ rfl (.tmp 50) (.tmp 51) 24 rfl w3.heap.size 5 i0 _ 1 1 Try.underlying24 hi hz0 hz1 hz2 rfl (by decide) _ 0 [] rfl (World.ownsRow_lit w3 #[] 0 (Nat.le_refl _) (by simp [maxLen]) rfl) A2 (16 * n) c2 (byteAt (oi.enc f n)) rfl (by rw [Nat.mul_one]; exact HAT2'.out.alloc _) (fun j _ => byteAt_one _ j) (by unfold maxLen; omega) (by omega) (by simp) ?_; intro v4 w4 hown4 hg4 hl4; rw [byteAt_cells_n _ _ (oi.enc_len f n), List.nil_append] at hown4
       have hb4 := ((Below.refl _ w3).alloc (Nat.le_refl _) (.cells #[] 5)).grown hg4 (by simp) (fun g hg => by cases hg; exact Nat.le_refl _)
       have HB4 := Lib.hid hb4; clear hb4 hg4 hl4)
    | (refine wpList_app2 _ rfl (.tmp 52) (.tmp 54) 24 rfl w3.heap.size 5 i0 _ 1 1 Try.underlying24 hi hz0 hz1 hz2 rfl (by decide) v4 (0 + 16 * n) _ rfl (hown4.alloc _) (some ⟨w4.heap.size, 0, none⟩) 1 1 (byteAt [y]) rfl (by rw [Nat.mul_one]; exact oi.byte1 w4 y 5 (0, 0)) (fun j _ => byteAt_one _ j) (by unfold maxLen; omega) (by omega) (by have := HB4.out.size; simp; omega) ?_; intro v5 w5 hown5 hg5 hl5; rw [byteAt_cells_n [y] 1 rfl, ← u8s_append] at hown5
       have hb5 := (HB4.out.alloc HB4.out.size _).grown hg5 (by have := HB4.out.size; simp; omega) (fun g hg => (hown4.lt g hg).1)
       have HB5 := Lib.hid hb5; clear hb5 hg5 hl5 hown4 HB4))
  rw [show 0 + 16 * n + 1 = 16 * n + 1 by omega] at hown5
  obtain ⟨A5, c5, rfl, hc5, hl5, hat5⟩ := own_bytes hown5
  have hcm5 := own_cap hown5
  clear hown5
  have HAT5 := Lib.hid hat5; clear hat5
  have hd := oi.decode_any A5 (16 * n + 1) c5 n f [y] w5 (by omega) (by simp) (by intro z hz; cases hz with | head => exact hy | tail _ h => cases h) HF.out HOK.out hl5 HAT5.out ⟨hc5, hcm5⟩
  refine hd.mono ?_
  clear hd
  rintro e w6 ⟨h6, hb6⟩
  rcases h6 with ⟨h6, -⟩ | ⟨-, rfl⟩
  · exact absurd h6 (by simp)
  have hb36 := HB5.out.trans (hb6.mono HB5.out.size)
  have H6 := Lib.hid (H3.out.below hb36 (Nat.le_refl _))
  have HAT6 := Lib.hid (HAT3.out.below hb36 (Nat.le_refl _))
  have HB6 := Lib.hid (HB3.out.trans (hb36.mono HB3.out.size))
  clear hb36 hb6 H3 HAT3 HB3 HB5 HAT5 HAT2' hl5
  go_wp2_with fail
  refine (oi.same_any A3 c3 A n c f w6 (by omega) HAT6.out H6.out).mono ?_
  rintro e w7 ⟨rfl, q7, rfl⟩
  have HB7 := Lib.hid (bdrew HB6.out q7); clear HB6 HAT6 H6
  generalize w6.drewN q7 = w7 at *
  go_wp2_with fail
  refine (round_any 0 1 w7 (by omega) (by omega) (by omega)).mono ?_
  rintro e w' ⟨⟨r, rfl, hr⟩, rfl⟩
  obtain rfl : r = 0 := by omega
  go_wp2_with fail
  refine (oi.awake_any w7).mono ?_
  rintro e w8 ⟨rfl, hb8⟩
  have HB8 := Lib.hid (HB7.out.trans (hb8.mono HB7.out.size)); clear hb8
  go_wp2_with fail
  go_ret
  exact ⟨rfl, HB8.out⟩
end Go.Proofs.Ytmlkgealjbjlgaa

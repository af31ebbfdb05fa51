/- The document's EncodeEntries (cordwainref1) where it refuses. -/
import Derived.Test.YtmlkgealjbjlgaaOiE
import Derived.Test.YtmlkgealjbjlgaaRefB
namespace Go.Proofs.Ytmlkgealjbjlgaa
open Go.RowKit

/-- The document's words on entry k: why it may stand, or not. -/
theorem oi.why (f : Nat → Nat → Int) (k : Nat) (h : ∀ j, j < k → ¬ oi.bad f j) :
    (¬ oi.bad f k → ¬ f k 0 < 0 ∧ ¬ f k 1 < 0 ∧ (0 < k → ¬ f k 1 ≤ f (k - 1) 1 ∧ ¬ f k 0 < f (k - 1) 0 ∧ f k 0 ≠ f (k - 1) 0)) ∧
    (oi.bad f k → f k 0 < 0 ∨ (¬ f k 0 < 0 ∧ f k 1 < 0) ∨ (¬ f k 0 < 0 ∧ ¬ f k 1 < 0 ∧ 0 < k ∧ f k 1 ≤ f (k - 1) 1) ∨ (¬ f k 0 < 0 ∧ ¬ f k 1 < 0 ∧ 0 < k ∧ ¬ f k 1 ≤ f (k - 1) 1 ∧ f k 0 < f (k - 1) 0) ∨
      (¬ f k 0 < 0 ∧ ¬ f k 1 < 0 ∧ 0 < k ∧ ¬ f k 1 ≤ f (k - 1) 1 ∧ ¬ f k 0 < f (k - 1) 0 ∧ f k 0 = f (k - 1) 0)) := by
  have hp := oi.pre_ge f k h
  unfold oi.bad
  cases k with
  | zero =>
    have e0 : oi.pre f 0 0 = -1 := rfl
    have e1 : oi.pre f 0 1 = -1 := rfl
    rw [e0, e1]
    omega
  | succ k =>
    have e0 : oi.pre f (k + 1) 0 = f k 0 := rfl
    have e1 : oi.pre f (k + 1) 1 = f k 1 := rfl
    have e2 : k + 1 - 1 = k := by omega
    rw [e0, e1] at hp ⊢
    rw [e2]
    omega

set_option maxRecDepth 20000 in
set_option maxHeartbeats 2000000 in
theorem oi.refenc_bad (A : Option Addr) (n c : Nat) (f : Nat → Nat → Int) (K : Nat) (w : World) (hn : n ≤ 1000) (hat : At2 w A n f) (hf : ∀ i j, i < n → j < 2 → -9223372036854775808 ≤ f i j ∧ f i j ≤ 9223372036854775807)
    (hK : K < n) (hbad : oi.bad f K) (hok : ∀ j, j < K → ¬ oi.bad f j) :
    Calls Try.prog 22 #[.slice A n c, .bool false] w fun e w' => (∃ v, e = .returned (.tuple #[v, .int .i64 1])) ∧ Below w.heap.size w w' := by
  obtain ⟨i0, hi, hz0, hz1, hz2⟩ := info_parts infoByte
  have HAT := Lib.hid hat; clear hat
  have HF := Lib.hid hf; clear hf
  have HOK := Lib.hid hok; clear hok
  have HBAD := Lib.hid hbad; clear hbad
  go_enter Try.func22, Try.ntmps22
  go_wp2
  go_loopw [6, 7] (fun v i wr => ∃ (k : Nat) (u : Value), u = v ∧ k ≤ K ∧ i = .int .i64 (k : Int) ∧ wr.ownsRow w.heap.size 5 1 u (oi.enc f k).length (u8s (oi.enc f k)) ∧ Below w.heap.size w wr) (fun _ i _ => n - (intOf i).toNat)
  case atStart => exact ⟨0, _, rfl, by omega, rfl, World.ownsRow_nil _ _ _ _, Below.refl _ _⟩
  case round =>
    obtain ⟨k, v, rfl, hk, rfl, hown, hb⟩ := hrel
    have HO := Lib.hid hown; clear hown
    have HB := Lib.hid hb; clear hb
    have hkn : k < n := by omega
    have hkn' : (k : Int) < n := by omega
    have hk0 : (0 : Int) ≤ k := by omega
    obtain ⟨b, off, rfl, hbb, c0, c1⟩ := (HAT.out.below HB.out (Nat.le_refl _)).get k hkn
    have hwhy := oi.why f k fun j hj => HOK.out j (by omega)
    obtain ⟨j, hj⟩ : ∃ j, j = k - 1 := ⟨_, rfl⟩
    rw [← hj] at hwhy
    by_cases hkK : k = K
    · have hcase := hwhy.2 (by rw [hkK]; exact HBAD.out)
      clear hwhy hkK
      rcases hcase with g | ⟨g, g'⟩ | ⟨g, g', g0, g1⟩ | ⟨g, g', g0, g1, g2⟩ | ⟨g, g', g0, g1, g2, g3⟩
      · have e1 : decide (f k 0 < 0) = true := by simpa using g
        clear g
        go_wp2_with fail
        go_quiet (fail)
        go_wp2
        go_ret2
        exact ⟨⟨_, rfl⟩, bdrew HB.out _⟩
      · have e1 : decide (f k 0 < 0) = false := by simpa using g
        have e2 : decide (f k 1 < 0) = true := by simpa using g'
        clear g g'
        go_wp2_with fail
        go_quiet (fail)
        go_wp2
        go_ret2
        exact ⟨⟨_, rfl⟩, bdrew HB.out _⟩
      all_goals
        have hkj : (k : Int) - 1 = (j : Int) := by omega
        have hjn : j < n := by omega
        obtain ⟨_, _, e, -, d0, d1⟩ := (HAT.out.below HB.out (Nat.le_refl _)).get j hjn
        cases e
        clear hj
        have e1 : decide (f k 0 < 0) = false := by simpa using g
        have e2 : decide (f k 1 < 0) = false := by simpa using g'
        have e3 : decide ((0 : Int) < (k : Int)) = true := by simpa using g0
        have hjn' : (j : Int) < n := by omega
        have hj0 : (0 : Int) ≤ j := by omega
      · have e4 : decide (f k 1 ≤ f j 1) = true := by simpa using g1
        clear g g' g1
        go_wp2_with fail
        go_quiet (fail)
        go_wp2
        go_ret2
        exact ⟨⟨_, rfl⟩, bdrew HB.out _⟩
      · have e4 : decide (f k 1 ≤ f j 1) = false := by simpa using g1
        have e5 : decide (f k 0 < f j 0) = true := by simpa using g2
        clear g g' g1 g2
        go_wp2_with fail
        go_quiet (fail)
        go_wp2
        go_ret2
        exact ⟨⟨_, rfl⟩, bdrew HB.out _⟩
      · have e4 : decide (f k 1 ≤ f j 1) = false := by simpa using g1
        have e5 : decide (f k 0 < f j 0) = false := by simpa using g2
        have e6 : (f k 0 == f j 0) = true := by simpa using g3
        clear g g' g1 g2 g3
        go_wp2_with fail
        go_quiet (fail)
        go_wp2
        go_ret2
        exact ⟨⟨_, rfl⟩, bdrew HB.out _⟩
    · have hkK' : k < K := by omega
      obtain ⟨g, g', g0⟩ := hwhy.1 (HOK.out k hkK')
      clear hwhy hkK
      obtain ⟨a0, ha0⟩ := Int.eq_ofNat_of_zero_le (show 0 ≤ f k 0 by omega)
      obtain ⟨a1, ha1⟩ := Int.eq_ofNat_of_zero_le (show 0 ≤ f k 1 by omega)
      have hfb0 := HF.out k 0 hkn (by omega)
      have hfb1 := HF.out k 1 hkn (by omega)
      have henc : oi.enc f (k + 1) = oi.enc f k ++ wire.be a0 8 ++ wire.be a1 8 := by
        rw [oi.enc, oi.enc1, ha0, ha1, List.append_assoc]; rfl
      have HENC := Lib.hid henc
      have hlen1 : (oi.enc f (k + 1)).length = (oi.enc f k).length + 8 + 8 := by rw [henc, List.length_append, List.length_append, wire.be_len, wire.be_len]
      have HLEN := Lib.hid hlen1; clear hlen1 henc
      have hLk : (oi.enc f k).length = 16 * k := oi.enc_len f k
      generalize oi.enc f k = E at *
      have e1 : decide (f k 0 < 0) = false := by simpa using g
      have e2 : decide (f k 1 < 0) = false := by simpa using g'
      have hend : ∀ (nq : Nat), ∃ wq, wq = wr.drewN nq ∧ wq.ownsRow w.heap.size 5 1 v E.length (u8s E) ∧ Below w.heap.size w wq ∧ wq.cell? ⟨b, off + k * 2, none⟩ = some (.int .i64 (a0 : Int)) ∧ wq.cell? ⟨b, off + k * 2 + 1, none⟩ = some (.int .i64 (a1 : Int)) ∧ b < w.heap.size := fun nq =>
        ⟨_, rfl, HO.out, bdrew HB.out nq, by rw [← ha0]; exact c0, by rw [← ha1]; exact c1, by obtain ⟨_, _, e, h, _⟩ := HAT.out.get k hkn; cases e; exact h⟩
      have HEND := Lib.hid hend; clear hend
      have ha0' : (a0 : Int) ≤ 9223372036854775807 := by omega
      have ha1' : (a1 : Int) ≤ 9223372036854775807 := by omega
      clear ha0 ha1 hfb0 hfb1 HF
      by_cases h0 : 0 < k
      · obtain ⟨g1, g2, g3⟩ := g0 h0
        have hkj : (k : Int) - 1 = (j : Int) := by omega
        have hjn : j < n := by omega
        obtain ⟨_, _, e, -, d0, d1⟩ := (HAT.out.below HB.out (Nat.le_refl _)).get j hjn
        cases e
        have e3 : decide ((0 : Int) < (k : Int)) = true := by simpa using h0
        have hjn' : (j : Int) < n := by omega
        have hj0 : (0 : Int) ≤ j := by omega
        have e4 : decide (f k 1 ≤ f j 1) = false := by simpa using g1
        have e5 : decide (f k 0 < f j 0) = false := by simpa using g2
        have e6 : (f k 0 == f j 0) = false := by simpa using g3
        clear g g' g0 g1 g2 g3 hj
        go_wp2_with fail
        go_quiet (fail)
        obtain ⟨wq, hwq, hown, hbq, x0, x1, hbw⟩ := HEND.out nq
        rw [← hwq]
        clear c0 c1 d0 d1 e1 e2 e3 e4 e5 e6 hwq HEND
        have HO1 := Lib.hid hown; clear hown
        have HB1 := Lib.hid hbq; clear hbq
        have hcell : ∀ W', Below w.heap.size wq W' → W'.cell? ⟨b, off + k * 2, none⟩ = some (.int .i64 (a0 : Int)) ∧ W'.cell? ⟨b, off + k * 2 + 1, none⟩ = some (.int .i64 (a1 : Int)) := fun W' hb => ⟨(hb.cell hbw).trans x0, (hb.cell hbw).trans x1⟩
        have HC := Lib.hid hcell; clear hcell
        go_wp2_with fail
        go_region_law
          (first
            | (refine step_app2 _ rfl (.tmp 85) (.tmp 91) 24 rfl w.heap.size 5 i0 _ 1 1 Try.underlying24 hi hz0 hz1 hz2 rfl (by decide) v2 (E.length + 8) (u8s E ++ u8s (wire.be a0 8)) rfl (own_below HO2.out HB3.out) A4 8 c4 (byteAt (wire.be a1 8)) rfl (by rw [Nat.mul_one]; exact HAT4.out) (fun j _ => byteAt_one _ j) (by unfold maxLen; omega) (by omega) (by have := HB2.out.size; have := HB3.out.size; omega) ?_; intro v' w4 hown4 hg4 hl4; rw [byteAt_cells_n _ _ (wire.be_len a1 8)] at hown4; have HO4 := Lib.hid hown4; have HB4 := Lib.hid ((HB2.out.trans (HB3.out.mono HB2.out.size)).grown hg4 (by have := HB2.out.size; have := HB3.out.size; omega) (fun g hg => (HO2.out.lt g hg).1)); clear hown4 hg4 hl4)
            | (refine step_app2 _ rfl (.tmp 78) (.tmp 84) 24 rfl w.heap.size 5 i0 _ 1 1 Try.underlying24 hi hz0 hz1 hz2 rfl (by decide) v E.length (u8s E) rfl (own_below HO1.out HBX.out) A3 8 c3 (byteAt (wire.be a0 8)) rfl (by rw [Nat.mul_one]; exact HAT3.out) (fun j _ => byteAt_one _ j) (by unfold maxLen; omega) (by omega) (by have := HB1.out.size; have := HBX.out.size; omega) ?_; intro v2 w2 hown2 hg2 hl2; rw [byteAt_cells_n _ _ (wire.be_len a0 8)] at hown2; have HO2 := Lib.hid hown2; have hbx2 : Below w.heap.size wq w2 := (HBX.out.mono HB1.out.size).grown hg2 (by have := HB1.out.size; have := HBX.out.size; omega) (fun g hg => (HO1.out.lt g hg).1); have HB2 := Lib.hid (HB1.out.trans hbx2); obtain ⟨z0, z1⟩ := HC.out _ hbx2; clear hown2 hg2 hl2 hbx2)
            | (go_simp; go_at_call 38; refine (wire.reffixed_any a1 8 w2 (by omega) (by omega) ha1').mono ?_; rintro e w3 ⟨⟨v3, rfl, hown3⟩, hb3⟩; obtain ⟨A4, c4, rfl, -, -, hat4⟩ := own_bytes hown3; have HAT4 := Lib.hid hat4; have HB3 := Lib.hid hb3; clear hb3 hown3 hat4)
            | (go_simp; go_at_call 38; refine (wire.reffixed_any a0 8 _ (by omega) (by omega) ha0').mono ?_; rintro e w1 ⟨⟨v1, rfl, hown1⟩, hb1⟩; obtain ⟨A3, c3, rfl, -, -, hat3⟩ := own_bytes hown1; have HAT3 := Lib.hid hat3; have hbx := undrew hb1; have HBX := Lib.hid hbx; obtain ⟨y0, y1⟩ := HC.out _ (hbx.mono HB1.out.size); clear hb1 hown1 hat3 hbx))
        all_goals
          go_wp2
          go_roundw
          case rel => exact ⟨k + 1, _, rfl, by omega, by go_num, by rw [HLEN.out, HENC.out, u8s_append, u8s_append]; exact HO4.out, HB4.out⟩
          case measure => simp [intOf]; omega
      · have e3 : decide ((0 : Int) < (k : Int)) = false := by simpa using h0
        clear g g' g0 hj
        go_wp2_with fail
        go_quiet (fail)
        obtain ⟨wq, hwq, hown, hbq, x0, x1, hbw⟩ := HEND.out nq
        rw [← hwq]
        clear c0 c1 e1 e2 e3 hwq HEND
        have HO1 := Lib.hid hown; clear hown
        have HB1 := Lib.hid hbq; clear hbq
        have hcell : ∀ W', Below w.heap.size wq W' → W'.cell? ⟨b, off + k * 2, none⟩ = some (.int .i64 (a0 : Int)) ∧ W'.cell? ⟨b, off + k * 2 + 1, none⟩ = some (.int .i64 (a1 : Int)) := fun W' hb => ⟨(hb.cell hbw).trans x0, (hb.cell hbw).trans x1⟩
        have HC := Lib.hid hcell; clear hcell
        go_wp2_with fail
        go_region_law
          (first
            | (refine step_app2 _ rfl (.tmp 85) (.tmp 91) 24 rfl w.heap.size 5 i0 _ 1 1 Try.underlying24 hi hz0 hz1 hz2 rfl (by decide) v2 (E.length + 8) (u8s E ++ u8s (wire.be a0 8)) rfl (own_below HO2.out HB3.out) A4 8 c4 (byteAt (wire.be a1 8)) rfl (by rw [Nat.mul_one]; exact HAT4.out) (fun j _ => byteAt_one _ j) (by unfold maxLen; omega) (by omega) (by have := HB2.out.size; have := HB3.out.size; omega) ?_; intro v' w4 hown4 hg4 hl4; rw [byteAt_cells_n _ _ (wire.be_len a1 8)] at hown4; have HO4 := Lib.hid hown4; have HB4 := Lib.hid ((HB2.out.trans (HB3.out.mono HB2.out.size)).grown hg4 (by have := HB2.out.size; have := HB3.out.size; omega) (fun g hg => (HO2.out.lt g hg).1)); clear hown4 hg4 hl4)
            | (refine step_app2 _ rfl (.tmp 78) (.tmp 84) 24 rfl w.heap.size 5 i0 _ 1 1 Try.underlying24 hi hz0 hz1 hz2 rfl (by decide) v E.length (u8s E) rfl (own_below HO1.out HBX.out) A3 8 c3 (byteAt (wire.be a0 8)) rfl (by rw [Nat.mul_one]; exact HAT3.out) (fun j _ => byteAt_one _ j) (by unfold maxLen; omega) (by omega) (by have := HB1.out.size; have := HBX.out.size; omega) ?_; intro v2 w2 hown2 hg2 hl2; rw [byteAt_cells_n _ _ (wire.be_len a0 8)] at hown2; have HO2 := Lib.hid hown2; have hbx2 : Below w.heap.size wq w2 := (HBX.out.mono HB1.out.size).grown hg2 (by have := HB1.out.size; have := HBX.out.size; omega) (fun g hg => (HO1.out.lt g hg).1); have HB2 := Lib.hid (HB1.out.trans hbx2); obtain ⟨z0, z1⟩ := HC.out _ hbx2; clear hown2 hg2 hl2 hbx2)
            | (go_simp; go_at_call 38; refine (wire.reffixed_any a1 8 w2 (by omega) (by omega) ha1').mono ?_; rintro e w3 ⟨⟨v3, rfl, hown3⟩, hb3⟩; obtain ⟨A4, c4, rfl, -, -, hat4⟩ := own_bytes hown3; have HAT4 := Lib.hid hat4; have HB3 := Lib.hid hb3; clear hb3 hown3 hat4)
            | (go_simp; go_at_call 38; refine (wire.reffixed_any a0 8 _ (by omega) (by omega) ha0').mono ?_; rintro e w1 ⟨⟨v1, rfl, hown1⟩, hb1⟩; obtain ⟨A3, c3, rfl, -, -, hat3⟩ := own_bytes hown1; have HAT3 := Lib.hid hat3; have hbx := undrew hb1; have HBX := Lib.hid hbx; obtain ⟨y0, y1⟩ := HC.out _ (hbx.mono HB1.out.size); clear hb1 hown1 hat3 hbx))
        all_goals
          go_wp2
          go_roundw
          case rel => exact ⟨k + 1, _, rfl, by omega, by go_num, by rw [HLEN.out, HENC.out, u8s_append, u8s_append]; exact HO4.out, HB4.out⟩
          case measure => simp [intOf]; omega
end Go.Proofs.Ytmlkgealjbjlgaa

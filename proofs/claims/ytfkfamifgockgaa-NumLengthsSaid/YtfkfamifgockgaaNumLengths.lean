/- The walk of the law NumLengths: it answers true, whatever the input. -/
import Derived.Test.YtfkfamifgockgaaNumW
namespace Go.Proofs.Ytfkfamifgockgaa
open Go.RowKit

set_option maxRecDepth 20000 in
set_option maxHeartbeats 1000000 in
theorem num.lawLengths (n m : Int) (w : World) (hn : -9223372036854775808 ≤ n ∧ n ≤ 9223372036854775807) (hm : -9223372036854775808 ≤ m ∧ m ≤ 9223372036854775807) :
    Calls Try.prog 5 #[.int .i64 n, .int .i64 m] w fun e w' => e = .returned (.bool true) ∧ Below w.heap.size w w' := by
  obtain ⟨n1, n2⟩ := hn
  obtain ⟨m1, m2⟩ := hm
  have hz := num.zig_bd n n1 n2
  have hzm := num.zig_bd m m1 m2
  obtain ⟨u, hu⟩ := Int.eq_ofNat_of_zero_le hz.1
  obtain ⟨t, ht⟩ := Int.eq_ofNat_of_zero_le hzm.1
  have hpl := num.put_len n
  have hpb := num.put_bd n
  have hmono : u ≤ t → num.wid u ≤ num.wid t := num.wd_mono 9 u t
  have hpar : (decide (n < 0)) = (((u : Int) % 2) == 1) := by
    unfold num.zig at hu
    by_cases h : 0 ≤ n
    · rw [if_pos h] at hu
      rw [decide_eq_false (by omega)]; symm; rw [beq_eq_false_iff_ne]; omega
    · rw [if_neg h] at hu
      rw [decide_eq_true (by omega)]; symm; rw [beq_iff_eq]; omega
  rw [hu] at hz
  rw [ht] at hzm
  rw [hu, Int.toNat_natCast] at hpl
  have HU := Lib.hid hu; clear hu
  have HT := Lib.hid ht; clear ht
  have HPL := Lib.hid hpl; clear hpl
  have HMONO := Lib.hid hmono; clear hmono
  have HPAR := Lib.hid hpar; clear hpar
  go_enter Try.func5, Try.ntmps5
  go_wp2_with fail
  refine (num.zig_any n w n1 n2).mono ?_
  rintro e w' ⟨rfl, rfl⟩
  rw [HU.out]
  go_wp2
  go_loop [5, 6] (fun x b => ∃ (k c d : Nat), num.Rd u k c d ∧ (c : Int) ≤ 18446744073709551615 ∧ d ≤ 10 ∧ x = .int .u64 (c : Int) ∧ b = .int .i64 (d : Int)) (fun x _ => (intOf x).toNat)
  case atStart => exact ⟨9, u, 1, ⟨by omega, by unfold num.wid; omega, rfl⟩, by omega, by omega, rfl, rfl⟩
  case round =>
    obtain ⟨k, c, d, ⟨hk, hw, hd⟩, hc, hd2, rfl, rfl⟩ := hrel
    have HK := Lib.hid hk; clear hk
    have HW := Lib.hid hw; clear hw
    have HD := Lib.hid hd; clear hd
    by_cases hlt : c < 128
    · have hc' : (c : Int) < 128 := by omega
      have hdw : d = num.wid u := by have := HW.out; rw [num.wd_low k c hlt] at this; omega
      have HDW := Lib.hid hdw; clear hdw
      clear hlt
      go_wp2_with fail
      refine (num.zig_any n w n1 n2).mono ?_
      rintro e w' ⟨rfl, rfl⟩
      rw [HU.out]
      go_wp2_with fail
      refine (num.zig_any m w m1 m2).mono ?_
      rintro e w' ⟨rfl, rfl⟩
      rw [HT.out]
      go_wp2_with fail
      refine (num.size_any n w n1 n2).mono ?_
      rintro e w' ⟨rfl, rfl⟩
      rw [HU.out, Int.toNat_natCast, ← HDW.out]
      go_wp2_with fail
      refine (num.put_any n w n1 n2).mono ?_
      rintro e w1 ⟨⟨v, rfl, hown⟩, hb1⟩
      obtain ⟨A, cp, rfl, _, _⟩ := own_at hown
      clear hown
      rw [HPL.out, ← HDW.out]
      have HB1 := Lib.hid hb1; clear hb1
      by_cases hab : t < u
      · have hab' : (t : Int) < u := by omega
        go_wp2_with fail
        all_goals first
          | (refine (num.awake_any w1).mono ?_
             rintro e w2 ⟨rfl, hb2⟩
             go_wp2
             go_ret
             exact ⟨rfl, HB1.out.trans (hb2.mono HB1.out.size)⟩)
          | (exfalso; have := HPAR.out; contradiction)
      · have hab' : ¬ (t : Int) < u := by omega
        have hmo := HMONO.out (by omega)
        rw [← HDW.out] at hmo
        go_wp2_with fail
        refine (num.size_any n w1 n1 n2).mono ?_
        rintro e w' ⟨rfl, rfl⟩
        rw [HU.out, Int.toNat_natCast, ← HDW.out]
        go_wp2_with fail
        refine (num.size_any m w1 m1 m2).mono ?_
        rintro e w' ⟨rfl, rfl⟩
        rw [HT.out, Int.toNat_natCast]
        go_wp2_with fail
        all_goals first
          | (refine (num.awake_any w1).mono ?_
             rintro e w2 ⟨rfl, hb2⟩
             go_wp2
             go_ret
             exact ⟨rfl, HB1.out.trans (hb2.mono HB1.out.size)⟩)
          | (exfalso; have := HPAR.out; contradiction)
    · have hc' : ¬ (c : Int) < 128 := by omega
      obtain ⟨k', hk', hl⟩ := num.less HK.out hlt
      have HK' := Lib.hid hk'; clear hk'
      have HL := Lib.hid hl; clear hl
      go_wp2
      go_round
      case rel =>
        have h3 := HD.out
        have h2 := HK'.out
        refine ⟨k', c / 128, d + 1, ⟨HL.out, ?_, by omega⟩, by omega, by omega, by go_num, by go_num⟩
        have h1 := HW.out; subst h2; rw [num.wd_up k' c hlt] at h1; omega
      case measure => simp [intOf]; omega
end Go.Proofs.Ytfkfamifgockgaa

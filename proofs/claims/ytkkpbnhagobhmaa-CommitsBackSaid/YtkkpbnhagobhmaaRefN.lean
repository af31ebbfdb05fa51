/- Contracts of the reference of chapter 1 (cordwainref1): Zig, Zag, Put. -/
import Derived.Test.YtkkpbnhagobhmaaNumP
namespace Go.Proofs.Ytkkpbnhagobhmaa
open Go.RowKit

set_option maxRecDepth 20000 in
set_option maxHeartbeats 400000 in
theorem num.refzig_any (n : Int) (w : World) (h1 : -9223372036854775808 ≤ n) (h2 : n ≤ 9223372036854775807) :
    Calls Try.prog 66 #[.int .i64 n] w fun e w' => e = .returned (.int .u64 (num.zig n)) ∧ w = w' := by
  by_cases h : n < 0
  · have d : decide (n < 0) = true := by simpa using h
    have e : num.zig n = -2 * n - 1 := by unfold num.zig; rw [if_neg (by omega)]
    go_enter Try.func66, Try.ntmps66
    go_wp2
    go_ret
    exact ⟨ret_num (by first | rfl | omega | (rw [e]; omega) | (simp only [IntKind.wrap_u64]; omega)), rfl⟩
  · have d : decide (n < 0) = false := by simpa using h
    have e : num.zig n = 2 * n := by unfold num.zig; rw [if_pos (by omega)]
    go_enter Try.func66, Try.ntmps66
    go_wp2
    go_ret
    exact ⟨ret_num (by first | rfl | omega | (rw [e]; omega) | (simp only [IntKind.wrap_u64]; omega)), rfl⟩

set_option maxRecDepth 20000 in
set_option maxHeartbeats 400000 in
theorem num.refzag_any (u : Int) (w : World) (h1 : 0 ≤ u) (h2 : u ≤ 18446744073709551615) :
    Calls Try.prog 59 #[.int .u64 u] w fun e w' => e = .returned (.int .i64 (num.zag u)) ∧ w = w' := by
  by_cases h : u % 2 = 1
  · have d : (u % 2 == 1) = true := by simpa using h
    have e : num.zag u = -(u / 2) - 1 := by unfold num.zag; rw [if_neg (by omega)]
    go_enter Try.func59, Try.ntmps59
    go_wp2
    go_ret
    exact ⟨ret_num (by first | rfl | omega | rw [e]), rfl⟩
  · have d : (u % 2 == 1) = false := by simpa using h
    have e : num.zag u = u / 2 := by unfold num.zag; rw [if_pos (by omega)]
    go_enter Try.func59, Try.ntmps59
    go_wp2
    go_ret
    exact ⟨ret_num (by first | rfl | omega | rw [e]), rfl⟩

set_option maxRecDepth 20000 in
set_option maxHeartbeats 800000 in
theorem num.refput_any (n : Int) (w : World) (h1 : -9223372036854775808 ≤ n) (h2 : n ≤ 9223372036854775807) :
    Calls Try.prog 47 #[.int .i64 n] w fun e w' => (∃ v, e = .returned v ∧ w'.ownsRow w.heap.size 5 1 v (num.put n).length (u8s (num.put n))) ∧ Below w.heap.size w w' := by
  obtain ⟨i0, hi, hz0, hz1, hz2⟩ := info_parts infoByte
  have hz := num.zig_bd n h1 h2
  have hwid := num.put_bd n
  rw [num.put_len] at hwid
  go_enter Try.func47, Try.ntmps47
  go_wp2_with fail
  refine (num.refzig_any n w h1 h2).mono ?_
  rintro e w' ⟨rfl, rfl⟩
  obtain ⟨u, hu⟩ := Int.eq_ofNat_of_zero_le hz.1
  have hpd : num.Pd n 9 u [] := ⟨by omega, by unfold num.put; rw [hu, Int.toNat_natCast]; rfl, rfl⟩
  have HPD := Lib.hid hpd; clear hpd
  have hu2 : (u : Int) ≤ 18446744073709551615 := by omega
  have HU := Lib.hid hu; clear hu
  go_wp2
  go_loopw [3, 4] (fun x v wr => ∃ (k c : Nat) (l : List Nat) (A : Option Addr) (cp : Nat), num.Pd n k c l ∧ (c : Int) ≤ 18446744073709551615 ∧ x = .int .u64 (c : Int) ∧ v = .slice A l.length cp ∧
      wr.ownsRow w.heap.size 5 1 v l.length (u8s l) ∧ Below w.heap.size w wr) (fun x _ _ => (intOf x).toNat)
  case atStart => exact ⟨9, u, [], none, 0, HPD.out, hu2, by rw [← HU.out], rfl, World.ownsRow_nil _ _ _ _, Below.refl _ _⟩
  case round =>
    obtain ⟨k, c, l, A, cp, hpd, hc, rfl, rfl, hown, hb⟩ := hrel
    obtain ⟨hk, hl, hlen⟩ := hpd
    have HK := Lib.hid hk; clear hk
    have HL := Lib.hid hl; clear hl
    have HOWN := Lib.hid hown; clear hown
    have HB := Lib.hid hb; clear hb
    have hlen2 : l.length ≤ 9 := by omega
    have HLEN := Lib.hid hlen; clear hlen
    clear hu2
    by_cases hlt : c < 128
    · have hc' : (c : Int) < 128 := by omega
      have hby : IntKind.u8.wrap (c : Int) = (c : Int) := by rw [IntKind.wrap_u8]; omega
      go_wp2_with (at_builtin; refine wpList_append_own _ rfl (.tmp 17) (.tmp 20) 35 rfl w.heap.size 5 i0 _ 1 1 Try.underlying35 hi hz0 hz1 hz2 rfl (by decide) _ _ _ rfl (HOWN.out.alloc _) ⟨wr.heap.size, 0, none⟩ 1 1 [.int .u8 (c : Int)] rfl rfl (World.news_of_block (cs := #[.int .u8 (c : Int)]) (t := 5) (fr := (0, 0)) (heap_alloc_new wr _)) (by simp [Value.oneCell']) (by unfold maxLen; omega) (by omega) (by have := HB.out.size; simp; omega) ?_; intro v' w2 hown2 hg2 _)
      have hb2 : Below w.heap.size w w2 := (HB.out.alloc HB.out.size _).grown hg2 (by have := HB.out.size; simp; omega) (fun g hg => (HOWN.out.lt g hg).1)
      have hpp : l ++ [c] = num.put n := by have := HL.out; rw [num.dg_low k c hlt] at this; exact this
      have hown3 : w2.ownsRow w.heap.size 5 1 v' (num.put n).length (u8s (num.put n)) := by
        rw [← hpp, u8s_append, List.length_append]; exact hown2
      have HB2 := Lib.hid hb2; clear hb2
      have HOWN3 := Lib.hid hown3; clear hown3
      clear hown2 hg2 hpp
      go_wp2
      go_ret
      exact ⟨⟨_, rfl, HOWN3.out⟩, HB2.out⟩
    · have hc' : ¬ (c : Int) < 128 := by omega
      obtain ⟨k', hk', hl'⟩ := num.less HK.out hlt
      have HK' := Lib.hid hk'; clear hk'
      have HL' := Lib.hid hl'; clear hl'
      have hby := num.low8 c
      go_wp2_with (at_builtin; refine wpList_append_own _ rfl (.tmp 9) (.tmp 13) 35 rfl w.heap.size 5 i0 _ 1 1 Try.underlying35 hi hz0 hz1 hz2 rfl (by decide) _ _ _ rfl (HOWN.out.alloc _) ⟨wr.heap.size, 0, none⟩ 1 1 [.int .u8 ((c : Int) % 128 + 128)] rfl rfl (World.news_of_block (cs := #[.int .u8 ((c : Int) % 128 + 128)]) (t := 5) (fr := (0, 0)) (heap_alloc_new wr _)) (by simp [Value.oneCell']) (by unfold maxLen; omega) (by omega) (by have := HB.out.size; simp; omega) ?_; intro v' w2 hown2 hg2 _)
      have hb2 : Below w.heap.size w w2 := (HB.out.alloc HB.out.size _).grown hg2 (by have := HB.out.size; simp; omega) (fun g hg => (HOWN.out.lt g hg).1)
      have HB2 := Lib.hid hb2; clear hb2
      obtain ⟨A2, c2, rfl, _, _⟩ := own_at hown2
      have HOWN2 := Lib.hid hown2; clear hown2
      clear hg2 hby
      go_wp2
      go_roundw
      case rel =>
        have h1 := HK'.out
        subst h1
        refine ⟨k', c / 128, l ++ [c % 128 + 128], A2, c2, ⟨HL'.out, ?_, ?_⟩, by omega, by go_num, by simp, ?_, HB2.out⟩
        · have := HL.out; rw [num.dg_up k' c hlt] at this; simpa using this
        · have := HLEN.out; simp; omega
        · have e : Value.int .u8 ((c : Int) % 128 + 128) = .int .u8 ((c % 128 + 128 : Nat) : Int) := num_eq (by omega)
          have h4 := HOWN2.out
          rw [e] at h4
          rw [u8s_append, List.length_append]; exact h4
      case measure => simp [intOf]; omega
end Go.Proofs.Ytkkpbnhagobhmaa

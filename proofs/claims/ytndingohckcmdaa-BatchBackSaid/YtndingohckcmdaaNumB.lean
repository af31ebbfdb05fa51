/- Contract of num.Put. -/
import Derived.Test.YtndingohckcmdaaNumA
import Derived.Test.YtndingohckcmdaaByte
import Derived.OwnWalk
import Derived.Deep.AppendLies
namespace Go.Proofs.Ytndingohckcmdaa
open Go.RowKit

theorem num.or128 (y : Nat) (h : y < 256) : bits .or .u8 (y : Int) 128 = ((y % 128 + 128 : Nat) : Int) := by
  have : ∀ y : Fin 256, bits .or .u8 ((y.val : Nat) : Int) 128 = ((y.val % 128 + 128 : Nat) : Int) := by decide +kernel
  exact this ⟨y, h⟩
theorem num.low8 (c : Nat) : bits .or .u8 ((c : Int) % 256) 128 = (c : Int) % 128 + 128 := by
  rw [show ((c : Int) % 256) = ((c % 256 : Nat) : Int) by omega, num.or128 _ (by omega), show c % 256 % 128 = c % 128 by omega]
  omega
/-- The bytes of a number. -/
def num.put (n : Int) : List Nat := num.dg 9 (num.zig n).toNat
theorem num.put_len (n : Int) : (num.put n).length = num.wid (num.zig n).toNat := num.dg_len _ _
theorem num.put_bd (n : Int) : 1 ≤ (num.put n).length ∧ (num.put n).length ≤ 10 := by rw [num.put_len]; have := num.wd_le 9 (num.zig n).toNat; unfold num.wid; omega

/-- The rounds of Put: so many bytes stand, c is left. -/
def num.Pd (n : Int) (k c : Nat) (l : List Nat) : Prop := c < 2 * 128 ^ k ∧ l ++ num.dg k c = num.put n ∧ l.length + k = 9

set_option maxRecDepth 20000 in
set_option maxHeartbeats 800000 in
theorem num.put_any (n : Int) (w : World) (h1 : -9223372036854775808 ≤ n) (h2 : n ≤ 9223372036854775807) :
    Calls Try.prog 61 #[.int .i64 n] w fun e w' => (∃ v, e = .returned v ∧ w'.ownsRow w.heap.size 5 1 v (num.put n).length (u8s (num.put n))) ∧ Below w.heap.size w w' := by
  obtain ⟨i0, hi, hz0, hz1, hz2⟩ := info_parts infoByte
  have hz := num.zig_bd n h1 h2
  have hwid := num.put_bd n
  rw [num.put_len] at hwid
  go_enter Try.func61, Try.ntmps61
  go_wp2_with fail
  refine (num.zig_any n w h1 h2).mono ?_
  rintro e w' ⟨rfl, rfl⟩
  go_wp2_with fail
  refine (num.width_any _ w hz.1 hz.2).mono ?_
  rintro e w' ⟨rfl, rfl⟩
  obtain ⟨u, hu⟩ := Int.eq_ofNat_of_zero_le hz.1
  have hpd : num.Pd n 9 u [] := ⟨by omega, by unfold num.put; rw [hu, Int.toNat_natCast]; rfl, rfl⟩
  have HPD := Lib.hid hpd; clear hpd
  have hu2 : (u : Int) ≤ 18446744073709551615 := by omega
  have HU := Lib.hid hu; clear hu
  go_wp2_with (at_make; refine wpList_make_own _ rfl _ _ 27 rfl w.heap.size 5 i0 _ 1 Try.underlying27 hi hz0 hz1 .i64 .i64 _ (num.wid (num.zig n).toNat) rfl rfl rfl (by rw [hz2]; omega) (by unfold maxLen; omega) (Nat.le_refl _) ?_; intro w1 hown1 hg1)
  have hb1 : Below w.heap.size w w1 := (Below.refl _ _).grown hg1 (Nat.le_refl _) (fun k hk => by cases hk)
  clear hg1
  have HOWN1 := Lib.hid hown1; clear hown1
  have HB1 := Lib.hid hb1; clear hb1
  go_loopw [3, 4] (fun x v wr => ∃ (k c : Nat) (l : List Nat) (A : Option Addr) (cp : Nat), num.Pd n k c l ∧ (c : Int) ≤ 18446744073709551615 ∧ x = .int .u64 (c : Int) ∧ v = .slice A l.length cp ∧
      wr.ownsRow w.heap.size 5 1 v l.length (u8s l) ∧ Below w.heap.size w wr) (fun x _ _ => (intOf x).toNat)
  case atStart => exact ⟨9, u, [], some ⟨w.heap.size, 0, none⟩, num.wid (num.zig n).toNat, HPD.out, hu2, by rw [← HU.out], rfl, HOWN1.out, HB1.out⟩
  case round =>
    obtain ⟨k, c, l, A, cp, hpd, hc, rfl, rfl, hown, hb⟩ := hrel
    obtain ⟨hk, hl, hlen⟩ := hpd
    have HK := Lib.hid hk; clear hk
    have HL := Lib.hid hl; clear hl
    have HOWN := Lib.hid hown; clear hown
    have HB := Lib.hid hb; clear hb
    have hlen2 : l.length ≤ 9 := by omega
    have HLEN := Lib.hid hlen; clear hlen
    clear hu2
    by_cases hlt : c < 128
    · have hc' : (c : Int) < 128 := by omega
      have hby : IntKind.u8.wrap (c : Int) = (c : Int) := by rw [IntKind.wrap_u8]; omega
      go_wp2_with (at_builtin; refine wpList_append_own _ rfl (.tmp 20) (.tmp 23) 27 rfl w.heap.size 5 i0 _ 1 1 Try.underlying27 hi hz0 hz1 hz2 rfl (by decide) _ _ _ rfl (HOWN.out.alloc _) ⟨wr.heap.size, 0, none⟩ 1 1 [.int .u8 (c : Int)] rfl rfl (World.news_of_block (cs := #[.int .u8 (c : Int)]) (t := 5) (fr := (0, 0)) (heap_alloc_new wr _)) (by simp [Value.oneCell']) (by unfold maxLen; omega) (by omega) (by have := HB.out.size; simp; omega) ?_; intro v' w2 hown2 hg2 _)
      have hb2 : Below w.heap.size w w2 := (HB.out.alloc HB.out.size _).grown hg2 (by have := HB.out.size; simp; omega) (fun g hg => (HOWN.out.lt g hg).1)
      have hpp : l ++ [c] = num.put n := by have := HL.out; rw [num.dg_low k c hlt] at this; exact this
      have hown3 : w2.ownsRow w.heap.size 5 1 v' (num.put n).length (u8s (num.put n)) := by
        rw [← hpp, u8s_append, List.length_append]; exact hown2
      have HB2 := Lib.hid hb2; clear hb2
      have HOWN3 := Lib.hid hown3; clear hown3
      clear hown2 hg2 hpp
      go_wp2
      go_ret
      exact ⟨⟨_, rfl, HOWN3.out⟩, HB2.out⟩
    · have hc' : ¬ (c : Int) < 128 := by omega
      obtain ⟨k', hk', hl'⟩ := num.less HK.out hlt
      have HK' := Lib.hid hk'; clear hk'
      have HL' := Lib.hid hl'; clear hl'
      have hby := num.low8 c
      go_wp2_with (at_builtin; refine wpList_append_own _ rfl (.tmp 12) (.tmp 16) 27 rfl w.heap.size 5 i0 _ 1 1 Try.underlying27 hi hz0 hz1 hz2 rfl (by decide) _ _ _ rfl (HOWN.out.alloc _) ⟨wr.heap.size, 0, none⟩ 1 1 [.int .u8 ((c : Int) % 128 + 128)] rfl rfl (World.news_of_block (cs := #[.int .u8 ((c : Int) % 128 + 128)]) (t := 5) (fr := (0, 0)) (heap_alloc_new wr _)) (by simp [Value.oneCell']) (by unfold maxLen; omega) (by omega) (by have := HB.out.size; simp; omega) ?_; intro v' w2 hown2 hg2 _)
      have hb2 : Below w.heap.size w w2 := (HB.out.alloc HB.out.size _).grown hg2 (by have := HB.out.size; simp; omega) (fun g hg => (HOWN.out.lt g hg).1)
      have HB2 := Lib.hid hb2; clear hb2
      obtain ⟨A2, c2, rfl, _, _⟩ := own_at hown2
      have HOWN2 := Lib.hid hown2; clear hown2
      clear hg2 hby
      go_wp2
      go_roundw
      case rel =>
        have h1 := HK'.out
        subst h1
        refine ⟨k', c / 128, l ++ [c % 128 + 128], A2, c2, ⟨HL'.out, ?_, ?_⟩, by omega, by go_num, by simp, ?_, HB2.out⟩
        · have := HL.out; rw [num.dg_up k' c hlt] at this; simpa using this
        · have := HLEN.out; simp; omega
        · have e : Value.int .u8 ((c : Int) % 128 + 128) = .int .u8 ((c % 128 + 128 : Nat) : Int) := num_eq (by omega)
          have h4 := HOWN2.out
          rw [e] at h4
          rw [u8s_append, List.length_append]; exact h4
      case measure => simp [intOf]; omega
end Go.Proofs.Ytndingohckcmdaa

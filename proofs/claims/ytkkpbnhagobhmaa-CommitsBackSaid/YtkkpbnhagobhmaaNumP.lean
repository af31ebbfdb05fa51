/- What num.get says of what num.put wrote: plain numbers and lists. -/
import Derived.Test.YtkkpbnhagobhmaaProg
import Derived.Test.YtkkpbnhagobhmaaKit
import Derived.Test.YtkkpbnhagobhmaaApp2
import Derived.WalkLawsBesides
import Derived.Laws.BitsAllLaws
import Derived.Laws.BitsLemmas
import Derived.Outline
import Derived.Test.YtkkpbnhagobhmaaByte
import Derived.OwnWalk
import Derived.Deep.AppendLies
namespace Go.Proofs.Ytkkpbnhagobhmaa
open Go.RowKit

def num.zig (n : Int) : Int := if 0 ≤ n then 2 * n else -2 * n - 1
def num.zag (u : Int) : Int := if u % 2 = 0 then u / 2 else -(u / 2) - 1

theorem num.ones : BitVec.ofInt 64 18446744073709551615 = BitVec.allOnes 64 := by decide
theorem num.ones' : BitVec.ofInt 64 (-1) = BitVec.allOnes 64 := by decide
theorem num.ofInt_nat (a : Nat) (ha : a < 18446744073709551616) : (BitVec.ofInt 64 (a : Int)).toNat = a := by
  rw [BitVec.ofInt_natCast, BitVec.toNat_ofNat]; exact Nat.mod_eq_of_lt (by omega)

theorem num.zig_eq (n : Int) (h1 : -9223372036854775808 ≤ n) (h2 : n ≤ 9223372036854775807) :
    bits .xor .u64 (IntKind.u64.wrap (IntKind.u64.wrap n * 2)) (IntKind.u64.wrap (n / 9223372036854775808)) = num.zig n := by
  unfold num.zig
  by_cases h : 0 ≤ n
  · rw [if_pos h, show n / 9223372036854775808 = 0 by omega]
    obtain ⟨m, rfl⟩ := Int.eq_ofNat_of_zero_le h
    rw [IntKind.wrap_u64, IntKind.wrap_u64, IntKind.wrap_u64, show ((m : Int) % 18446744073709551616 * 2) % 18446744073709551616 = ((2 * m : Nat) : Int) by omega, show ((0 : Int) % 18446744073709551616) = ((0 : Nat) : Int) by omega,
      bits_xor_u64_nat _ _ (by omega) (by omega), Nat.xor_zero]
    omega
  · rw [if_neg h, show n / 9223372036854775808 = -1 by omega]
    rw [IntKind.wrap_u64, IntKind.wrap_u64, IntKind.wrap_u64, show ((-1 : Int) % 18446744073709551616) = 18446744073709551615 by omega]
    have hx : (n % 18446744073709551616 * 2) % 18446744073709551616 = (((n % 18446744073709551616 * 2) % 18446744073709551616).toNat : Int) := by omega
    rw [hx]
    show IntKind.u64.wrap ((BitVec.ofInt 64 _ ^^^ BitVec.ofInt 64 18446744073709551615).toNat : Int) = _
    rw [num.ones, BitVec.xor_allOnes, BitVec.toNat_not, num.ofInt_nat _ (by omega), IntKind.wrap_u64]
    omega

theorem num.and1 (u : Int) (h1 : 0 ≤ u) (h2 : u ≤ 18446744073709551615) : bits .and .u64 u 1 = u % 2 :=
  bits_mask .u64 64 (by decide) (fun n h0 h => by rw [IntKind.wrap_u64]; omega) 1 (by decide) u h1 (by omega)

theorem num.zag_eq (u : Int) (h1 : 0 ≤ u) (h2 : u ≤ 18446744073709551615) :
    bits .xor .i64 (u / 2) (wrap64 (-wrap64 (bits .and .u64 u 1))) = num.zag u := by
  rw [num.and1 u h1 h2]
  unfold num.zag wrap64
  have hx : u / 2 = ((u / 2).toNat : Int) := by omega
  by_cases h : u % 2 = 0
  · rw [if_pos h, h, show (((-((0 + 9223372036854775808) % 18446744073709551616 - 9223372036854775808) + 9223372036854775808) % 18446744073709551616 - 9223372036854775808) : Int) = ((0 : Nat) : Int) by omega, hx]
    show IntKind.i64.wrap ((BitVec.ofInt 64 _ ^^^ BitVec.ofInt 64 _).toNat : Int) = _
    rw [BitVec.toNat_xor, num.ofInt_nat _ (by omega), num.ofInt_nat _ (by omega), Nat.xor_zero, IntKind.wrap_i64]
    omega
  · rw [if_neg h, show u % 2 = 1 by omega, show (((-((1 + 9223372036854775808) % 18446744073709551616 - 9223372036854775808) + 9223372036854775808) % 18446744073709551616 - 9223372036854775808) : Int) = -1 by omega, hx]
    show IntKind.i64.wrap ((BitVec.ofInt 64 _ ^^^ BitVec.ofInt 64 (-1)).toNat : Int) = _
    rw [num.ones', BitVec.xor_allOnes, BitVec.toNat_not, num.ofInt_nat _ (by omega), IntKind.wrap_i64]
    omega

theorem num.zig_bd (n : Int) (h1 : -9223372036854775808 ≤ n) (h2 : n ≤ 9223372036854775807) : 0 ≤ num.zig n ∧ num.zig n ≤ 18446744073709551615 := by unfold num.zig; split <;> omega
theorem num.zag_zig (n : Int) : num.zag (num.zig n) = n := by unfold num.zig num.zag; split <;> split <;> omega

set_option maxHeartbeats 400000 in
theorem num.zig_any (n : Int) (w : World) (h1 : -9223372036854775808 ≤ n) (h2 : n ≤ 9223372036854775807) :
    Calls Try.prog 87 #[.int .i64 n] w fun e w' => e = .returned (.int .u64 (num.zig n)) ∧ w = w' := by
  go_enter Try.func87, Try.ntmps87
  go_wp2
  go_ret
  exact ⟨ret_num (num.zig_eq n h1 h2), rfl⟩
set_option maxHeartbeats 400000 in
theorem num.zag_any (u : Int) (w : World) (h1 : 0 ≤ u) (h2 : u ≤ 18446744073709551615) :
    Calls Try.prog 81 #[.int .u64 u] w fun e w' => e = .returned (.int .i64 (num.zag u)) ∧ w = w' := by
  go_enter Try.func81, Try.ntmps81
  go_wp2
  go_ret
  exact ⟨ret_num (num.zag_eq u h1 h2), rfl⟩

/-- How many digits of seven bits, k more than one at most. -/
def num.wd : Nat → Nat → Nat
  | 0, _ => 1
  | k + 1, u => if u < 128 then 1 else num.wd k (u / 128) + 1
theorem num.wd_low (k u : Nat) (h : u < 128) : num.wd k u = 1 := by cases k <;> simp [num.wd, h]
theorem num.wd_up (k u : Nat) (h : ¬ u < 128) : num.wd (k + 1) u = num.wd k (u / 128) + 1 := by rw [num.wd, if_neg h]
theorem num.wd_le (k u : Nat) : 1 ≤ num.wd k u ∧ num.wd k u ≤ k + 1 := by
  induction k generalizing u with
  | zero => simp [num.wd]
  | succ k ih => rw [num.wd]; have := ih (u / 128); split <;> omega
theorem num.wd_mono (k a b : Nat) (h : a ≤ b) : num.wd k a ≤ num.wd k b := by
  induction k generalizing a b with
  | zero => simp [num.wd]
  | succ k ih =>
    have := ih (a / 128) (b / 128) (Nat.div_le_div_right h)
    have := num.wd_le k (b / 128)
    rw [num.wd, num.wd]; split <;> split <;> omega

/-- How many bytes a number has. -/
def num.wid (u : Nat) : Nat := num.wd 9 u
/-- The rounds of the loop over its digits: c is left, d bytes are counted. -/
def num.Rd (u k c d : Nat) : Prop := c < 2 * 128 ^ k ∧ d + num.wd k c = num.wid u + 1 ∧ d + k = 10
/-- What is left of a number stays small. -/
theorem num.less {u k : Nat} (h : u < 2 * 128 ^ k) (hu : ¬ u < 128) : ∃ k', k = k' + 1 ∧ u / 128 < 2 * 128 ^ k' := by
  cases k with
  | zero => simp at h; omega
  | succ k' => exact ⟨k', rfl, by rw [Nat.pow_succ] at h; omega⟩

set_option maxRecDepth 20000 in
set_option maxHeartbeats 400000 in
theorem num.width_any (x : Int) (w : World) (h0 : 0 ≤ x) (h : x ≤ 18446744073709551615) :
    Calls Try.prog 88 #[.int .u64 x] w fun e w' => e = .returned (.int .i64 (num.wid x.toNat : Nat)) ∧ w = w' := by
  obtain ⟨u, rfl⟩ := Int.eq_ofNat_of_zero_le h0
  rw [Int.toNat_natCast]
  go_enter Try.func88, Try.ntmps88
  go_wp2
  go_loop [0, 3] (fun x b => ∃ (k c d : Nat), num.Rd u k c d ∧ (c : Int) ≤ 18446744073709551615 ∧ d ≤ 10 ∧ x = .int .u64 (c : Int) ∧ b = .int .i64 (d : Int)) (fun x _ => (intOf x).toNat)
  case atStart => exact ⟨9, u, 1, ⟨by omega, by unfold num.wid; omega, rfl⟩, by omega, by omega, rfl, rfl⟩
  case round =>
    obtain ⟨k, c, d, ⟨hk, hw, hd⟩, hc, hd2, rfl, rfl⟩ := hrel
    have HK := Lib.hid hk; clear hk
    have HW := Lib.hid hw; clear hw
    have HD := Lib.hid hd; clear hd
    by_cases hlt : c < 128
    · have hc' : (c : Int) < 128 := by omega
      clear h h0
      clear hc
      have HLT := Lib.hid hlt; clear hlt
      go_wp2
      go_ret
      exact ⟨ret_num (by have := HW.out; rw [num.wd_low k c HLT.out] at this; omega), rfl⟩
    · have hc' : ¬ (c : Int) < 128 := by omega
      obtain ⟨k', hk', hl⟩ := num.less HK.out hlt
      have HK' := Lib.hid hk'; clear hk'
      have HL := Lib.hid hl; clear hl
      go_wp2
      go_round
      case rel =>
        have h3 := HD.out
        have h2 := HK'.out
        refine ⟨k', c / 128, d + 1, ⟨HL.out, ?_, by omega⟩, by omega, by omega, by go_num, by go_num⟩
        have h1 := HW.out; subst h2; rw [num.wd_up k' c hlt] at h1; omega
      case measure => simp [intOf]; omega

/-- The digits, the low ones first. -/
def num.dg : Nat → Nat → List Nat
  | 0, u => [u]
  | k + 1, u => if u < 128 then [u] else (u % 128 + 128) :: num.dg k (u / 128)
theorem num.dg_low (k u : Nat) (h : u < 128) : num.dg k u = [u] := by cases k <;> simp [num.dg, h]
theorem num.dg_up (k u : Nat) (h : ¬ u < 128) : num.dg (k + 1) u = (u % 128 + 128) :: num.dg k (u / 128) := by rw [num.dg, if_neg h]
theorem num.dg_len (k u : Nat) : (num.dg k u).length = num.wd k u := by
  induction k generalizing u with
  | zero => rfl
  | succ k ih => rw [num.dg, num.wd]; split <;> simp [ih]

theorem num.or128 (y : Nat) (h : y < 256) : bits .or .u8 (y : Int) 128 = ((y % 128 + 128 : Nat) : Int) := by
  have : ∀ y : Fin 256, bits .or .u8 ((y.val : Nat) : Int) 128 = ((y.val % 128 + 128 : Nat) : Int) := by decide +kernel
  exact this ⟨y, h⟩
theorem num.low8 (c : Nat) : bits .or .u8 ((c : Int) % 256) 128 = (c : Int) % 128 + 128 := by
  rw [show ((c : Int) % 256) = ((c % 256 : Nat) : Int) by omega, num.or128 _ (by omega), show c % 256 % 128 = c % 128 by omega]
  omega
/-- The bytes of a number. -/
def num.put (n : Int) : List Nat := num.dg 9 (num.zig n).toNat
theorem num.put_len (n : Int) : (num.put n).length = num.wid (num.zig n).toNat := num.dg_len _ _
theorem num.put_bd (n : Int) : 1 ≤ (num.put n).length ∧ (num.put n).length ≤ 10 := by rw [num.put_len]; have := num.wd_le 9 (num.zig n).toNat; unfold num.wid; omega

/-- The rounds of Put: so many bytes stand, c is left. -/
def num.Pd (n : Int) (k c : Nat) (l : List Nat) : Prop := c < 2 * 128 ^ k ∧ l ++ num.dg k c = num.put n ∧ l.length + k = 9

set_option maxRecDepth 20000 in
set_option maxHeartbeats 800000 in
theorem num.put_any (n : Int) (w : World) (h1 : -9223372036854775808 ≤ n) (h2 : n ≤ 9223372036854775807) :
    Calls Try.prog 80 #[.int .i64 n] w fun e w' => (∃ v, e = .returned v ∧ w'.ownsRow w.heap.size 5 1 v (num.put n).length (u8s (num.put n))) ∧ Below w.heap.size w w' := by
  obtain ⟨i0, hi, hz0, hz1, hz2⟩ := info_parts infoByte
  have hz := num.zig_bd n h1 h2
  have hwid := num.put_bd n
  rw [num.put_len] at hwid
  go_enter Try.func80, Try.ntmps80
  go_wp2_with fail
  refine (num.zig_any n w h1 h2).mono ?_
  rintro e w' ⟨rfl, rfl⟩
  go_wp2_with fail
  refine (num.width_any _ w hz.1 hz.2).mono ?_
  rintro e w' ⟨rfl, rfl⟩
  obtain ⟨u, hu⟩ := Int.eq_ofNat_of_zero_le hz.1
  have hpd : num.Pd n 9 u [] := ⟨by omega, by unfold num.put; rw [hu, Int.toNat_natCast]; rfl, rfl⟩
  have HPD := Lib.hid hpd; clear hpd
  have hu2 : (u : Int) ≤ 18446744073709551615 := by omega
  have HU := Lib.hid hu; clear hu
  go_wp2_with (at_make; refine wpList_make_own _ rfl _ _ 35 rfl w.heap.size 5 i0 _ 1 Try.underlying35 hi hz0 hz1 .i64 .i64 _ (num.wid (num.zig n).toNat) rfl rfl rfl (by rw [hz2]; omega) (by unfold maxLen; omega) (Nat.le_refl _) ?_; intro w1 hown1 hg1)
  have hb1 : Below w.heap.size w w1 := (Below.refl _ _).grown hg1 (Nat.le_refl _) (fun k hk => by cases hk)
  clear hg1
  have HOWN1 := Lib.hid hown1; clear hown1
  have HB1 := Lib.hid hb1; clear hb1
  go_loopw [3, 4] (fun x v wr => ∃ (k c : Nat) (l : List Nat) (A : Option Addr) (cp : Nat), num.Pd n k c l ∧ (c : Int) ≤ 18446744073709551615 ∧ x = .int .u64 (c : Int) ∧ v = .slice A l.length cp ∧
      wr.ownsRow w.heap.size 5 1 v l.length (u8s l) ∧ Below w.heap.size w wr) (fun x _ _ => (intOf x).toNat)
  case atStart => exact ⟨9, u, [], some ⟨w.heap.size, 0, none⟩, num.wid (num.zig n).toNat, HPD.out, hu2, by rw [← HU.out], rfl, HOWN1.out, HB1.out⟩
  case round =>
    obtain ⟨k, c, l, A, cp, hpd, hc, rfl, rfl, hown, hb⟩ := hrel
    obtain ⟨hk, hl, hlen⟩ := hpd
    have HK := Lib.hid hk; clear hk
    have HL := Lib.hid hl; clear hl
    have HOWN := Lib.hid hown; clear hown
    have HB := Lib.hid hb; clear hb
    have hlen2 : l.length ≤ 9 := by omega
    have HLEN := Lib.hid hlen; clear hlen
    clear hu2
    by_cases hlt : c < 128
    · have hc' : (c : Int) < 128 := by omega
      have hby : IntKind.u8.wrap (c : Int) = (c : Int) := by rw [IntKind.wrap_u8]; omega
      go_wp2_with (at_builtin; refine wpList_append_own _ rfl (.tmp 20) (.tmp 23) 35 rfl w.heap.size 5 i0 _ 1 1 Try.underlying35 hi hz0 hz1 hz2 rfl (by decide) _ _ _ rfl (HOWN.out.alloc _) ⟨wr.heap.size, 0, none⟩ 1 1 [.int .u8 (c : Int)] rfl rfl (World.news_of_block (cs := #[.int .u8 (c : Int)]) (t := 5) (fr := (0, 0)) (heap_alloc_new wr _)) (by simp [Value.oneCell']) (by unfold maxLen; omega) (by omega) (by have := HB.out.size; simp; omega) ?_; intro v' w2 hown2 hg2 _)
      have hb2 : Below w.heap.size w w2 := (HB.out.alloc HB.out.size _).grown hg2 (by have := HB.out.size; simp; omega) (fun g hg => (HOWN.out.lt g hg).1)
      have hpp : l ++ [c] = num.put n := by have := HL.out; rw [num.dg_low k c hlt] at this; exact this
      have hown3 : w2.ownsRow w.heap.size 5 1 v' (num.put n).length (u8s (num.put n)) := by
        rw [← hpp, u8s_append, List.length_append]; exact hown2
      have HB2 := Lib.hid hb2; clear hb2
      have HOWN3 := Lib.hid hown3; clear hown3
      clear hown2 hg2 hpp
      go_wp2
      go_ret
      exact ⟨⟨_, rfl, HOWN3.out⟩, HB2.out⟩
    · have hc' : ¬ (c : Int) < 128 := by omega
      obtain ⟨k', hk', hl'⟩ := num.less HK.out hlt
      have HK' := Lib.hid hk'; clear hk'
      have HL' := Lib.hid hl'; clear hl'
      have hby := num.low8 c
      go_wp2_with (at_builtin; refine wpList_append_own _ rfl (.tmp 12) (.tmp 16) 35 rfl w.heap.size 5 i0 _ 1 1 Try.underlying35 hi hz0 hz1 hz2 rfl (by decide) _ _ _ rfl (HOWN.out.alloc _) ⟨wr.heap.size, 0, none⟩ 1 1 [.int .u8 ((c : Int) % 128 + 128)] rfl rfl (World.news_of_block (cs := #[.int .u8 ((c : Int) % 128 + 128)]) (t := 5) (fr := (0, 0)) (heap_alloc_new wr _)) (by simp [Value.oneCell']) (by unfold maxLen; omega) (by omega) (by have := HB.out.size; simp; omega) ?_; intro v' w2 hown2 hg2 _)
      have hb2 : Below w.heap.size w w2 := (HB.out.alloc HB.out.size _).grown hg2 (by have := HB.out.size; simp; omega) (fun g hg => (HOWN.out.lt g hg).1)
      have HB2 := Lib.hid hb2; clear hb2
      obtain ⟨A2, c2, rfl, _, _⟩ := own_at hown2
      have HOWN2 := Lib.hid hown2; clear hown2
      clear hg2 hby
      go_wp2
      go_roundw
      case rel =>
        have h1 := HK'.out
        subst h1
        refine ⟨k', c / 128, l ++ [c % 128 + 128], A2, c2, ⟨HL'.out, ?_, ?_⟩, by omega, by go_num, by simp, ?_, HB2.out⟩
        · have := HL.out; rw [num.dg_up k' c hlt] at this; simpa using this
        · have := HLEN.out; simp; omega
        · have e : Value.int .u8 ((c : Int) % 128 + 128) = .int .u8 ((c % 128 + 128 : Nat) : Int) := num_eq (by omega)
          have h4 := HOWN2.out
          rw [e] at h4
          rw [u8s_append, List.length_append]; exact h4
      case measure => simp [intOf]; omega

/-- What bytes begin with: the number as it stands, and how many bytes it has. -/
def num.gt (bs : Nat → Nat) (n : Nat) : Nat → Nat → Nat → Option (Nat × Nat)
  | 0, _, _ => none
  | k + 1, i, u =>
    if n ≤ i then none
    else if i = 9 ∧ 1 < bs i % 128 then none
    else if 128 ≤ bs i then num.gt bs n k (i + 1) (u + bs i % 128 * 128 ^ i)
    else if bs i = 0 ∧ 0 < i then none
    else some (u + bs i % 128 * 128 ^ i, i + 1)
def num.get (bs : Nat → Nat) (n : Nat) : Option (Nat × Nat) := num.gt bs n 10 0 0
def num.res : Option (Nat × Nat) → Value
  | none => .tuple #[.int .i64 0, .int .i64 0, .int .i64 2]
  | some (u, k) => .tuple #[.int .i64 (num.zag u), .int .i64 (k : Int), .int .i64 0]

/-- bytes of a list, read -/
def num.getL (L : List Nat) : Option (Nat × Nat) := num.get (fun j => L.getD j 0) L.length
theorem num.and127 (y : Nat) (h : y < 256) : bits .and .u8 (y : Int) 127 = (y : Int) % 128 := by
  have : ∀ y : Fin 256, bits .and .u8 ((y.val : Nat) : Int) 127 = ((y.val : Nat) : Int) % 128 := by decide +kernel
  exact this ⟨y, h⟩

theorem num.top (u y k : Nat) (hu : u < 128 ^ k) (hk : k ≤ 9) (h : ¬ (k = 9 ∧ 1 < y % 128)) : y % 128 * 128 ^ k + u < 18446744073709551616 ∧ u + y % 128 * 128 ^ k < 2 * 128 ^ 9 := by
  by_cases e : k = 9
  · subst e
    have h1 : y % 128 ≤ 1 := by omega
    have : y % 128 * 128 ^ 9 ≤ 1 * 128 ^ 9 := Nat.mul_le_mul_right _ h1
    omega
  · have h1 : 128 ^ k ≤ 128 ^ 8 := Nat.pow_le_pow_right (by omega) (by omega)
    have h2 : y % 128 * 128 ^ k ≤ 127 * 128 ^ 8 := Nat.mul_le_mul (by omega) h1
    omega
theorem num.pow7 (k : Nat) : (2 : Nat) ^ (7 * k) = 128 ^ k := by rw [Nat.pow_mul]
theorem num.or_shift (u y k : Nat) (hu : u < 128 ^ k) (hk : k ≤ 9) (h : ¬ (k = 9 ∧ 1 < y % 128)) :
    bits .or .u64 (u : Int) (IntKind.u64.wrap ((y : Int) % 128 * 2 ^ (7 * k))) = ((u + y % 128 * 128 ^ k : Nat) : Int) := by
  obtain ⟨ht, _⟩ := num.top u y k hu hk h
  have e : ((y : Int) % 128 * 2 ^ (7 * k)) = ((y % 128 * 128 ^ k : Nat) : Int) := by
    rw [← num.pow7]; push_cast; rfl
  have e2 : IntKind.u64.wrap ((y % 128 * 128 ^ k : Nat) : Int) = ((y % 128 * 128 ^ k : Nat) : Int) := by rw [IntKind.wrap_u64]; omega
  rw [e, e2, bits_or_u64_nat _ _ (by omega) (by omega)]
  have hp := Nat.two_pow_add_eq_or_of_lt (i := 7 * k) (b := u) (by rw [num.pow7]; exact hu) (y % 128)
  rw [num.pow7, Nat.mul_comm (128 ^ k)] at hp
  rw [Nat.or_comm, ← hp, Nat.add_comm]

/-- The rounds: so many bytes are read, u is what they make. -/
def num.Gd (bs : Nat → Nat) (n i u : Nat) : Prop := u < 128 ^ i ∧ num.gt bs n (10 - i) i u = num.get bs n

set_option maxRecDepth 20000 in
set_option maxHeartbeats 1000000 in
theorem num.get_any (A : Option Addr) (n c : Nat) (bs : Nat → Nat) (w : World) (hn : n ≤ 9223372036854775807) (hat : At w A n (fun j => .int .u8 (bs j : Int))) (hbs : ∀ j, j < n → bs j < 256) :
    Calls Try.prog 72 #[.slice A n c] w fun e w' => e = .returned (num.res (num.get bs n)) ∧ w = w' := by
  have HAT := Lib.hid hat; clear hat
  have HBS := Lib.hid hbs; clear hbs
  by_cases hn10 : n ≤ 10
  all_goals
    go_enter Try.func72, Try.ntmps72
    go_wp2
    go_loop [5, 11] (fun x i => ∃ (k u : Nat), k ≤ n ∧ k ≤ 10 ∧ i = .int .i64 (k : Int) ∧ x = .int .u64 (u : Int) ∧ (u : Int) ≤ 18446744073709551615 ∧ num.Gd bs n k u) (fun _ i => 10 - (intOf i).toNat)
    case atStart => exact ⟨0, 0, by omega, by omega, rfl, rfl, by omega, by omega, rfl⟩
    case round =>
      obtain ⟨k, u, hkn, hk10, rfl, rfl, hu, hgd⟩ := hrel
      have HGD := Lib.hid hgd; clear hgd
      by_cases hlt : k < n ∧ k < 10
      · obtain ⟨l1, l2⟩ := hlt
        obtain ⟨b, off, rfl, hbb, hc⟩ := HAT.out (by omega)
        obtain ⟨y, hy⟩ : ∃ y, y = bs k := ⟨_, rfl⟩
        have hc1 : w.cell? ⟨b, off + k, none⟩ = some (.int .u8 (y : Int)) := by rw [hc k l1, hy]
        clear hc
        have hy2 : y < 256 := by rw [hy]; exact HBS.out k l1
        have HY := Lib.hid hy; clear hy
        have hand := num.and127 y hy2
        have hu0 : u < 128 ^ k := HGD.out.1
        have HU0 := Lib.hid hu0; clear hu0
        have hk9 : k ≤ 9 := by omega
        have hend : num.gt bs n (10 - k) k u = num.get bs n := HGD.out.2
        rw [show 10 - k = (9 - k) + 1 by omega, num.gt, if_neg (by omega), ← HY.out] at hend
        have HEND := Lib.hid hend; clear hend
        by_cases hbad : k = 9 ∧ 1 < y % 128
        · obtain ⟨e1, e2⟩ := hbad
          have hres : num.get bs n = none := by rw [← HEND.out, if_pos ⟨e1, e2⟩]
          have HRES := Lib.hid hres; clear hres
          have e1' : ((k : Int) == 9) = true := by simp; omega
          have e2' : (1 : Int) < (y : Int) % 128 := by omega
          clear e1 e2
          go_wp2
          go_ret3
          exact ⟨by rw [HRES.out]; rfl, rfl⟩
        · have hor := num.or_shift u y k HU0.out hk9 hbad
          obtain ⟨v, hv⟩ : ∃ v, v = u + y % 128 * 128 ^ k := ⟨_, rfl⟩
          rw [← hv] at hor
          have hv2 : (v : Int) ≤ 18446744073709551615 := by have := (num.top u y k HU0.out hk9 hbad).1; omega
          have hend2 : (if 128 ≤ y then num.gt bs n (9 - k) (k + 1) v else if y = 0 ∧ 0 < k then none else some (v, k + 1)) = num.get bs n := by
            rw [← HEND.out, if_neg hbad, hv]
          have hv3 : v < 128 ^ (k + 1) := by
            have h1 := HU0.out
            have h2 : y % 128 * 128 ^ k ≤ 127 * 128 ^ k := Nat.mul_le_mul_right _ (by omega)
            rw [Nat.pow_succ]; omega
          have HV3 := Lib.hid hv3; clear hv3
          have HV := Lib.hid hv; clear hv
          have HEND2 := Lib.hid hend2; clear hend2
          have hdig : ¬ ((k : Int) = 9 ∧ (1 : Int) < (y : Int) % 128) := by omega
          have HB := Lib.hid hbad; clear hbad
          by_cases h9 : k = 9
          · have h9' : ((k : Int) == 9) = true := by simp; omega
            have hd9 : ¬ (1 : Int) < (y : Int) % 128 := by omega
            clear hdig
            have H9 := Lib.hid h9; clear h9
            by_cases hbig : 128 ≤ y
            · go_wp2
              go_round
              case rel =>
                refine ⟨k + 1, v, by omega, by omega, by go_num, rfl, hv2, HV3.out, ?_⟩
                have h := HEND2.out; rw [if_pos hbig] at h; rw [← h, show 10 - (k + 1) = 9 - k by omega]
              case measure => simp [intOf]; omega
            · by_cases hz : y = 0
              · have hres : num.get bs n = none := by rw [← HEND2.out, if_neg hbig, if_pos ⟨hz, by have := H9.out; omega⟩]
                have HRES := Lib.hid hres; clear hres
                have hz' : ((y : Int) == 0) = true := by simp; omega
                have hk0 : (0 : Int) < k := by have := H9.out; omega
                clear hz
                go_wp2
                go_ret3
                exact ⟨by rw [HRES.out]; rfl, rfl⟩
              · have hres : num.get bs n = some (v, k + 1) := by rw [← HEND2.out, if_neg hbig, if_neg (by omega)]
                have HRES := Lib.hid hres; clear hres
                have hz' : ((y : Int) == 0) = false := by simp; omega
                clear hz
                go_wp2_with (go_at_call 81; refine (num.zag_any _ _ (by omega) (by omega)).mono ?_; rintro e w' ⟨rfl, rfl⟩)
                go_ret3
                exact ⟨by rw [HRES.out]; rfl, rfl⟩
          · have h9' : ((k : Int) == 9) = false := by simp; omega
            clear hdig
            have H9 := Lib.hid h9; clear h9
            by_cases hbig : 128 ≤ y
            · go_wp2
              go_round
              case rel =>
                refine ⟨k + 1, v, by omega, by omega, by go_num, rfl, hv2, HV3.out, ?_⟩
                have h := HEND2.out; rw [if_pos hbig] at h; rw [← h, show 10 - (k + 1) = 9 - k by omega]
              case measure => simp [intOf]; omega
            · by_cases hz : y = 0 ∧ 0 < k
              · have hres : num.get bs n = none := by rw [← HEND2.out, if_neg hbig, if_pos hz]
                have HRES := Lib.hid hres; clear hres
                have hz' : ((y : Int) == 0) = true := by simp; omega
                have hk0 : (0 : Int) < k := by omega
                clear hz
                go_wp2
                go_ret3
                exact ⟨by rw [HRES.out]; rfl, rfl⟩
              · have hres : num.get bs n = some (v, k + 1) := by rw [← HEND2.out, if_neg hbig, if_neg hz]
                have HRES := Lib.hid hres; clear hres
                by_cases hy0 : y = 0
                · have hz' : ((y : Int) == 0) = true := by simp; omega
                  have hk0 : ¬ (0 : Int) < k := by omega
                  clear hz hy0
                  go_wp2_with (go_at_call 81; refine (num.zag_any _ _ (by omega) (by omega)).mono ?_; rintro e w' ⟨rfl, rfl⟩)
                  go_ret3
                  exact ⟨by rw [HRES.out]; rfl, rfl⟩
                · have hz' : ((y : Int) == 0) = false := by simp; omega
                  clear hz hy0
                  go_wp2_with (go_at_call 81; refine (num.zag_any _ _ (by omega) (by omega)).mono ?_; rintro e w' ⟨rfl, rfl⟩)
                  go_ret3
                  exact ⟨by rw [HRES.out]; rfl, rfl⟩
      · have hres : num.get bs n = none := by
          have h := HGD.out.2
          rw [← h]
          by_cases e : k = 10
          · subst e; rfl
          · rw [show 10 - k = (9 - k) + 1 by omega, num.gt, if_pos (by omega)]
        have HRES := Lib.hid hres; clear hres
        go_wp2
        go_ret3
        exact ⟨by rw [HRES.out]; rfl, rfl⟩

theorem num.dg_pos (k u : Nat) : 0 < (num.dg k u).length := by rw [num.dg_len]; have := num.wd_le k u; omega

/-- Read on: the digits of u, from place i on. -/
theorem num.gt_dg (bs : Nat → Nat) (n : Nat) : ∀ (k i u acc : Nat), i + k = 9 → u < 2 * 128 ^ k → (u ≠ 0 ∨ i = 0) → (∀ j, j < (num.dg k u).length → bs (i + j) = (num.dg k u).getD j 0) → i + (num.dg k u).length ≤ n →
    num.gt bs n (10 - i) i acc = some (acc + u * 128 ^ i, i + (num.dg k u).length)
  | 0, i, u, acc, hi, hu, hz, hb, hn => by
    have h0 := hb 0 (by simp [num.dg])
    simp only [num.dg, List.getD_cons_zero, Nat.add_zero, List.length_cons, List.length_nil] at h0 hn ⊢
    obtain rfl : i = 9 := by omega
    have hu2 : u < 2 := by simpa using hu
    show num.gt bs n 1 9 acc = _
    rw [num.gt, h0, if_neg (by omega), if_neg (by omega), if_neg (by omega), if_neg (by omega), Nat.mod_eq_of_lt (by omega)]
  | k + 1, i, u, acc, hi, hu, hz, hb, hn => by
    rw [show 10 - i = (9 - i) + 1 by omega, num.gt]
    by_cases hlt : u < 128
    · rw [num.dg_low _ _ hlt] at hb hn ⊢
      have h0 := hb 0 (by simp)
      simp only [List.getD_cons_zero, Nat.add_zero, List.length_cons, List.length_nil] at h0 hn ⊢
      rw [h0, if_neg (by omega), if_neg (by omega), if_neg (by omega), if_neg (by omega), Nat.mod_eq_of_lt hlt]
    · rw [num.dg_up _ _ hlt] at hb hn ⊢
      have h0 := hb 0 (by simp)
      simp only [List.getD_cons_zero, Nat.add_zero, List.length_cons] at h0 hn ⊢
      have ih := num.gt_dg bs n k (i + 1) (u / 128) (acc + (u % 128 + 128) % 128 * 128 ^ i) (by omega) (by rw [Nat.pow_succ] at hu; omega) (by omega)
        (fun j hj => by have := hb (j + 1) (by simp; omega); simpa [Nat.add_assoc, Nat.add_comm 1] using this) (by omega)
      rw [h0, if_neg (by omega), if_neg (by omega), if_pos (by omega), show 9 - i = 10 - (i + 1) by omega, ih]
      have e : acc + (u % 128 + 128) % 128 * 128 ^ i + u / 128 * 128 ^ (i + 1) = acc + u * 128 ^ i := by
        rw [show (u % 128 + 128) % 128 = u % 128 by omega, Nat.pow_succ, Nat.mul_comm (128 ^ i) 128, ← Nat.mul_assoc, Nat.add_assoc, ← Nat.add_mul, show u % 128 + u / 128 * 128 = u by omega]
      rw [e]
      congr 2
      omega

/-- Cut short: none. -/
theorem num.gt_cut (bs : Nat → Nat) (n : Nat) : ∀ (k i u acc : Nat), i + k = 9 → (∀ j, j < (num.dg k u).length → i + j < n → bs (i + j) = (num.dg k u).getD j 0) → n < i + (num.dg k u).length → num.gt bs n (10 - i) i acc = none
  | 0, i, u, acc, hi, hb, hn => by
    simp only [num.dg, List.length_cons, List.length_nil] at hn
    rw [show 10 - i = (9 - i) + 1 by omega, num.gt, if_pos (by omega)]
  | k + 1, i, u, acc, hi, hb, hn => by
    rw [show 10 - i = (9 - i) + 1 by omega, num.gt]
    by_cases hin : n ≤ i
    · rw [if_pos hin]
    · by_cases hlt : u < 128
      · rw [num.dg_low _ _ hlt] at hn; simp at hn; omega
      · rw [num.dg_up _ _ hlt] at hb hn
        have h0 := hb 0 (by simp) (by omega)
        simp only [List.getD_cons_zero, Nat.add_zero, List.length_cons] at h0 hn
        rw [h0, if_neg (by omega), if_neg (by omega), if_pos (by omega), show 9 - i = 10 - (i + 1) by omega]
        exact num.gt_cut bs n k (i + 1) (u / 128) _ (by omega) (fun j hj hjn => by have := hb (j + 1) (by simp; omega) (by omega); simpa [Nat.add_assoc, Nat.add_comm 1] using this) (by omega)

/-- The last digit says that more comes, and a nought comes: none. -/
theorem num.gt_long (bs : Nat → Nat) (n : Nat) : ∀ (k i u acc : Nat), i + k = 9 → u < 2 * 128 ^ k → (∀ j, j + 1 < (num.dg k u).length → bs (i + j) = (num.dg k u).getD j 0) →
    bs (i + ((num.dg k u).length - 1)) = (num.dg k u).getD ((num.dg k u).length - 1) 0 % 128 + 128 → bs (i + (num.dg k u).length) = 0 → i + (num.dg k u).length < n → num.gt bs n (10 - i) i acc = none
  | 0, i, u, acc, hi, hu, hb, hl, hz, hn => by
    simp only [num.dg, List.length_cons, List.length_nil, Nat.zero_add, Nat.sub_self, List.getD_cons_zero, Nat.add_zero] at hl hz hn
    obtain rfl : i = 9 := by omega
    have hu2 : u < 2 := by simpa using hu
    show num.gt bs n 1 9 acc = _
    rw [num.gt, hl, if_neg (by omega), if_neg (by omega), if_pos (by omega)]
    rfl
  | k + 1, i, u, acc, hi, hu, hb, hl, hz, hn => by
    rw [show 10 - i = (9 - i) + 1 by omega, num.gt]
    by_cases hlt : u < 128
    · rw [num.dg_low _ _ hlt] at hb hl hz hn
      simp only [List.length_cons, List.length_nil, Nat.zero_add, Nat.sub_self, List.getD_cons_zero, Nat.add_zero] at hl hz hn
      rw [hl, if_neg (by omega), if_neg (by omega), if_pos (by omega), show 9 - i = (8 - i) + 1 by omega, num.gt, hz, if_neg (by omega), if_neg (by omega), if_neg (by omega), if_pos (by omega)]
    · have hd := num.dg_pos k (u / 128)
      rw [num.dg_up _ _ hlt] at hb hl hz hn
      have h0 := hb 0 (by simp; omega)
      simp only [List.getD_cons_zero, Nat.add_zero, List.length_cons] at h0 hn hz hl
      rw [h0, if_neg (by omega), if_neg (by omega), if_pos (by omega), show 9 - i = 10 - (i + 1) by omega]
      refine num.gt_long bs n k (i + 1) (u / 128) _ (by omega) (by rw [Nat.pow_succ] at hu; omega) (fun j hj => ?_) ?_ ?_ (by omega)
      · have := hb (j + 1) (by simp; omega); simpa [Nat.add_assoc, Nat.add_comm 1] using this
      · obtain ⟨q, hq⟩ : ∃ q, (num.dg k (u / 128)).length = q + 1 := ⟨_, (Nat.succ_pred_eq_of_pos hd).symm⟩
        rw [hq] at hl ⊢
        simp only [Nat.add_sub_cancel, List.getD_cons_succ] at hl ⊢
        rw [← hl]; congr 1; omega
      · rw [← hz]; congr 1; omega

theorem num.put_getD (n : Int) (j : Nat) : (num.put n).getD j 0 = (num.dg 9 (num.zig n).toNat).getD j 0 := rfl
theorem num.zig_small (n : Int) (h1 : -9223372036854775808 ≤ n) (h2 : n ≤ 9223372036854775807) : (num.zig n).toNat < 2 * 128 ^ 9 := by have := num.zig_bd n h1 h2; omega
theorem num.get_put (n : Int) (bs : Nat → Nat) (m : Nat) (h1 : -9223372036854775808 ≤ n) (h2 : n ≤ 9223372036854775807) (hb : ∀ j, j < (num.put n).length → bs j = (num.put n).getD j 0) (hm : (num.put n).length ≤ m) :
    num.res (num.get bs m) = .tuple #[.int .i64 n, .int .i64 ((num.put n).length : Nat), .int .i64 0] := by
  have h := num.gt_dg bs m 9 0 (num.zig n).toNat 0 rfl (num.zig_small n h1 h2) (.inr rfl) (fun j hj => by rw [Nat.zero_add]; exact hb j hj) (by rw [Nat.zero_add]; exact hm)
  unfold num.get
  rw [Nat.sub_zero] at h
  rw [h]
  have hz := num.zig_bd n h1 h2
  show Value.tuple #[.int .i64 (num.zag ((0 + (num.zig n).toNat * 128 ^ 0 : Nat) : Int)), .int .i64 ((0 + (num.dg 9 (num.zig n).toNat).length : Nat) : Int), .int .i64 0] = _
  rw [show ((0 + (num.zig n).toNat * 128 ^ 0 : Nat) : Int) = num.zig n by omega, num.zag_zig, Nat.zero_add]
  rfl
theorem num.get_cut (n : Int) (bs : Nat → Nat) (m : Nat) (hb : ∀ j, j < m → bs j = (num.put n).getD j 0) (hm : m < (num.put n).length) : num.get bs m = none :=
  num.gt_cut bs m 9 0 (num.zig n).toNat 0 rfl (fun j _ hjm => by rw [Nat.zero_add] at hjm ⊢; exact hb j hjm) (by rw [Nat.zero_add]; exact hm)
theorem num.get_long (n : Int) (bs : Nat → Nat) (m : Nat) (h1 : -9223372036854775808 ≤ n) (h2 : n ≤ 9223372036854775807) (hb : ∀ j, j + 1 < (num.put n).length → bs j = (num.put n).getD j 0)
    (hl : bs ((num.put n).length - 1) = (num.put n).getD ((num.put n).length - 1) 0 % 128 + 128) (hz : bs (num.put n).length = 0) (hm : (num.put n).length < m) : num.get bs m = none :=
  num.gt_long bs m 9 0 (num.zig n).toNat 0 rfl (num.zig_small n h1 h2) (fun j hj => by rw [Nat.zero_add]; exact hb j hj) (by rw [Nat.zero_add]; exact hl) (by rw [Nat.zero_add]; exact hz) (by rw [Nat.zero_add]; exact hm)
theorem num.dg_byte : ∀ (k u : Nat), u < 2 * 128 ^ k → ∀ x ∈ num.dg k u, x < 256
  | 0, u, hu, x, hx => by
    simp only [num.dg, List.mem_cons, List.not_mem_nil, or_false] at hx
    simp at hu; omega
  | k + 1, u, hu, x, hx => by
    by_cases h : u < 128
    · rw [num.dg_low _ _ h] at hx; simp at hx; omega
    · rw [num.dg_up _ _ h, List.mem_cons] at hx
      rcases hx with hx | hx
      · omega
      · exact num.dg_byte k (u / 128) (by rw [Nat.pow_succ] at hu; omega) x hx
theorem num.put_byte (n : Int) (h1 : -9223372036854775808 ≤ n) (h2 : n ≤ 9223372036854775807) : ∀ x ∈ num.put n, x < 256 := num.dg_byte 9 _ (num.zig_small n h1 h2)

/-- With whatever behind it. -/
theorem num.getL_put (n : Int) (Z : List Nat) (h1 : -9223372036854775808 ≤ n) (h2 : n ≤ 9223372036854775807) (k : Nat) (hk : k = (num.put n ++ Z).length) :
    num.res (num.get (fun j => (num.put n ++ Z).getD j 0) k) = .tuple #[.int .i64 n, .int .i64 ((num.put n).length : Nat), .int .i64 0] :=
  num.get_put n _ k h1 h2 (fun j hj => getD_left _ _ j hj) (by subst hk; simp)
/-- The number with its last byte marked. -/
def num.mark (L : List Nat) : List Nat := L.set (L.length - 1) (L.getD (L.length - 1) 0 % 128 + 128)
theorem num.mark_len (L : List Nat) : (num.mark L).length = L.length := by simp [num.mark]
theorem num.getL_long (n : Int) (h1 : -9223372036854775808 ≤ n) (h2 : n ≤ 9223372036854775807) (k : Nat) (hk : k = (num.put n).length + 1) :
    num.get (fun j => (num.mark (num.put n) ++ [0]).getD j 0) k = none := by
  have hb := num.put_bd n
  refine num.get_long n _ k h1 h2 (fun j hj => ?_) ?_ ?_ (by omega)
  · show (num.mark (num.put n) ++ [0]).getD j 0 = _
    rw [getD_left _ _ j (by rw [num.mark_len]; omega)]
    simp only [num.mark, List.getD]
    rw [List.getElem?_set_ne (by omega)]
  · show (num.mark (num.put n) ++ [0]).getD _ 0 = _
    rw [getD_left _ _ _ (by rw [num.mark_len]; omega)]
    have hlt : (num.put n).length - 1 < (num.put n).length := by omega
    simp only [num.mark, List.getD]
    rw [List.getElem?_set_self hlt]
    rfl
  · show (num.mark (num.put n) ++ [0]).getD _ 0 = _
    have := getD_right (num.mark (num.put n)) [0] 0
    rw [num.mark_len, Nat.add_zero] at this
    rw [this]; rfl
theorem num.mark_u8s (L : List Nat) : (u8s L).set (L.length - 1) (.int .u8 (((L.getD (L.length - 1) 0 : Nat) : Int) % 128 + 128)) = u8s (num.mark L) := by
  unfold u8s num.mark
  rw [List.map_set]
  congr 2
theorem num.mark_byte (L : List Nat) (h : ∀ x ∈ L, x < 256) : ∀ x ∈ num.mark L, x < 256 := by
  intro x hx
  rcases List.mem_or_eq_of_mem_set hx with h' | h'
  · exact h x h'
  · omega
end Go.Proofs.Ytkkpbnhagobhmaa

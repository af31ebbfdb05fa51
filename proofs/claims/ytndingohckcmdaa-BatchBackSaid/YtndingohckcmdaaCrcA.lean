/- Contract of crc.More. -/
import Derived.Test.YtndingohckcmdaaProg
import Derived.Test.YtndingohckcmdaaApp
import Derived.WalkLawsBesides
import Derived.Laws.BitsAllLaws
import Derived.Laws.BitsLemmas
import Derived.Outline
namespace Go.Proofs.Ytndingohckcmdaa
open Go.RowKit

/-- One digit further. -/
def crc.bit (r : Nat) : Nat := if r % 2 = 1 then r / 2 ^^^ 2197175160 else r / 2
def crc.bitN : Nat → Nat → Nat
  | 0, r => r
  | k + 1, r => crc.bitN k (crc.bit r)
/-- One byte further. -/
def crc.byte (r x : Nat) : Nat := crc.bitN 8 (r ^^^ x)
def crc.run (r : Nat) (L : List Nat) : Nat := L.foldl crc.byte r
def crc.turn (r : Nat) : Nat := 4294967295 - r
def crc.more (s : Nat) (L : List Nat) : Nat := crc.turn (crc.run (crc.turn s) L)

theorem crc.turn_eq (s : Nat) (hs : s < 4294967296) : bits .xor .u32 IntKind.u32.max (s : Int) = ((crc.turn s : Nat) : Int) := by
  show IntKind.u32.wrap ((BitVec.ofInt 32 4294967295 ^^^ BitVec.ofInt 32 (s : Int)).toNat : Int) = _
  rw [show BitVec.ofInt 32 4294967295 = BitVec.allOnes 32 by decide, BitVec.allOnes_xor, BitVec.toNat_not, ofInt_u32 s hs, IntKind.wrap_u32']
  unfold crc.turn
  omega
theorem crc.turn_lt (s : Nat) : crc.turn s < 4294967296 := by unfold crc.turn; omega

theorem crc.poly : Go.bits .and .u32 2197175160 4294967295 = 2197175160 := by decide +kernel
theorem crc.poly0 : Go.bits .and .u32 2197175160 0 = 0 := by decide +kernel
theorem crc.and1 (q : Nat) (h : q < 4294967296) : Go.bits .and .u32 (q : Int) 1 = ((q % 2 : Nat) : Int) := by
  have := u32_and_nat q 1 h (by omega)
  rw [Nat.and_one_is_mod] at this
  exact this
theorem crc.bit_lt (q : Nat) (h : q < 4294967296) : crc.bit q < 4294967296 := by
  unfold crc.bit
  split
  · exact Nat.xor_lt_two_pow (n := 32) (by omega) (by omega)
  · omega
theorem crc.run_take (r : Nat) (L : List Nat) (k : Nat) (h : k < L.length) : crc.run r (L.take (k + 1)) = crc.byte (crc.run r (L.take k)) (L.getD k 0) := by
  unfold crc.run
  rw [List.take_succ_eq_append_getElem h, List.foldl_append]
  simp [List.getD, List.getElem?_eq_getElem h]

set_option maxRecDepth 20000 in
set_option maxHeartbeats 1000000 in
theorem crc.more_any (s : Nat) (A : Option Addr) (n c : Nat) (L : List Nat) (w : World) (hs : s < 4294967296) (hn : n ≤ 9223372036854775807) (hl : L.length = n) (hat : At w A n (byteAt L)) (hb : ∀ j, j < n → L.getD j 0 < 256) :
    Calls Try.prog 66 #[.int .u32 (s : Int), .slice A n c] w fun e w' => e = .returned (.int .u32 (crc.more s L : Nat)) ∧ w = w' := by
  have HAT := Lib.hid hat; clear hat
  have HB := Lib.hid hb; clear hb
  have HL := Lib.hid hl; clear hl
  have h0 := crc.turn_eq s hs
  obtain ⟨t, ht⟩ : ∃ t, t = crc.turn s := ⟨_, rfl⟩
  rw [← ht] at h0
  have ht2 : t < 4294967296 := by rw [ht]; exact crc.turn_lt s
  have HT := Lib.hid ht; clear ht
  go_enter Try.func66, Try.ntmps66
  go_wp2
  go_loop [5, 13] (fun x i => ∃ (k r : Nat), k ≤ n ∧ i = .int .i64 (k : Int) ∧ x = .int .u32 (r : Int) ∧ r < 4294967296 ∧ r = crc.run (crc.turn s) (L.take k)) (fun _ i => n - (intOf i).toNat)
  case atStart => exact ⟨0, t, by omega, rfl, rfl, ht2, by rw [HT.out]; rfl⟩
  case round =>
    obtain ⟨k, r, hk, rfl, rfl, hr, hrun⟩ := hrel
    have HRUN := Lib.hid hrun; clear hrun
    by_cases hlt : k < n
    · obtain ⟨b, off, rfl, hbb, hc⟩ := HAT.out (by omega)
      obtain ⟨y, hy⟩ : ∃ y, y = L.getD k 0 := ⟨_, rfl⟩
      have hc1 : w.cell? ⟨b, off + k, none⟩ = some (.int .u8 (y : Int)) := by rw [hc k hlt, hy]; rfl
      clear hc
      have hy2 : y < 256 := by rw [hy]; exact HB.out k hlt
      have HY := Lib.hid hy; clear hy
      have hxy : Go.bits .xor .u32 (r : Int) (y : Int) = ((r ^^^ y : Nat) : Int) := u32_xor_nat r y hr (by omega)
      obtain ⟨q0, hq0⟩ : ∃ q, q = r ^^^ y := ⟨_, rfl⟩
      rw [← hq0] at hxy
      have hq0l : q0 < 4294967296 := by rw [hq0]; exact Nat.xor_lt_two_pow (n := 32) hr (by omega)
      have HQ0 := Lib.hid hq0; clear hq0
      go_wp2
      go_loop [5, 21] (fun x i => ∃ (m q : Nat), m ≤ 8 ∧ i = .int .i64 (m : Int) ∧ x = .int .u32 (q : Int) ∧ q < 4294967296 ∧ crc.bitN (8 - m) q = crc.bitN 8 q0) (fun _ i => 8 - (intOf i).toNat)
      case atStart => exact ⟨0, q0, by omega, rfl, rfl, hq0l, rfl⟩
      case round =>
        obtain ⟨m, q, hm, rfl, rfl, hq, hbn⟩ := hrel
        have HBN := Lib.hid hbn; clear hbn
        by_cases hm8 : m < 8
        · have hnx : crc.bitN (8 - (m + 1)) (crc.bit q) = crc.bitN 8 q0 := by
            have := HBN.out
            rw [show 8 - m = (8 - (m + 1)) + 1 by omega, crc.bitN] at this
            exact this
          have HNX := Lib.hid hnx; clear hnx
          by_cases hp : q % 2 = 1
          · have e1 : Go.bits .and .u32 (q : Int) 1 = 1 := by rw [crc.and1 q hq, hp]; rfl
            have e3 : Go.bits .xor .u32 ((q : Int) / 2) 2197175160 = ((q / 2 ^^^ 2197175160 : Nat) : Int) := u32_xor_nat (q / 2) 2197175160 (by omega) (by omega)
            have hv : crc.bit q = q / 2 ^^^ 2197175160 := by unfold crc.bit; rw [if_pos hp]
            have hvl := crc.bit_lt q hq
            obtain ⟨v, hv2⟩ : ∃ v, v = crc.bit q := ⟨_, rfl⟩
            rw [← hv, ← hv2] at e3
            rw [← hv2] at hvl
            have HV := Lib.hid hv2; clear hv2
            clear hv hp
            go_wp2
            go_round
            case rel => exact ⟨m + 1, v, by omega, by go_num, num_eq (by rw [crc.poly]; exact e3), hvl, by rw [HV.out]; exact HNX.out⟩
            case measure => simp [intOf]; omega
          · have e1 : Go.bits .and .u32 (q : Int) 1 = 0 := by rw [crc.and1 q hq]; omega
            have e3 : Go.bits .xor .u32 ((q : Int) / 2) 0 = ((q / 2 : Nat) : Int) := by
              have := u32_xor_nat (q / 2) 0 (by omega) (by omega); rw [Nat.xor_zero] at this; exact this
            have hv : crc.bit q = q / 2 := by unfold crc.bit; rw [if_neg hp]
            have HV := Lib.hid hv; clear hv
            have hvl : q / 2 < 4294967296 := by omega
            clear hp
            go_wp2
            go_round
            case rel => exact ⟨m + 1, q / 2, by omega, by go_num, num_eq (by rw [crc.poly0]; exact e3), hvl, by rw [← HV.out]; exact HNX.out⟩
            case measure => simp [intOf]; omega
        · obtain rfl : m = 8 := by omega
          have hfin : q = crc.run (crc.turn s) (L.take (k + 1)) := by
            have h1 : q = crc.bitN 8 q0 := HBN.out
            rw [h1, crc.run_take _ _ _ (by rw [HL.out]; exact hlt), ← HRUN.out, ← HY.out, HQ0.out]; rfl
          have HFIN := Lib.hid hfin; clear hfin
          go_wp2
          go_round
          case rel => exact ⟨k + 1, q, by omega, by go_num, rfl, hq, HFIN.out⟩
          case measure => simp [intOf]; omega
    · obtain rfl : k = n := by omega
      have hfin : crc.more s L = crc.turn r := by
        unfold crc.more; rw [HRUN.out, List.take_of_length_le (by rw [HL.out]; omega)]
      have HFIN := Lib.hid hfin; clear hfin
      have h1 := crc.turn_eq r hr
      go_wp2
      go_ret
      exact ⟨by rw [HFIN.out]; rfl, rfl⟩
end Go.Proofs.Ytndingohckcmdaa

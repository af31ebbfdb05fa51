/- Contracts of the document's own sums (cordwainref1). -/
import Derived.Test.YtndingohckcmdaaCrcP
namespace Go.Proofs.Ytndingohckcmdaa
open Go.RowKit

set_option maxRecDepth 20000 in
set_option maxHeartbeats 1000000 in
theorem crc.refmore_any (s : Nat) (A : Option Addr) (n c : Nat) (L : List Nat) (w : World) (hs : s < 4294967296) (hn : n ≤ 9223372036854775807) (hl : L.length = n) (hat : At w A n (byteAt L)) (hb : ∀ j, j < n → L.getD j 0 < 256) :
    Calls Try.prog 81 #[.int .u32 (s : Int), .slice A n c] w fun e w' => e = .returned (.int .u32 (crc.run s L : Nat)) ∧ w = w' := by
  have HAT := Lib.hid hat; clear hat
  have HB := Lib.hid hb; clear hb
  have HL := Lib.hid hl; clear hl
  go_enter Try.func81, Try.ntmps81
  go_wp2
  go_loop [0, 5] (fun x i => ∃ (k r : Nat), k ≤ n ∧ i = .int .i64 (k : Int) ∧ x = .int .u32 (r : Int) ∧ r < 4294967296 ∧ r = crc.run s (L.take k)) (fun _ i => n - (intOf i).toNat)
  case atStart => exact ⟨0, s, by omega, rfl, rfl, hs, rfl⟩
  case round =>
    obtain ⟨k, r, hk, rfl, rfl, hr, hrun⟩ := hrel
    have HRUN := Lib.hid hrun; clear hrun
    by_cases hlt : k < n
    · obtain ⟨b, off, rfl, hbb, hc⟩ := HAT.out (by omega)
      obtain ⟨y, hy⟩ : ∃ y, y = L.getD k 0 := ⟨_, rfl⟩
      have hc1 : w.cell? ⟨b, off + k, none⟩ = some (.int .u8 (y : Int)) := by rw [hc k hlt, hy]; rfl
      clear hc
      have hy2 : y < 256 := by rw [hy]; exact HB.out k hlt
      have HY := Lib.hid hy; clear hy
      have hxy : Go.bits .xor .u32 (r : Int) (y : Int) = ((r ^^^ y : Nat) : Int) := u32_xor_nat r y hr (by omega)
      obtain ⟨q0, hq0⟩ : ∃ q, q = r ^^^ y := ⟨_, rfl⟩
      rw [← hq0] at hxy
      have hq0l : q0 < 4294967296 := by rw [hq0]; exact Nat.xor_lt_two_pow (n := 32) hr (by omega)
      have HQ0 := Lib.hid hq0; clear hq0
      go_wp2
      go_loop [0, 6] (fun x i => ∃ (m q : Nat), m ≤ 8 ∧ i = .int .i64 (m : Int) ∧ x = .int .u32 (q : Int) ∧ q < 4294967296 ∧ crc.bitN (8 - m) q = crc.bitN 8 q0) (fun _ i => 8 - (intOf i).toNat)
      case atStart => exact ⟨0, q0, by omega, rfl, rfl, hq0l, rfl⟩
      case round =>
        obtain ⟨m, q, hm, rfl, rfl, hq, hbn⟩ := hrel
        have HBN := Lib.hid hbn; clear hbn
        by_cases hm8 : m < 8
        · have hnx : crc.bitN (8 - (m + 1)) (crc.bit q) = crc.bitN 8 q0 := by
            have := HBN.out
            rw [show 8 - m = (8 - (m + 1)) + 1 by omega, crc.bitN] at this
            exact this
          have HNX := Lib.hid hnx; clear hnx
          by_cases hp : q % 2 = 1
          · have e1 : Go.bits .and .u32 (q : Int) 1 = 1 := by rw [crc.and1 q hq, hp]; rfl
            have e3 : Go.bits .xor .u32 ((q : Int) / 2) 2197175160 = ((q / 2 ^^^ 2197175160 : Nat) : Int) := u32_xor_nat (q / 2) 2197175160 (by omega) (by omega)
            have hv : crc.bit q = q / 2 ^^^ 2197175160 := by unfold crc.bit; rw [if_pos hp]
            have hvl := crc.bit_lt q hq
            obtain ⟨v, hv2⟩ : ∃ v, v = crc.bit q := ⟨_, rfl⟩
            rw [← hv, ← hv2] at e3
            rw [← hv2] at hvl
            have HV := Lib.hid hv2; clear hv2
            clear hv hp
            go_wp2
            go_round
            case rel => exact ⟨m + 1, v, by omega, by go_num, rfl, hvl, by rw [HV.out]; exact HNX.out⟩
            case measure => simp [intOf]; omega
          · have e1 : Go.bits .and .u32 (q : Int) 1 = 0 := by rw [crc.and1 q hq]; omega
            have hv : crc.bit q = q / 2 := by unfold crc.bit; rw [if_neg hp]
            have HV := Lib.hid hv; clear hv
            have hvl : q / 2 < 4294967296 := by omega
            clear hp
            go_wp2
            go_round
            case rel => exact ⟨m + 1, q / 2, by omega, by go_num, by go_num, hvl, by rw [← HV.out]; exact HNX.out⟩
            case measure => simp [intOf]; omega
        · obtain rfl : m = 8 := by omega
          have hfin : q = crc.run s (L.take (k + 1)) := by
            have h1 : q = crc.bitN 8 q0 := HBN.out
            rw [h1, crc.run_take _ _ _ (by rw [HL.out]; exact hlt), ← HRUN.out, ← HY.out, HQ0.out]; rfl
          have HFIN := Lib.hid hfin; clear hfin
          go_wp2
          go_round
          case rel => exact ⟨k + 1, q, by omega, by go_num, rfl, hq, HFIN.out⟩
          case measure => simp [intOf]; omega
    · obtain rfl : k = n := by omega
      have hfin : crc.run s L = r := by rw [HRUN.out, List.take_of_length_le (by rw [HL.out]; omega)]
      have HFIN := Lib.hid hfin; clear hfin
      go_wp2
      go_ret
      exact ⟨by rw [HFIN.out]; rfl, rfl⟩

set_option maxRecDepth 20000 in
set_option maxHeartbeats 400000 in
theorem crc.refsum_any (v : Value) (L : List Nat) (w : World) (hv : Bytes w v L) :
    Calls Try.prog 70 #[v] w fun e w' => e = .returned (.int .u32 (crc.more 0 L : Nat)) ∧ w = w' := by
  obtain ⟨A, c, rfl, hl, hat, hb⟩ := hv
  have ht : crc.turn 0 = 4294967295 := rfl
  have HAT := Lib.hid hat; clear hat
  have HB := Lib.hid hb; clear hb
  have hrl := crc.run_lt L 4294967295 (by omega) HB.out
  have hte := crc.turn_eq _ hrl
  have hfin : crc.more 0 L = crc.turn (crc.run 4294967295 L) := rfl
  have HFIN := Lib.hid hfin; clear hfin
  have HTE := Lib.hid hte; clear hte
  go_enter Try.func70, Try.ntmps70
  go_wp2_with fail
  refine (crc.refmore_any 4294967295 A L.length c L w (by omega) (by omega) rfl HAT.out (fun j hj => getD_lt HB.out j hj)).mono ?_
  rintro e w' ⟨rfl, rfl⟩
  obtain ⟨r, hr⟩ : ∃ r, r = crc.run 4294967295 L := ⟨_, rfl⟩
  rw [← hr] at hrl ⊢
  have hte := HTE.out
  rw [← hr] at hte
  have HR := Lib.hid hr; clear hr
  go_wp2
  go_ret
  exact ⟨by rw [HFIN.out, ← HR.out]; rfl, rfl⟩

theorem crc.turn_turn (x : Nat) (h : x < 4294967296) : crc.turn (crc.turn x) = x := by unfold crc.turn; omega
theorem crc.more_append (s : Nat) (a b : List Nat) (ha : ∀ x ∈ a, x < 256) : crc.more s (a ++ b) = crc.more (crc.more s a) b := by
  unfold crc.more
  rw [crc.run_append, crc.turn_turn _ (crc.run_lt a _ (crc.turn_lt s) ha)]
theorem crc.more_nil (s : Nat) (h : s < 4294967296) : crc.more s [] = s := crc.turn_turn s h
end Go.Proofs.Ytndingohckcmdaa

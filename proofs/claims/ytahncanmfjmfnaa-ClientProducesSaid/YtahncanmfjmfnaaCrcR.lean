/- Contracts of the document's own sums (cordwainref1). -/
import Derived.Test.YtahncanmfjmfnaaProg
import Derived.Test.YtahncanmfjmfnaaApp2
import Derived.WalkLawsBesides
import Derived.Laws.BitsAllLaws
import Derived.Laws.BitsLemmas
import Derived.Outline
import Derived.Lib.SlBytesConst
namespace Go.Proofs.Ytahncanmfjmfnaa
open Go.RowKit

/-- One digit further. -/
def crc.bit (r : Nat) : Nat := if r % 2 = 1 then r / 2 ^^^ 2197175160 else r / 2
def crc.bitN : Nat → Nat → Nat
  | 0, r => r
  | k + 1, r => crc.bitN k (crc.bit r)
/-- One byte further. -/
def crc.byte (r x : Nat) : Nat := crc.bitN 8 (r ^^^ x)
def crc.run (r : Nat) (L : List Nat) : Nat := L.foldl crc.byte r
def crc.turn (r : Nat) : Nat := 4294967295 - r
def crc.more (s : Nat) (L : List Nat) : Nat := crc.turn (crc.run (crc.turn s) L)

theorem crc.turn_eq (s : Nat) (hs : s < 4294967296) : bits .xor .u32 IntKind.u32.max (s : Int) = ((crc.turn s : Nat) : Int) := by
  show IntKind.u32.wrap ((BitVec.ofInt 32 4294967295 ^^^ BitVec.ofInt 32 (s : Int)).toNat : Int) = _
  rw [show BitVec.ofInt 32 4294967295 = BitVec.allOnes 32 by decide, BitVec.allOnes_xor, BitVec.toNat_not, ofInt_u32 s hs, IntKind.wrap_u32']
  unfold crc.turn
  omega
theorem crc.turn_lt (s : Nat) : crc.turn s < 4294967296 := by unfold crc.turn; omega

theorem crc.poly : Go.bits .and .u32 2197175160 4294967295 = 2197175160 := by decide +kernel
theorem crc.poly0 : Go.bits .and .u32 2197175160 0 = 0 := by decide +kernel
theorem crc.and1 (q : Nat) (h : q < 4294967296) : Go.bits .and .u32 (q : Int) 1 = ((q % 2 : Nat) : Int) := by
  have := u32_and_nat q 1 h (by omega)
  rw [Nat.and_one_is_mod] at this
  exact this
theorem crc.bit_lt (q : Nat) (h : q < 4294967296) : crc.bit q < 4294967296 := by
  unfold crc.bit
  split
  · exact Nat.xor_lt_two_pow (n := 32) (by omega) (by omega)
  · omega
theorem crc.run_take (r : Nat) (L : List Nat) (k : Nat) (h : k < L.length) : crc.run r (L.take (k + 1)) = crc.byte (crc.run r (L.take k)) (L.getD k 0) := by
  unfold crc.run
  rw [List.take_succ_eq_append_getElem h, List.foldl_append]
  simp [List.getD, List.getElem?_eq_getElem h]

set_option maxRecDepth 20000 in
set_option maxHeartbeats 1000000 in
theorem crc.more_any (s : Nat) (A : Option Addr) (n c : Nat) (L : List Nat) (w : World) (hs : s < 4294967296) (hn : n ≤ 9223372036854775807) (hl : L.length = n) (hat : At w A n (byteAt L)) (hb : ∀ j, j < n → L.getD j 0 < 256) :
    Calls Try.prog 67 #[.int .u32 (s : Int), .slice A n c] w fun e w' => e = .returned (.int .u32 (crc.more s L : Nat)) ∧ w = w' := by
  have HAT := Lib.hid hat; clear hat
  have HB := Lib.hid hb; clear hb
  have HL := Lib.hid hl; clear hl
  have h0 := crc.turn_eq s hs
  obtain ⟨t, ht⟩ : ∃ t, t = crc.turn s := ⟨_, rfl⟩
  rw [← ht] at h0
  have ht2 : t < 4294967296 := by rw [ht]; exact crc.turn_lt s
  have HT := Lib.hid ht; clear ht
  go_enter Try.func67, Try.ntmps67
  go_wp2
  go_loop [5, 13] (fun x i => ∃ (k r : Nat), k ≤ n ∧ i = .int .i64 (k : Int) ∧ x = .int .u32 (r : Int) ∧ r < 4294967296 ∧ r = crc.run (crc.turn s) (L.take k)) (fun _ i => n - (intOf i).toNat)
  case atStart => exact ⟨0, t, by omega, rfl, rfl, ht2, by rw [HT.out]; rfl⟩
  case round =>
    obtain ⟨k, r, hk, rfl, rfl, hr, hrun⟩ := hrel
    have HRUN := Lib.hid hrun; clear hrun
    by_cases hlt : k < n
    · obtain ⟨b, off, rfl, hbb, hc⟩ := HAT.out (by omega)
      obtain ⟨y, hy⟩ : ∃ y, y = L.getD k 0 := ⟨_, rfl⟩
      have hc1 : w.cell? ⟨b, off + k, none⟩ = some (.int .u8 (y : Int)) := by rw [hc k hlt, hy]; rfl
      clear hc
      have hy2 : y < 256 := by rw [hy]; exact HB.out k hlt
      have HY := Lib.hid hy; clear hy
      have hxy : Go.bits .xor .u32 (r : Int) (y : Int) = ((r ^^^ y : Nat) : Int) := u32_xor_nat r y hr (by omega)
      obtain ⟨q0, hq0⟩ : ∃ q, q = r ^^^ y := ⟨_, rfl⟩
      rw [← hq0] at hxy
      have hq0l : q0 < 4294967296 := by rw [hq0]; exact Nat.xor_lt_two_pow (n := 32) hr (by omega)
      have HQ0 := Lib.hid hq0; clear hq0
      go_wp2
      go_loop [5, 21] (fun x i => ∃ (m q : Nat), m ≤ 8 ∧ i = .int .i64 (m : Int) ∧ x = .int .u32 (q : Int) ∧ q < 4294967296 ∧ crc.bitN (8 - m) q = crc.bitN 8 q0) (fun _ i => 8 - (intOf i).toNat)
      case atStart => exact ⟨0, q0, by omega, rfl, rfl, hq0l, rfl⟩
      case round =>
        obtain ⟨m, q, hm, rfl, rfl, hq, hbn⟩ := hrel
        have HBN := Lib.hid hbn; clear hbn
        by_cases hm8 : m < 8
        · have hnx : crc.bitN (8 - (m + 1)) (crc.bit q) = crc.bitN 8 q0 := by
            have := HBN.out
            rw [show 8 - m = (8 - (m + 1)) + 1 by omega, crc.bitN] at this
            exact this
          have HNX := Lib.hid hnx; clear hnx
          by_cases hp : q % 2 = 1
          · have e1 : Go.bits .and .u32 (q : Int) 1 = 1 := by rw [crc.and1 q hq, hp]; rfl
            have e3 : Go.bits .xor .u32 ((q : Int) / 2) 2197175160 = ((q / 2 ^^^ 2197175160 : Nat) : Int) := u32_xor_nat (q / 2) 2197175160 (by omega) (by omega)
            have hv : crc.bit q = q / 2 ^^^ 2197175160 := by unfold crc.bit; rw [if_pos hp]
            have hvl := crc.bit_lt q hq
            obtain ⟨v, hv2⟩ : ∃ v, v = crc.bit q := ⟨_, rfl⟩
            rw [← hv, ← hv2] at e3
            rw [← hv2] at hvl
            have HV := Lib.hid hv2; clear hv2
            clear hv hp
            go_wp2
            go_round
            case rel => exact ⟨m + 1, v, by omega, by go_num, num_eq (by rw [crc.poly]; exact e3), hvl, by rw [HV.out]; exact HNX.out⟩
            case measure => simp [intOf]; omega
          · have e1 : Go.bits .and .u32 (q : Int) 1 = 0 := by rw [crc.and1 q hq]; omega
            have e3 : Go.bits .xor .u32 ((q : Int) / 2) 0 = ((q / 2 : Nat) : Int) := by
              have := u32_xor_nat (q / 2) 0 (by omega) (by omega); rw [Nat.xor_zero] at this; exact this
            have hv : crc.bit q = q / 2 := by unfold crc.bit; rw [if_neg hp]
            have HV := Lib.hid hv; clear hv
            have hvl : q / 2 < 4294967296 := by omega
            clear hp
            go_wp2
            go_round
            case rel => exact ⟨m + 1, q / 2, by omega, by go_num, num_eq (by rw [crc.poly0]; exact e3), hvl, by rw [← HV.out]; exact HNX.out⟩
            case measure => simp [intOf]; omega
        · obtain rfl : m = 8 := by omega
          have hfin : q = crc.run (crc.turn s) (L.take (k + 1)) := by
            have h1 : q = crc.bitN 8 q0 := HBN.out
            rw [h1, crc.run_take _ _ _ (by rw [HL.out]; exact hlt), ← HRUN.out, ← HY.out, HQ0.out]; rfl
          have HFIN := Lib.hid hfin; clear hfin
          go_wp2
          go_round
          case rel => exact ⟨k + 1, q, by omega, by go_num, rfl, hq, HFIN.out⟩
          case measure => simp [intOf]; omega
    · obtain rfl : k = n := by omega
      have hfin : crc.more s L = crc.turn r := by
        unfold crc.more; rw [HRUN.out, List.take_of_length_le (by rw [HL.out]; omega)]
      have HFIN := Lib.hid hfin; clear hfin
      have h1 := crc.turn_eq r hr
      go_wp2
      go_ret
      exact ⟨by rw [HFIN.out]; rfl, rfl⟩

/-- A value is a slice of these bytes. -/
def Bytes (w : World) (v : Value) (L : List Nat) : Prop :=
  ∃ A c, v = .slice A L.length c ∧ L.length ≤ 1099511627776 ∧ At w A L.length (byteAt L) ∧ ∀ x ∈ L, x < 256
theorem Bytes.below {w w' : World} {v : Value} {L : List Nat} (h : Bytes w v L) (hb : Below w.heap.size w w') : Bytes w' v L := by
  obtain ⟨A, c, rfl, h1, h2, h3⟩ := h
  exact ⟨A, c, rfl, h1, h2.below hb (Nat.le_refl _), h3⟩
theorem getD_lt {L : List Nat} (h : ∀ x ∈ L, x < 256) (j : Nat) (hj : j < L.length) : L.getD j 0 < 256 := by
  simp only [List.getD, List.getElem?_eq_getElem hj, Option.getD_some]; exact h _ (List.getElem_mem _)

theorem crc.more_lt (s : Nat) (L : List Nat) : crc.more s L < 4294967296 := crc.turn_lt _
def crc.sums (Ls : List (List Nat)) : Nat := Ls.foldl crc.more 0
theorem crc.sums_take (Ls : List (List Nat)) (k : Nat) (h : k < Ls.length) : crc.sums (Ls.take (k + 1)) = crc.more (crc.sums (Ls.take k)) (Ls.getD k []) := by
  unfold crc.sums
  rw [List.take_succ_eq_append_getElem h, List.foldl_append]
  simp [List.getD, List.getElem?_eq_getElem h]

set_option maxRecDepth 20000 in
set_option maxHeartbeats 1000000 in
theorem crc.sum_any (A : Option Addr) (n c : Nat) (V : Nat → Value) (Ls : List (List Nat)) (w : World) (hn : n ≤ 9223372036854775807) (hl : Ls.length = n) (hat : At w A n V) (hV : ∀ j, j < n → Bytes w (V j) (Ls.getD j [])) :
    Calls Try.prog 46 #[.slice A n c] w fun e w' => e = .returned (.int .u32 (crc.sums Ls : Nat)) ∧ w = w' := by
  have HAT := Lib.hid hat; clear hat
  have HV := Lib.hid hV; clear hV
  have HL := Lib.hid hl; clear hl
  go_enter Try.func46, Try.ntmps46
  go_wp2
  go_loop [3, 8] (fun x i => ∃ (k s : Nat), k ≤ n ∧ i = .int .i64 (k : Int) ∧ x = .int .u32 (s : Int) ∧ s < 4294967296 ∧ s = crc.sums (Ls.take k)) (fun _ i => n - (intOf i).toNat)
  case atStart => exact ⟨0, 0, by omega, rfl, rfl, by omega, rfl⟩
  case round =>
    obtain ⟨k, s, hk, rfl, rfl, hs, hsum⟩ := hrel
    have HSUM := Lib.hid hsum; clear hsum
    by_cases hlt : k < n
    · obtain ⟨b, off, rfl, hbb, hc⟩ := HAT.out (by omega)
      obtain ⟨Ai, ci, hvi, hli, hati, hbi⟩ := HV.out k hlt
      have hc1 : w.cell? ⟨b, off + k, none⟩ = some (.slice Ai (Ls.getD k []).length ci) := by rw [hc k hlt, hvi]
      clear hc hvi
      obtain ⟨L, hL⟩ : ∃ L, L = Ls.getD k [] := ⟨_, rfl⟩
      rw [← hL] at hc1 hli hati hbi
      have HLL := Lib.hid hL; clear hL
      have HATI := Lib.hid hati; clear hati
      have HBI := Lib.hid hbi; clear hbi
      go_wp2_with fail
      refine (crc.more_any s Ai L.length ci L w hs (by omega) rfl HATI.out (fun j hj => getD_lt HBI.out j hj)).mono ?_
      rintro e w' ⟨rfl, rfl⟩
      go_wp2
      go_round
      case rel => exact ⟨k + 1, crc.more s L, by omega, by go_num, rfl, crc.more_lt _ _, by rw [crc.sums_take Ls k (by rw [HL.out]; exact hlt), ← HSUM.out, ← HLL.out]⟩
      case measure => simp [intOf]; omega
    · obtain rfl : k = n := by omega
      have hfin : s = crc.sums Ls := by rw [HSUM.out, List.take_of_length_le (by rw [HL.out]; omega)]
      have HFIN := Lib.hid hfin; clear hfin
      go_wp2
      go_ret
      exact ⟨by rw [← HFIN.out]; rfl, rfl⟩

theorem crc.known : crc.sums [[49, 50, 51, 52, 53, 54, 55, 56, 57]] = 3808858755 := by decide +kernel
theorem Bytes.lit (w : World) (C : Array Value) (L : List Nat) (t : TypeId) (fr : Nat × Nat) (hC : C = (u8s L).toArray) (h : ∀ x ∈ L, x < 256) (hl : L.length ≤ 1099511627776) : Bytes (w.alloc (.cells C t fr)) (.slice (some ⟨w.heap.size, 0, none⟩) L.length L.length) L := by
  subst hC
  exact ⟨_, _, rfl, hl, (At.new w (u8s L).toArray t (n := L.length) (by simp [u8s])).congr fun j hj => by
    have := u8s_getD L j hj
    simpa [byteAt] using this, h⟩
/-- A list of one value. -/
theorem one_val {w : World} {v : Value} {L : List Nat} (h : Bytes w v L) : ∀ j, j < 1 → Bytes w v ([L].getD j []) := fun j hj => by
  obtain rfl : j = 0 := by omega
  exact h

theorem xor_cancel {a b c : Nat} (h : a ^^^ c = b ^^^ c) : a = b := by
  have := congrArg (· ^^^ c) h
  simpa [Nat.xor_assoc] using this
theorem crc.high (x : Nat) (h : x < 2147483648) : 2147483648 ≤ x ^^^ 2197175160 := by
  have h1 : (x ^^^ 2197175160).testBit 31 = true := by
    rw [Nat.testBit_xor, Nat.testBit_lt_two_pow (show x < 2 ^ 31 by omega), show Nat.testBit 2197175160 31 = true by decide]; rfl
  exact Nat.ge_two_pow_of_testBit h1
theorem crc.bit_inj (a b : Nat) (ha : a < 4294967296) (hb : b < 4294967296) (h : crc.bit a = crc.bit b) : a = b := by
  unfold crc.bit at h
  by_cases pa : a % 2 = 1
  · rw [if_pos pa] at h
    by_cases pb : b % 2 = 1
    · rw [if_pos pb] at h
      have := xor_cancel h
      omega
    · rw [if_neg pb] at h
      have := crc.high (a / 2) (by omega)
      omega
  · rw [if_neg pa] at h
    by_cases pb : b % 2 = 1
    · rw [if_pos pb] at h
      have := crc.high (b / 2) (by omega)
      omega
    · rw [if_neg pb] at h
      omega
theorem crc.bitN_lt : ∀ (k r : Nat), r < 4294967296 → crc.bitN k r < 4294967296
  | 0, _, h => h
  | k + 1, r, h => crc.bitN_lt k _ (crc.bit_lt r h)
theorem crc.bitN_inj : ∀ (k a b : Nat), a < 4294967296 → b < 4294967296 → crc.bitN k a = crc.bitN k b → a = b
  | 0, _, _, _, _, h => h
  | k + 1, a, b, ha, hb, h => crc.bit_inj a b ha hb (crc.bitN_inj k _ _ (crc.bit_lt a ha) (crc.bit_lt b hb) h)
theorem crc.xor_lt {r x : Nat} (hr : r < 4294967296) (hx : x < 256) : r ^^^ x < 4294967296 := Nat.xor_lt_two_pow (n := 32) hr (by omega)
theorem crc.byte_lt {r x : Nat} (hr : r < 4294967296) (hx : x < 256) : crc.byte r x < 4294967296 := crc.bitN_lt 8 _ (crc.xor_lt hr hx)
theorem crc.byte_inj {a b x : Nat} (ha : a < 4294967296) (hb : b < 4294967296) (hx : x < 256) (h : crc.byte a x = crc.byte b x) : a = b :=
  xor_cancel (crc.bitN_inj 8 _ _ (crc.xor_lt ha hx) (crc.xor_lt hb hx) h)
theorem crc.byte_inj_x {r x y : Nat} (hr : r < 4294967296) (hx : x < 256) (hy : y < 256) (h : crc.byte r x = crc.byte r y) : x = y := by
  have := crc.bitN_inj 8 _ _ (crc.xor_lt hr hx) (crc.xor_lt hr hy) h
  rw [Nat.xor_comm r x, Nat.xor_comm r y] at this
  exact xor_cancel this
theorem crc.run_lt : ∀ (L : List Nat) (r : Nat), r < 4294967296 → (∀ x ∈ L, x < 256) → crc.run r L < 4294967296
  | [], _, h, _ => h
  | x :: L, r, h, hb => crc.run_lt L _ (crc.byte_lt h (hb x (by simp))) fun y hy => hb y (by simp [hy])
theorem crc.run_inj : ∀ (L : List Nat) (a b : Nat), a < 4294967296 → b < 4294967296 → (∀ x ∈ L, x < 256) → crc.run a L = crc.run b L → a = b
  | [], _, _, _, _, _, h => h
  | x :: L, a, b, ha, hb, hx, h =>
    crc.byte_inj ha hb (hx x (by simp)) (crc.run_inj L _ _ (crc.byte_lt ha (hx x (by simp))) (crc.byte_lt hb (hx x (by simp))) (fun y hy => hx y (by simp [hy])) h)
theorem crc.run_append (r : Nat) (a b : List Nat) : crc.run r (a ++ b) = crc.run (crc.run r a) b := by unfold crc.run; rw [List.foldl_append]
theorem crc.turn_inj {a b : Nat} (ha : a < 4294967296) (hb : b < 4294967296) (h : crc.turn a = crc.turn b) : a = b := by unfold crc.turn at h; omega

/-- A list with another byte at a place has another sum. -/
theorem crc.set_ne (L : List Nat) (i y : Nat) (hi : i < L.length) (hL : ∀ x ∈ L, x < 256) (hy : y < 256) (hne : y ≠ L.getD i 0) : crc.more 0 (L.set i y) ≠ crc.more 0 L := by
  intro h
  have hset : L.set i y = L.take i ++ y :: L.drop (i + 1) := List.set_eq_take_append_cons_drop.trans (if_pos hi)
  have hsame : L = L.take i ++ L.getD i 0 :: L.drop (i + 1) := by
    have e : L.getD i 0 = L[i] := by simp [List.getD, List.getElem?_eq_getElem hi]
    rw [e, ← List.drop_eq_getElem_cons hi, List.take_append_drop]
  have hpre : ∀ x ∈ L.take i, x < 256 := fun x hx => hL x (List.mem_of_mem_take hx)
  have hpost : ∀ x ∈ L.drop (i + 1), x < 256 := fun x hx => hL x (List.mem_of_mem_drop hx)
  have hx : L.getD i 0 < 256 := getD_lt hL i hi
  have ht : crc.turn 0 < 4294967296 := crc.turn_lt 0
  have hr := crc.run_lt (L.take i) _ ht hpre
  unfold crc.more at h
  rw [hset] at h
  have h2 : crc.run (crc.turn 0) L = crc.run (crc.byte (crc.run (crc.turn 0) (L.take i)) (L.getD i 0)) (L.drop (i + 1)) := by
    conv => lhs; rw [hsame]
    rw [crc.run_append]; rfl
  rw [h2, crc.run_append] at h
  have h3 : crc.run (crc.run (crc.turn 0) (L.take i)) (y :: L.drop (i + 1)) = crc.run (crc.byte (crc.run (crc.turn 0) (L.take i)) y) (L.drop (i + 1)) := rfl
  rw [h3] at h
  have hb1 := crc.byte_lt hr hy
  have hb2 := crc.byte_lt hr hx
  exact hne (crc.byte_inj_x hr hy hx (crc.run_inj _ _ _ hb1 hb2 hpost (crc.turn_inj (crc.run_lt _ _ hb1 hpost) (crc.run_lt _ _ hb2 hpost) h)))

theorem crc.flip_ne (x j : Nat) : x ^^^ 2 ^ j ≠ x := by
  intro h
  have : (x ^^^ 2 ^ j) ^^^ x = 0 := by rw [h, Nat.xor_self]
  rw [Nat.xor_comm x, Nat.xor_assoc, Nat.xor_self, Nat.xor_zero] at this
  have := Nat.two_pow_pos j
  omega
theorem crc.flip_lt (x j : Nat) (hx : x < 256) (hj : j < 8) : x ^^^ 2 ^ j < 256 :=
  Nat.xor_lt_two_pow (n := 8) hx (Nat.pow_lt_pow_right (by omega) hj)

set_option maxRecDepth 20000 in
set_option maxHeartbeats 1000000 in
theorem crc.refmore_any (s : Nat) (A : Option Addr) (n c : Nat) (L : List Nat) (w : World) (hs : s < 4294967296) (hn : n ≤ 9223372036854775807) (hl : L.length = n) (hat : At w A n (byteAt L)) (hb : ∀ j, j < n → L.getD j 0 < 256) :
    Calls Try.prog 69 #[.int .u32 (s : Int), .slice A n c] w fun e w' => e = .returned (.int .u32 (crc.run s L : Nat)) ∧ w = w' := by
  have HAT := Lib.hid hat; clear hat
  have HB := Lib.hid hb; clear hb
  have HL := Lib.hid hl; clear hl
  go_enter Try.func69, Try.ntmps69
  go_wp2
  go_loop [0, 5] (fun x i => ∃ (k r : Nat), k ≤ n ∧ i = .int .i64 (k : Int) ∧ x = .int .u32 (r : Int) ∧ r < 4294967296 ∧ r = crc.run s (L.take k)) (fun _ i => n - (intOf i).toNat)
  case atStart => exact ⟨0, s, by omega, rfl, rfl, hs, rfl⟩
  case round =>
    obtain ⟨k, r, hk, rfl, rfl, hr, hrun⟩ := hrel
    have HRUN := Lib.hid hrun; clear hrun
    by_cases hlt : k < n
    · obtain ⟨b, off, rfl, hbb, hc⟩ := HAT.out (by omega)
      obtain ⟨y, hy⟩ : ∃ y, y = L.getD k 0 := ⟨_, rfl⟩
      have hc1 : w.cell? ⟨b, off + k, none⟩ = some (.int .u8 (y : Int)) := by rw [hc k hlt, hy]; rfl
      clear hc
      have hy2 : y < 256 := by rw [hy]; exact HB.out k hlt
      have HY := Lib.hid hy; clear hy
      have hxy : Go.bits .xor .u32 (r : Int) (y : Int) = ((r ^^^ y : Nat) : Int) := u32_xor_nat r y hr (by omega)
      obtain ⟨q0, hq0⟩ : ∃ q, q = r ^^^ y := ⟨_, rfl⟩
      rw [← hq0] at hxy
      have hq0l : q0 < 4294967296 := by rw [hq0]; exact Nat.xor_lt_two_pow (n := 32) hr (by omega)
      have HQ0 := Lib.hid hq0; clear hq0
      go_wp2
      go_loop [0, 6] (fun x i => ∃ (m q : Nat), m ≤ 8 ∧ i = .int .i64 (m : Int) ∧ x = .int .u32 (q : Int) ∧ q < 4294967296 ∧ crc.bitN (8 - m) q = crc.bitN 8 q0) (fun _ i => 8 - (intOf i).toNat)
      case atStart => exact ⟨0, q0, by omega, rfl, rfl, hq0l, rfl⟩
      case round =>
        obtain ⟨m, q, hm, rfl, rfl, hq, hbn⟩ := hrel
        have HBN := Lib.hid hbn; clear hbn
        by_cases hm8 : m < 8
        · have hnx : crc.bitN (8 - (m + 1)) (crc.bit q) = crc.bitN 8 q0 := by
            have := HBN.out
            rw [show 8 - m = (8 - (m + 1)) + 1 by omega, crc.bitN] at this
            exact this
          have HNX := Lib.hid hnx; clear hnx
          by_cases hp : q % 2 = 1
          · have e1 : Go.bits .and .u32 (q : Int) 1 = 1 := by rw [crc.and1 q hq, hp]; rfl
            have e3 : Go.bits .xor .u32 ((q : Int) / 2) 2197175160 = ((q / 2 ^^^ 2197175160 : Nat) : Int) := u32_xor_nat (q / 2) 2197175160 (by omega) (by omega)
            have hv : crc.bit q = q / 2 ^^^ 2197175160 := by unfold crc.bit; rw [if_pos hp]
            have hvl := crc.bit_lt q hq
            obtain ⟨v, hv2⟩ : ∃ v, v = crc.bit q := ⟨_, rfl⟩
            rw [← hv, ← hv2] at e3
            rw [← hv2] at hvl
            have HV := Lib.hid hv2; clear hv2
            clear hv hp
            go_wp2
            go_round
            case rel => exact ⟨m + 1, v, by omega, by go_num, rfl, hvl, by rw [HV.out]; exact HNX.out⟩
            case measure => simp [intOf]; omega
          · have e1 : Go.bits .and .u32 (q : Int) 1 = 0 := by rw [crc.and1 q hq]; omega
            have hv : crc.bit q = q / 2 := by unfold crc.bit; rw [if_neg hp]
            have HV := Lib.hid hv; clear hv
            have hvl : q / 2 < 4294967296 := by omega
            clear hp
            go_wp2
            go_round
            case rel => exact ⟨m + 1, q / 2, by omega, by go_num, by go_num, hvl, by rw [← HV.out]; exact HNX.out⟩
            case measure => simp [intOf]; omega
        · obtain rfl : m = 8 := by omega
          have hfin : q = crc.run s (L.take (k + 1)) := by
            have h1 : q = crc.bitN 8 q0 := HBN.out
            rw [h1, crc.run_take _ _ _ (by rw [HL.out]; exact hlt), ← HRUN.out, ← HY.out, HQ0.out]; rfl
          have HFIN := Lib.hid hfin; clear hfin
          go_wp2
          go_round
          case rel => exact ⟨k + 1, q, by omega, by go_num, rfl, hq, HFIN.out⟩
          case measure => simp [intOf]; omega
    · obtain rfl : k = n := by omega
      have hfin : crc.run s L = r := by rw [HRUN.out, List.take_of_length_le (by rw [HL.out]; omega)]
      have HFIN := Lib.hid hfin; clear hfin
      go_wp2
      go_ret
      exact ⟨by rw [HFIN.out]; rfl, rfl⟩

set_option maxRecDepth 20000 in
set_option maxHeartbeats 400000 in
theorem crc.refsum_any (v : Value) (L : List Nat) (w : World) (hv : Bytes w v L) :
    Calls Try.prog 53 #[v] w fun e w' => e = .returned (.int .u32 (crc.more 0 L : Nat)) ∧ w = w' := by
  obtain ⟨A, c, rfl, hl, hat, hb⟩ := hv
  have ht : crc.turn 0 = 4294967295 := rfl
  have HAT := Lib.hid hat; clear hat
  have HB := Lib.hid hb; clear hb
  have hrl := crc.run_lt L 4294967295 (by omega) HB.out
  have hte := crc.turn_eq _ hrl
  have hfin : crc.more 0 L = crc.turn (crc.run 4294967295 L) := rfl
  have HFIN := Lib.hid hfin; clear hfin
  have HTE := Lib.hid hte; clear hte
  go_enter Try.func53, Try.ntmps53
  go_wp2_with fail
  refine (crc.refmore_any 4294967295 A L.length c L w (by omega) (by omega) rfl HAT.out (fun j hj => getD_lt HB.out j hj)).mono ?_
  rintro e w' ⟨rfl, rfl⟩
  obtain ⟨r, hr⟩ : ∃ r, r = crc.run 4294967295 L := ⟨_, rfl⟩
  rw [← hr] at hrl ⊢
  have hte := HTE.out
  rw [← hr] at hte
  have HR := Lib.hid hr; clear hr
  go_wp2
  go_ret
  exact ⟨by rw [HFIN.out, ← HR.out]; rfl, rfl⟩

theorem crc.turn_turn (x : Nat) (h : x < 4294967296) : crc.turn (crc.turn x) = x := by unfold crc.turn; omega
theorem crc.more_append (s : Nat) (a b : List Nat) (ha : ∀ x ∈ a, x < 256) : crc.more s (a ++ b) = crc.more (crc.more s a) b := by
  unfold crc.more
  rw [crc.run_append, crc.turn_turn _ (crc.run_lt a _ (crc.turn_lt s) ha)]
theorem crc.more_nil (s : Nat) (h : s < 4294967296) : crc.more s [] = s := crc.turn_turn s h
end Go.Proofs.Ytahncanmfjmfnaa

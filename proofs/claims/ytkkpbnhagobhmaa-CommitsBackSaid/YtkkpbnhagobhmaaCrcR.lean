/- Contracts of the document's own sums (cordwainref1). -/
import Derived.Test.YtkkpbnhagobhmaaProg
import Derived.Test.YtkkpbnhagobhmaaApp2
import Derived.WalkLawsBesides
import Derived.Laws.BitsAllLaws
import Derived.Laws.BitsLemmas
import Derived.Outline
import Derived.Lib.SlBytesConst
namespace Go.Proofs.Ytkkpbnhagobhmaa
open Go.RowKit

/-- One digit further. -/
def crc.bit (r : Nat) : Nat := if r % 2 = 1 then r / 2 ^^^ 2197175160 else r / 2
def crc.bitN : Nat → Nat → Nat
  | 0, r => r
  | k + 1, r => crc.bitN k (crc.bit r)
/-- One byte further. -/
def crc.byte (r x : Nat) : Nat := crc.bitN 8 (r ^^^ x)
def crc.run (r : Nat) (L : List Nat) : Nat := L.foldl crc.byte r
def crc.turn (r : Nat) : Nat := 4294967295 - r
def crc.more (s : Nat) (L : List Nat) : Nat := crc.turn (crc.run (crc.turn s) L)

theorem crc.turn_eq (s : Nat) (hs : s < 4294967296) : bits .xor .u32 IntKind.u32.max (s : Int) = ((crc.turn s : Nat) : Int) := by
  show IntKind.u32.wrap ((BitVec.ofInt 32 4294967295 ^^^ BitVec.ofInt 32 (s : Int)).toNat : Int) = _
  rw [show BitVec.ofInt 32 4294967295 = BitVec.allOnes 32 by decide, BitVec.allOnes_xor, BitVec.toNat_not, ofInt_u32 s hs, IntKind.wrap_u32']
  unfold crc.turn
  omega
theorem crc.turn_lt (s : Nat) : crc.turn s < 4294967296 := by unfold crc.turn; omega

theorem crc.poly : Go.bits .and .u32 2197175160 4294967295 = 2197175160 := by decide +kernel
theorem crc.poly0 : Go.bits .and .u32 2197175160 0 = 0 := by decide +kernel
theorem crc.and1 (q : Nat) (h : q < 4294967296) : Go.bits .and .u32 (q : Int) 1 = ((q % 2 : Nat) : Int) := by
  have := u32_and_nat q 1 h (by omega)
  rw [Nat.and_one_is_mod] at this
  exact this
theorem crc.bit_lt (q : Nat) (h : q < 4294967296) : crc.bit q < 4294967296 := by
  unfold crc.bit
  split
  · exact Nat.xor_lt_two_pow (n := 32) (by omega) (by omega)
  · omega
theorem crc.run_take (r : Nat) (L : List Nat) (k : Nat) (h : k < L.length) : crc.run r (L.take (k + 1)) = crc.byte (crc.run r (L.take k)) (L.getD k 0) := by
  unfold crc.run
  rw [List.take_succ_eq_append_getElem h, List.foldl_append]
  simp [List.getD, List.getElem?_eq_getElem h]

/-- A value is a slice of these bytes. -/
def Bytes (w : World) (v : Value) (L : List Nat) : Prop :=
  ∃ A c, v = .slice A L.length c ∧ L.length ≤ 1099511627776 ∧ At w A L.length (byteAt L) ∧ ∀ x ∈ L, x < 256
theorem Bytes.below {w w' : World} {v : Value} {L : List Nat} (h : Bytes w v L) (hb : Below w.heap.size w w') : Bytes w' v L := by
  obtain ⟨A, c, rfl, h1, h2, h3⟩ := h
  exact ⟨A, c, rfl, h1, h2.below hb (Nat.le_refl _), h3⟩
theorem getD_lt {L : List Nat} (h : ∀ x ∈ L, x < 256) (j : Nat) (hj : j < L.length) : L.getD j 0 < 256 := by
  simp only [List.getD, List.getElem?_eq_getElem hj, Option.getD_some]; exact h _ (List.getElem_mem _)

theorem crc.more_lt (s : Nat) (L : List Nat) : crc.more s L < 4294967296 := crc.turn_lt _
def crc.sums (Ls : List (List Nat)) : Nat := Ls.foldl crc.more 0
theorem crc.sums_take (Ls : List (List Nat)) (k : Nat) (h : k < Ls.length) : crc.sums (Ls.take (k + 1)) = crc.more (crc.sums (Ls.take k)) (Ls.getD k []) := by
  unfold crc.sums
  rw [List.take_succ_eq_append_getElem h, List.foldl_append]
  simp [List.getD, List.getElem?_eq_getElem h]

theorem crc.known : crc.sums [[49, 50, 51, 52, 53, 54, 55, 56, 57]] = 3808858755 := by decide +kernel
theorem Bytes.lit (w : World) (C : Array Value) (L : List Nat) (t : TypeId) (fr : Nat × Nat) (hC : C = (u8s L).toArray) (h : ∀ x ∈ L, x < 256) (hl : L.length ≤ 1099511627776) : Bytes (w.alloc (.cells C t fr)) (.slice (some ⟨w.heap.size, 0, none⟩) L.length L.length) L := by
  subst hC
  exact ⟨_, _, rfl, hl, (At.new w (u8s L).toArray t (n := L.length) (by simp [u8s])).congr fun j hj => by
    have := u8s_getD L j hj
    simpa [byteAt] using this, h⟩
/-- A list of one value. -/
theorem one_val {w : World} {v : Value} {L : List Nat} (h : Bytes w v L) : ∀ j, j < 1 → Bytes w v ([L].getD j []) := fun j hj => by
  obtain rfl : j = 0 := by omega
  exact h

theorem xor_cancel {a b c : Nat} (h : a ^^^ c = b ^^^ c) : a = b := by
  have := congrArg (· ^^^ c) h
  simpa [Nat.xor_assoc] using this
theorem crc.high (x : Nat) (h : x < 2147483648) : 2147483648 ≤ x ^^^ 2197175160 := by
  have h1 : (x ^^^ 2197175160).testBit 31 = true := by
    rw [Nat.testBit_xor, Nat.testBit_lt_two_pow (show x < 2 ^ 31 by omega), show Nat.testBit 2197175160 31 = true by decide]; rfl
  exact Nat.ge_two_pow_of_testBit h1
theorem crc.bit_inj (a b : Nat) (ha : a < 4294967296) (hb : b < 4294967296) (h : crc.bit a = crc.bit b) : a = b := by
  unfold crc.bit at h
  by_cases pa : a % 2 = 1
  · rw [if_pos pa] at h
    by_cases pb : b % 2 = 1
    · rw [if_pos pb] at h
      have := xor_cancel h
      omega
    · rw [if_neg pb] at h
      have := crc.high (a / 2) (by omega)
      omega
  · rw [if_neg pa] at h
    by_cases pb : b % 2 = 1
    · rw [if_pos pb] at h
      have := crc.high (b / 2) (by omega)
      omega
    · rw [if_neg pb] at h
      omega
theorem crc.bitN_lt : ∀ (k r : Nat), r < 4294967296 → crc.bitN k r < 4294967296
  | 0, _, h => h
  | k + 1, r, h => crc.bitN_lt k _ (crc.bit_lt r h)
theorem crc.bitN_inj : ∀ (k a b : Nat), a < 4294967296 → b < 4294967296 → crc.bitN k a = crc.bitN k b → a = b
  | 0, _, _, _, _, h => h
  | k + 1, a, b, ha, hb, h => crc.bit_inj a b ha hb (crc.bitN_inj k _ _ (crc.bit_lt a ha) (crc.bit_lt b hb) h)
theorem crc.xor_lt {r x : Nat} (hr : r < 4294967296) (hx : x < 256) : r ^^^ x < 4294967296 := Nat.xor_lt_two_pow (n := 32) hr (by omega)
theorem crc.byte_lt {r x : Nat} (hr : r < 4294967296) (hx : x < 256) : crc.byte r x < 4294967296 := crc.bitN_lt 8 _ (crc.xor_lt hr hx)
theorem crc.byte_inj {a b x : Nat} (ha : a < 4294967296) (hb : b < 4294967296) (hx : x < 256) (h : crc.byte a x = crc.byte b x) : a = b :=
  xor_cancel (crc.bitN_inj 8 _ _ (crc.xor_lt ha hx) (crc.xor_lt hb hx) h)
theorem crc.byte_inj_x {r x y : Nat} (hr : r < 4294967296) (hx : x < 256) (hy : y < 256) (h : crc.byte r x = crc.byte r y) : x = y := by
  have := crc.bitN_inj 8 _ _ (crc.xor_lt hr hx) (crc.xor_lt hr hy) h
  rw [Nat.xor_comm r x, Nat.xor_comm r y] at this
  exact xor_cancel this
theorem crc.run_lt : ∀ (L : List Nat) (r : Nat), r < 4294967296 → (∀ x ∈ L, x < 256) → crc.run r L < 4294967296
  | [], _, h, _ => h
  | x :: L, r, h, hb => crc.run_lt L _ (crc.byte_lt h (hb x (by simp))) fun y hy => hb y (by simp [hy])
theorem crc.run_inj : ∀ (L : List Nat) (a b : Nat), a < 4294967296 → b < 4294967296 → (∀ x ∈ L, x < 256) → crc.run a L = crc.run b L → a = b
  | [], _, _, _, _, _, h => h
  | x :: L, a, b, ha, hb, hx, h =>
    crc.byte_inj ha hb (hx x (by simp)) (crc.run_inj L _ _ (crc.byte_lt ha (hx x (by simp))) (crc.byte_lt hb (hx x (by simp))) (fun y hy => hx y (by simp [hy])) h)
theorem crc.run_append (r : Nat) (a b : List Nat) : crc.run r (a ++ b) = crc.run (crc.run r a) b := by unfold crc.run; rw [List.foldl_append]
theorem crc.turn_inj {a b : Nat} (ha : a < 4294967296) (hb : b < 4294967296) (h : crc.turn a = crc.turn b) : a = b := by unfold crc.turn at h; omega

/-- A list with another byte at a place has another sum. -/
theorem crc.set_ne (L : List Nat) (i y : Nat) (hi : i < L.length) (hL : ∀ x ∈ L, x < 256) (hy : y < 256) (hne : y ≠ L.getD i 0) : crc.more 0 (L.set i y) ≠ crc.more 0 L := by
  intro h
  have hset : L.set i y = L.take i ++ y :: L.drop (i + 1) := List.set_eq_take_append_cons_drop.trans (if_pos hi)
  have hsame : L = L.take i ++ L.getD i 0 :: L.drop (i + 1) := by
    have e : L.getD i 0 = L[i] := by simp [List.getD, List.getElem?_eq_getElem hi]
    rw [e, ← List.drop_eq_getElem_cons hi, List.take_append_drop]
  have hpre : ∀ x ∈ L.take i, x < 256 := fun x hx => hL x (List.mem_of_mem_take hx)
  have hpost : ∀ x ∈ L.drop (i + 1), x < 256 := fun x hx => hL x (List.mem_of_mem_drop hx)
  have hx : L.getD i 0 < 256 := getD_lt hL i hi
  have ht : crc.turn 0 < 4294967296 := crc.turn_lt 0
  have hr := crc.run_lt (L.take i) _ ht hpre
  unfold crc.more at h
  rw [hset] at h
  have h2 : crc.run (crc.turn 0) L = crc.run (crc.byte (crc.run (crc.turn 0) (L.take i)) (L.getD i 0)) (L.drop (i + 1)) := by
    conv => lhs; rw [hsame]
    rw [crc.run_append]; rfl
  rw [h2, crc.run_append] at h
  have h3 : crc.run (crc.run (crc.turn 0) (L.take i)) (y :: L.drop (i + 1)) = crc.run (crc.byte (crc.run (crc.turn 0) (L.take i)) y) (L.drop (i + 1)) := rfl
  rw [h3] at h
  have hb1 := crc.byte_lt hr hy
  have hb2 := crc.byte_lt hr hx
  exact hne (crc.byte_inj_x hr hy hx (crc.run_inj _ _ _ hb1 hb2 hpost (crc.turn_inj (crc.run_lt _ _ hb1 hpost) (crc.run_lt _ _ hb2 hpost) h)))

theorem crc.flip_ne (x j : Nat) : x ^^^ 2 ^ j ≠ x := by
  intro h
  have : (x ^^^ 2 ^ j) ^^^ x = 0 := by rw [h, Nat.xor_self]
  rw [Nat.xor_comm x, Nat.xor_assoc, Nat.xor_self, Nat.xor_zero] at this
  have := Nat.two_pow_pos j
  omega
theorem crc.flip_lt (x j : Nat) (hx : x < 256) (hj : j < 8) : x ^^^ 2 ^ j < 256 :=
  Nat.xor_lt_two_pow (n := 8) hx (Nat.pow_lt_pow_right (by omega) hj)

theorem crc.turn_turn (x : Nat) (h : x < 4294967296) : crc.turn (crc.turn x) = x := by unfold crc.turn; omega
theorem crc.more_append (s : Nat) (a b : List Nat) (ha : ∀ x ∈ a, x < 256) : crc.more s (a ++ b) = crc.more (crc.more s a) b := by
  unfold crc.more
  rw [crc.run_append, crc.turn_turn _ (crc.run_lt a _ (crc.turn_lt s) ha)]
theorem crc.more_nil (s : Nat) (h : s < 4294967296) : crc.more s [] = s := crc.turn_turn s h
end Go.Proofs.Ytkkpbnhagobhmaa

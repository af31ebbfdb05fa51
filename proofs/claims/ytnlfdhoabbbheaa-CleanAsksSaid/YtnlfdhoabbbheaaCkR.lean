/- The reference's Check, out of the texts of chapter 5: what it leans on alone. -/
import Derived.Test.YtnlfdhoabbbheaaProg
import Derived.Test.YtnlfdhoabbbheaaKit
import Derived.Test.YtnlfdhoabbbheaaApp2
import Derived.WalkLawsBesides
import Derived.Laws.BitsAllLaws
import Derived.Laws.BitsLemmas
import Derived.Outline
import Derived.Test.YtnlfdhoabbbheaaByte
import Derived.OwnWalk
import Derived.Deep.AppendLies
import Derived.Test.YtnlfdhoabbbheaaPlanE
import Derived.Test.YtnlfdhoabbbheaaPlanC
import Derived.Test.YtnlfdhoabbbheaaBats
import Derived.Lib.SlBytesConst
import Derived.Deep.CutRange
namespace Go.Proofs.Ytnlfdhoabbbheaa
open Go.RowKit
set_option maxRecDepth 20000

def num.zig (n : Int) : Int := if 0 ≤ n then 2 * n else -2 * n - 1
theorem num.and1 (u : Int) (h1 : 0 ≤ u) (h2 : u ≤ 18446744073709551615) : bits .and .u64 u 1 = u % 2 :=
  bits_mask .u64 64 (by decide) (fun n h0 h => by rw [IntKind.wrap_u64]; omega) 1 (by decide) u h1 (by omega)

theorem num.zig_bd (n : Int) (h1 : -9223372036854775808 ≤ n) (h2 : n ≤ 9223372036854775807) : 0 ≤ num.zig n ∧ num.zig n ≤ 18446744073709551615 := by unfold num.zig; split <;> omega
/-- How many digits of seven bits, k more than one at most. -/
def num.wd : Nat → Nat → Nat
  | 0, _ => 1
  | k + 1, u => if u < 128 then 1 else num.wd k (u / 128) + 1
theorem num.wd_le (k u : Nat) : 1 ≤ num.wd k u ∧ num.wd k u ≤ k + 1 := by
  induction k generalizing u with
  | zero => simp [num.wd]
  | succ k ih => rw [num.wd]; have := ih (u / 128); split <;> omega
/-- How many bytes a number has. -/
def num.wid (u : Nat) : Nat := num.wd 9 u
/-- What is left of a number stays small. -/
theorem num.less {u k : Nat} (h : u < 2 * 128 ^ k) (hu : ¬ u < 128) : ∃ k', k = k' + 1 ∧ u / 128 < 2 * 128 ^ k' := by
  cases k with
  | zero => simp at h; omega
  | succ k' => exact ⟨k', rfl, by rw [Nat.pow_succ] at h; omega⟩

/-- The digits, the low ones first. -/
def num.dg : Nat → Nat → List Nat
  | 0, u => [u]
  | k + 1, u => if u < 128 then [u] else (u % 128 + 128) :: num.dg k (u / 128)
theorem num.dg_low (k u : Nat) (h : u < 128) : num.dg k u = [u] := by cases k <;> simp [num.dg, h]
theorem num.dg_up (k u : Nat) (h : ¬ u < 128) : num.dg (k + 1) u = (u % 128 + 128) :: num.dg k (u / 128) := by rw [num.dg, if_neg h]
theorem num.dg_len (k u : Nat) : (num.dg k u).length = num.wd k u := by
  induction k generalizing u with
  | zero => rfl
  | succ k ih => rw [num.dg, num.wd]; split <;> simp [ih]

theorem num.or128 (y : Nat) (h : y < 256) : bits .or .u8 (y : Int) 128 = ((y % 128 + 128 : Nat) : Int) := by
  have : ∀ y : Fin 256, bits .or .u8 ((y.val : Nat) : Int) 128 = ((y.val % 128 + 128 : Nat) : Int) := by decide +kernel
  exact this ⟨y, h⟩
theorem num.low8 (c : Nat) : bits .or .u8 ((c : Int) % 256) 128 = (c : Int) % 128 + 128 := by
  rw [show ((c : Int) % 256) = ((c % 256 : Nat) : Int) by omega, num.or128 _ (by omega), show c % 256 % 128 = c % 128 by omega]
  omega
/-- The bytes of a number. -/
def num.put (n : Int) : List Nat := num.dg 9 (num.zig n).toNat
theorem num.put_len (n : Int) : (num.put n).length = num.wid (num.zig n).toNat := num.dg_len _ _
theorem num.put_bd (n : Int) : 1 ≤ (num.put n).length ∧ (num.put n).length ≤ 10 := by rw [num.put_len]; have := num.wd_le 9 (num.zig n).toNat; unfold num.wid; omega

/-- The rounds of Put: so many bytes stand, c is left. -/
def num.Pd (n : Int) (k c : Nat) (l : List Nat) : Prop := c < 2 * 128 ^ k ∧ l ++ num.dg k c = num.put n ∧ l.length + k = 9

theorem num.zig_small (n : Int) (h1 : -9223372036854775808 ≤ n) (h2 : n ≤ 9223372036854775807) : (num.zig n).toNat < 2 * 128 ^ 9 := by have := num.zig_bd n h1 h2; omega
theorem num.dg_byte : ∀ (k u : Nat), u < 2 * 128 ^ k → ∀ x ∈ num.dg k u, x < 256
  | 0, u, hu, x, hx => by
    simp only [num.dg, List.mem_cons, List.not_mem_nil, or_false] at hx
    simp at hu; omega
  | k + 1, u, hu, x, hx => by
    by_cases h : u < 128
    · rw [num.dg_low _ _ h] at hx; simp at hx; omega
    · rw [num.dg_up _ _ h, List.mem_cons] at hx
      rcases hx with hx | hx
      · omega
      · exact num.dg_byte k (u / 128) (by rw [Nat.pow_succ] at hu; omega) x hx
theorem num.put_byte (n : Int) (h1 : -9223372036854775808 ≤ n) (h2 : n ≤ 9223372036854775807) : ∀ x ∈ num.put n, x < 256 := num.dg_byte 9 _ (num.zig_small n h1 h2)

/-- May its head be? -/
def Bat.may (b : Bat) : Prop := 0 ≤ b.base ∧ b.base ≤ 4611686018427387904 ∧ b.base ≤ b.last ∧ b.last ≤ 4611686018427387904 ∧ 0 ≤ b.prod ∧ b.prod ≤ 1099511627776 ∧ 0 ≤ b.epoch ∧ b.epoch ≤ 32767 ∧ 0 ≤ b.seq ∧ b.seq ≤ 2147483647 ∧ (b.prod ≠ 0 ∨ (b.epoch = 0 ∧ b.seq = 0))
instance (b : Bat) : Decidable b.may := by unfold Bat.may; infer_instance
/-- A batch's value, its records at A. -/
def Bat.hval (b : Bat) (A : Option Addr) (n c : Nat) : Value := .agg #[.int .i64 b.base, .int .i64 b.last, .int .i64 b.prod, .int .i64 b.epoch, .int .i64 b.seq, .slice A n c]
/-- A record's value, its key and its value at Ak, Av. -/
def Rec.hval (r : Rec) (Ak : Option Addr) (ck : Nat) (Av : Option Addr) (cv : Nat) : Value := .agg #[.int .i64 r.off, .int .i64 r.time, .bool r.hasKey, .slice Ak r.key.length ck, .bool r.hasVal, .slice Av r.val.length cv]

/-- May a record be? -/
def Rec.chk (r : Rec) : Int :=
  if r.time < 0 ∨ 1125899906842624 < r.time then 1 else
  if (r.hasKey = false ∧ 0 < r.key.length) ∨ (r.hasVal = false ∧ 0 < r.val.length) then 1 else
  if 200 < r.key.length ∨ 2000 < r.val.length then 3 else 0

def bat.len (has : Bool) (n : Nat) : Int := if has then n else -1
def num.widI (n : Int) : Nat := num.wid (num.zig n).toNat
theorem num.widI_le (n : Int) : num.widI n ≤ 10 := (num.wd_le 9 _).2

/-- How long a record's body is. -/
def Rec.body (r : Rec) (first base : Int) : Int :=
  num.widI (r.time - first) + num.widI (r.off - base) + num.widI (bat.len r.hasKey r.key.length) + r.key.length + num.widI (bat.len r.hasVal r.val.length) + r.val.length

def Bat.first (rs : List Rec) : Int := match rs with | [] => 0 | r :: _ => r.time
/-- How long a batch is whose records are these. -/
def Bat.sum (first base : Int) (rs : List Rec) : Int := (rs.map fun r => ((num.widI (r.body first base) : Nat) : Int) + r.body first base).sum
def Bat.size (b : Bat) : Int := 50 + Bat.sum (Bat.first b.recs) b.base b.recs
/-- A record that may be, in a batch that may. -/
def Rec.ok (r : Rec) : Prop := 0 ≤ r.time ∧ r.time ≤ 1125899906842624 ∧ 0 ≤ r.off ∧ r.off ≤ 4611686018427387904 ∧ r.key.length ≤ 200 ∧ r.val.length ≤ 2000
theorem Rec.body_le {r : Rec} (h : r.ok) (first base : Int) : 0 ≤ r.body first base ∧ r.body first base ≤ 2240 := by
  have z1 := num.widI_le (r.time - first)
  have z2 := num.widI_le (r.off - base)
  have z3 := num.widI_le (bat.len r.hasKey r.key.length)
  have z4 := num.widI_le (bat.len r.hasVal r.val.length)
  obtain ⟨-, -, -, -, h5, h6⟩ := h
  unfold Rec.body
  omega
theorem Bat.sum_le (first base : Int) (rs : List Rec) (h : ∀ r ∈ rs, r.ok) : 0 ≤ Bat.sum first base rs ∧ Bat.sum first base rs ≤ 2250 * rs.length := by
  unfold Bat.sum
  induction rs with
  | nil => simp
  | cons r rs ih =>
    have := ih fun x hx => h x (List.mem_cons_of_mem _ hx)
    have h1 := Rec.body_le (h r (List.mem_cons_self ..)) first base
    have h2 := num.widI_le (r.body first base)
    simp only [List.map_cons, List.sum_cons, List.length_cons]
    omega
/-- The records' first error, behind an offset. -/
def bat.chks (last : Int) : Int → List Rec → Int
  | _, [] => 0
  | ahead, r :: rs => if r.off ≤ ahead ∨ last < r.off then 1 else if r.chk ≠ 0 then r.chk else bat.chks last r.off rs
theorem bat.chks_nil (last a : Int) : bat.chks last a [] = 0 := rfl
theorem bat.chks_cons (last a : Int) (r : Rec) (rs : List Rec) : bat.chks last a (r :: rs) = if r.off ≤ a ∨ last < r.off then 1 else if r.chk ≠ 0 then r.chk else bat.chks last r.off rs := rfl
/-- May a batch be? -/
def Bat.check (b : Bat) : Int :=
  if ¬ b.may then 1 else if 100 < b.recs.length then 3 else if bat.chks b.last (b.base - 1) b.recs ≠ 0 then bat.chks b.last (b.base - 1) b.recs else if 65536 < b.size then 3 else 0
theorem Rec.chk_ok {r : Rec} (h : r.chk = 0) : 0 ≤ r.time ∧ r.time ≤ 1125899906842624 ∧ r.key.length ≤ 200 ∧ r.val.length ≤ 2000 := by
  unfold Rec.chk at h
  split at h
  · cases h
  · split at h
    · cases h
    · split at h
      · cases h
      · rename_i h1 _ h3
        omega
theorem bat.chks_ok {last : Int} (hl : last ≤ 4611686018427387904) : ∀ (rs : List Rec) (ahead : Int), -1 ≤ ahead → bat.chks last ahead rs = 0 → ∀ r ∈ rs, r.ok := by
  intro rs
  induction rs with
  | nil => intro _ _ _ r hr; cases hr
  | cons x xs ih =>
    intro ahead ha h r hr
    unfold bat.chks at h
    split at h
    · cases h
    · rename_i h1
      split at h
      · rename_i h2; exact absurd h h2
      · rename_i h2
        have h3 := Rec.chk_ok (r := x) (by omega)
        rcases List.mem_cons.1 hr with rfl | hr
        · exact ⟨h3.1, h3.2.1, by omega, by omega, h3.2.2.1, h3.2.2.2⟩
        · exact ih x.off (by omega) h r hr

/-- A number in so many bytes, the greatest first. -/
def wire.be (n : Nat) : Nat → List Nat
  | 0 => []
  | k + 1 => n / 256 ^ k % 256 :: wire.be n k
theorem wire.be_len (n k : Nat) : (wire.be n k).length = k := by
  induction k with
  | zero => rfl
  | succ k ih => simp [wire.be, ih]

theorem wire.be_byte (n : Nat) : ∀ k, ∀ d ∈ wire.be n k, d < 256
  | 0, d, h => by simp [wire.be] at h
  | k + 1, d, h => by
    simp only [wire.be, List.mem_cons] at h
    rcases h with rfl | h
    · omega
    · exact wire.be_byte n k d h

theorem wire.byte_shift (n k : Nat) : IntKind.u8.wrap ((n : Int) / 2 ^ (8 * (k : Int)).toNat) = ((n / 256 ^ k % 256 : Nat) : Int) := by
  have e : (8 * (k : Int)).toNat = 8 * k := by omega
  have e2 : ((2 : Int) ^ (8 * k)) = ((256 ^ k : Nat) : Int) := by
    rw [show (256 : Nat) = 2 ^ 8 by rfl, ← Nat.pow_mul]; push_cast; rfl
  rw [e, IntKind.wrap_u8, e2]
  exact (congrArg (fun z : Int => z % 256) (rfl : (n : Int) / ((256 ^ k : Nat) : Int) = ((n / 256 ^ k : Nat) : Int))).trans rfl
/-- One digit further. -/
def crc.bit (r : Nat) : Nat := if r % 2 = 1 then r / 2 ^^^ 2197175160 else r / 2
def crc.bitN : Nat → Nat → Nat
  | 0, r => r
  | k + 1, r => crc.bitN k (crc.bit r)
/-- One byte further. -/
def crc.byte (r x : Nat) : Nat := crc.bitN 8 (r ^^^ x)
def crc.run (r : Nat) (L : List Nat) : Nat := L.foldl crc.byte r
def crc.turn (r : Nat) : Nat := 4294967295 - r
def crc.more (s : Nat) (L : List Nat) : Nat := crc.turn (crc.run (crc.turn s) L)

theorem crc.turn_eq (s : Nat) (hs : s < 4294967296) : bits .xor .u32 IntKind.u32.max (s : Int) = ((crc.turn s : Nat) : Int) := by
  show IntKind.u32.wrap ((BitVec.ofInt 32 4294967295 ^^^ BitVec.ofInt 32 (s : Int)).toNat : Int) = _
  rw [show BitVec.ofInt 32 4294967295 = BitVec.allOnes 32 by decide, BitVec.allOnes_xor, BitVec.toNat_not, ofInt_u32 s hs, IntKind.wrap_u32']
  unfold crc.turn
  omega
theorem crc.turn_lt (s : Nat) : crc.turn s < 4294967296 := by unfold crc.turn; omega

theorem crc.and1 (q : Nat) (h : q < 4294967296) : Go.bits .and .u32 (q : Int) 1 = ((q % 2 : Nat) : Int) := by
  have := u32_and_nat q 1 h (by omega)
  rw [Nat.and_one_is_mod] at this
  exact this
theorem crc.bit_lt (q : Nat) (h : q < 4294967296) : crc.bit q < 4294967296 := by
  unfold crc.bit
  split
  · exact Nat.xor_lt_two_pow (n := 32) (by omega) (by omega)
  · omega
theorem crc.run_take (r : Nat) (L : List Nat) (k : Nat) (h : k < L.length) : crc.run r (L.take (k + 1)) = crc.byte (crc.run r (L.take k)) (L.getD k 0) := by
  unfold crc.run
  rw [List.take_succ_eq_append_getElem h, List.foldl_append]
  simp [List.getD, List.getElem?_eq_getElem h]

/-- A value is a slice of these bytes. -/
def Bytes (w : World) (v : Value) (L : List Nat) : Prop :=
  ∃ A c, v = .slice A L.length c ∧ L.length ≤ 1099511627776 ∧ At w A L.length (byteAt L) ∧ ∀ x ∈ L, x < 256
theorem Bytes.below {w w' : World} {v : Value} {L : List Nat} (h : Bytes w v L) (hb : Below w.heap.size w w') : Bytes w' v L := by
  obtain ⟨A, c, rfl, h1, h2, h3⟩ := h
  exact ⟨A, c, rfl, h1, h2.below hb (Nat.le_refl _), h3⟩
theorem getD_lt {L : List Nat} (h : ∀ x ∈ L, x < 256) (j : Nat) (hj : j < L.length) : L.getD j 0 < 256 := by
  simp only [List.getD, List.getElem?_eq_getElem hj, Option.getD_some]; exact h _ (List.getElem_mem _)

theorem crc.more_lt (s : Nat) (L : List Nat) : crc.more s L < 4294967296 := crc.turn_lt _
theorem crc.bitN_lt : ∀ (k r : Nat), r < 4294967296 → crc.bitN k r < 4294967296
  | 0, _, h => h
  | k + 1, r, h => crc.bitN_lt k _ (crc.bit_lt r h)
theorem crc.xor_lt {r x : Nat} (hr : r < 4294967296) (hx : x < 256) : r ^^^ x < 4294967296 := Nat.xor_lt_two_pow (n := 32) hr (by omega)
theorem crc.byte_lt {r x : Nat} (hr : r < 4294967296) (hx : x < 256) : crc.byte r x < 4294967296 := crc.bitN_lt 8 _ (crc.xor_lt hr hx)
theorem crc.run_lt : ∀ (L : List Nat) (r : Nat), r < 4294967296 → (∀ x ∈ L, x < 256) → crc.run r L < 4294967296
  | [], _, h, _ => h
  | x :: L, r, h, hb => crc.run_lt L _ (crc.byte_lt h (hb x (by simp))) fun y hy => hb y (by simp [hy])
set_option maxRecDepth 20000 in
set_option maxHeartbeats 1000000 in
theorem crc.refmore_any (s : Nat) (A : Option Addr) (n c : Nat) (L : List Nat) (w : World) (hs : s < 4294967296) (hn : n ≤ 9223372036854775807) (hl : L.length = n) (hat : At w A n (byteAt L)) (hb : ∀ j, j < n → L.getD j 0 < 256) :
    Calls Try.prog 65 #[.int .u32 (s : Int), .slice A n c] w fun e w' => e = .returned (.int .u32 (crc.run s L : Nat)) ∧ w = w' := by
  have HAT := Lib.hid hat; clear hat
  have HB := Lib.hid hb; clear hb
  have HL := Lib.hid hl; clear hl
  go_enter Try.func65, Try.ntmps65
  go_wp2
  go_loop [0, 5] (fun x i => ∃ (k r : Nat), k ≤ n ∧ i = .int .i64 (k : Int) ∧ x = .int .u32 (r : Int) ∧ r < 4294967296 ∧ r = crc.run s (L.take k)) (fun _ i => n - (intOf i).toNat)
  case atStart => exact ⟨0, s, by omega, rfl, rfl, hs, rfl⟩
  case round =>
    obtain ⟨k, r, hk, rfl, rfl, hr, hrun⟩ := hrel
    have HRUN := Lib.hid hrun; clear hrun
    by_cases hlt : k < n
    · obtain ⟨b, off, rfl, hbb, hc⟩ := HAT.out (by omega)
      obtain ⟨y, hy⟩ : ∃ y, y = L.getD k 0 := ⟨_, rfl⟩
      have hc1 : w.cell? ⟨b, off + k, none⟩ = some (.int .u8 (y : Int)) := by rw [hc k hlt, hy]; rfl
      clear hc
      have hy2 : y < 256 := by rw [hy]; exact HB.out k hlt
      have HY := Lib.hid hy; clear hy
      have hxy : Go.bits .xor .u32 (r : Int) (y : Int) = ((r ^^^ y : Nat) : Int) := u32_xor_nat r y hr (by omega)
      obtain ⟨q0, hq0⟩ : ∃ q, q = r ^^^ y := ⟨_, rfl⟩
      rw [← hq0] at hxy
      have hq0l : q0 < 4294967296 := by rw [hq0]; exact Nat.xor_lt_two_pow (n := 32) hr (by omega)
      have HQ0 := Lib.hid hq0; clear hq0
      go_wp2
      go_loop [0, 6] (fun x i => ∃ (m q : Nat), m ≤ 8 ∧ i = .int .i64 (m : Int) ∧ x = .int .u32 (q : Int) ∧ q < 4294967296 ∧ crc.bitN (8 - m) q = crc.bitN 8 q0) (fun _ i => 8 - (intOf i).toNat)
      case atStart => exact ⟨0, q0, by omega, rfl, rfl, hq0l, rfl⟩
      case round =>
        obtain ⟨m, q, hm, rfl, rfl, hq, hbn⟩ := hrel
        have HBN := Lib.hid hbn; clear hbn
        by_cases hm8 : m < 8
        · have hnx : crc.bitN (8 - (m + 1)) (crc.bit q) = crc.bitN 8 q0 := by
            have := HBN.out
            rw [show 8 - m = (8 - (m + 1)) + 1 by omega, crc.bitN] at this
            exact this
          have HNX := Lib.hid hnx; clear hnx
          by_cases hp : q % 2 = 1
          · have e1 : Go.bits .and .u32 (q : Int) 1 = 1 := by rw [crc.and1 q hq, hp]; rfl
            have e3 : Go.bits .xor .u32 ((q : Int) / 2) 2197175160 = ((q / 2 ^^^ 2197175160 : Nat) : Int) := u32_xor_nat (q / 2) 2197175160 (by omega) (by omega)
            have hv : crc.bit q = q / 2 ^^^ 2197175160 := by unfold crc.bit; rw [if_pos hp]
            have hvl := crc.bit_lt q hq
            obtain ⟨v, hv2⟩ : ∃ v, v = crc.bit q := ⟨_, rfl⟩
            rw [← hv, ← hv2] at e3
            rw [← hv2] at hvl
            have HV := Lib.hid hv2; clear hv2
            clear hv hp
            go_wp2
            go_round
            case rel => exact ⟨m + 1, v, by omega, by go_num, rfl, hvl, by rw [HV.out]; exact HNX.out⟩
            case measure => simp [intOf]; omega
          · have e1 : Go.bits .and .u32 (q : Int) 1 = 0 := by rw [crc.and1 q hq]; omega
            have hv : crc.bit q = q / 2 := by unfold crc.bit; rw [if_neg hp]
            have HV := Lib.hid hv; clear hv
            have hvl : q / 2 < 4294967296 := by omega
            clear hp
            go_wp2
            go_round
            case rel => exact ⟨m + 1, q / 2, by omega, by go_num, by go_num, hvl, by rw [← HV.out]; exact HNX.out⟩
            case measure => simp [intOf]; omega
        · obtain rfl : m = 8 := by omega
          have hfin : q = crc.run s (L.take (k + 1)) := by
            have h1 : q = crc.bitN 8 q0 := HBN.out
            rw [h1, crc.run_take _ _ _ (by rw [HL.out]; exact hlt), ← HRUN.out, ← HY.out, HQ0.out]; rfl
          have HFIN := Lib.hid hfin; clear hfin
          go_wp2
          go_round
          case rel => exact ⟨k + 1, q, by omega, by go_num, rfl, hq, HFIN.out⟩
          case measure => simp [intOf]; omega
    · obtain rfl : k = n := by omega
      have hfin : crc.run s L = r := by rw [HRUN.out, List.take_of_length_le (by rw [HL.out]; omega)]
      have HFIN := Lib.hid hfin; clear hfin
      go_wp2
      go_ret
      exact ⟨by rw [HFIN.out]; rfl, rfl⟩

set_option maxRecDepth 20000 in
set_option maxHeartbeats 400000 in
theorem crc.refsum_any (v : Value) (L : List Nat) (w : World) (hv : Bytes w v L) :
    Calls Try.prog 60 #[v] w fun e w' => e = .returned (.int .u32 (crc.more 0 L : Nat)) ∧ w = w' := by
  obtain ⟨A, c, rfl, hl, hat, hb⟩ := hv
  have ht : crc.turn 0 = 4294967295 := rfl
  have HAT := Lib.hid hat; clear hat
  have HB := Lib.hid hb; clear hb
  have hrl := crc.run_lt L 4294967295 (by omega) HB.out
  have hte := crc.turn_eq _ hrl
  have hfin : crc.more 0 L = crc.turn (crc.run 4294967295 L) := rfl
  have HFIN := Lib.hid hfin; clear hfin
  have HTE := Lib.hid hte; clear hte
  go_enter Try.func60, Try.ntmps60
  go_wp2_with fail
  refine (crc.refmore_any 4294967295 A L.length c L w (by omega) (by omega) rfl HAT.out (fun j hj => getD_lt HB.out j hj)).mono ?_
  rintro e w' ⟨rfl, rfl⟩
  obtain ⟨r, hr⟩ : ∃ r, r = crc.run 4294967295 L := ⟨_, rfl⟩
  rw [← hr] at hrl ⊢
  have hte := HTE.out
  rw [← hr] at hte
  have HR := Lib.hid hr; clear hr
  go_wp2
  go_ret
  exact ⟨by rw [HFIN.out, ← HR.out]; rfl, rfl⟩

def bat.field (has : Bool) (L : List Nat) : List Nat := if has then num.put L.length ++ L else num.put (-1)
def Rec.bytes (first base : Int) (r : Rec) : List Nat := num.put (r.body first base) ++ num.put (r.time - first) ++ num.put (r.off - base) ++ bat.field r.hasKey r.key ++ bat.field r.hasVal r.val
def Bat.head (b : Bat) : List Nat := wire.be (b.last - b.base).toNat 8 ++ wire.be (Bat.first b.recs).toNat 8 ++ wire.be b.prod.toNat 8 ++ wire.be b.epoch.toNat 2 ++ wire.be b.seq.toNat 4 ++ wire.be b.recs.length 4
def Bat.body (b : Bat) (k : Nat) : List Nat := b.head ++ ((b.recs.take k).map (Rec.bytes (Bat.first b.recs) b.base)).flatten
def Bat.summed (b : Bat) : List Nat := b.body b.recs.length
def Bat.front (b : Bat) : List Nat := wire.be b.base.toNat 8 ++ wire.be (4 + b.summed.length) 4 ++ wire.be (crc.more 0 b.summed) 4
def Bat.bytes (b : Bat) : List Nat := b.front ++ b.summed

theorem bat.field_le (has : Bool) (L : List Nat) : (bat.field has L).length ≤ 10 + L.length := by
  unfold bat.field
  split
  · have := num.put_bd (L.length : Int); rw [List.length_append]; omega
  · have := num.put_bd (-1); omega
theorem Rec.bytes_le {r : Rec} (h : r.ok) (first base : Int) : (r.bytes first base).length ≤ 2250 := by
  obtain ⟨-, -, -, -, h5, h6⟩ := h
  unfold Rec.bytes
  simp only [List.length_append]
  have a1 := num.put_bd (r.body first base)
  have a2 := num.put_bd (r.time - first)
  have a3 := num.put_bd (r.off - base)
  have a4 := bat.field_le r.hasKey r.key
  have a5 := bat.field_le r.hasVal r.val
  omega
theorem Bat.head_len (b : Bat) : b.head.length = 34 := by
  unfold Bat.head
  simp only [List.length_append, wire.be_len]
theorem Bat.flat_le (first base : Int) (rs : List Rec) (h : ∀ r ∈ rs, r.ok) : ((rs.map (Rec.bytes first base)).flatten).length ≤ 2250 * rs.length := by
  induction rs with
  | nil => simp
  | cons r rs ih =>
    have := ih fun x hx => h x (List.mem_cons_of_mem _ hx)
    have h1 := Rec.bytes_le (h r (List.mem_cons_self ..)) first base
    simp only [List.map_cons, List.flatten_cons, List.length_append, List.length_cons]
    omega
theorem Bat.body_le (b : Bat) (h : ∀ r ∈ b.recs, r.ok) (hl : b.recs.length ≤ 100) (k : Nat) : (b.body k).length ≤ 225034 := by
  have h1 := Bat.flat_le (Bat.first b.recs) b.base (b.recs.take k) fun r hr => h r (List.mem_of_mem_take hr)
  have h2 := b.head_len
  unfold Bat.body
  rw [List.length_append, h2]
  rw [List.length_take] at h1
  omega
theorem Bat.body_succ (b : Bat) (k : Nat) (r : Rec) (h : b.recs[k]? = some r) : b.body (k + 1) = b.body k ++ r.bytes (Bat.first b.recs) b.base := by
  obtain ⟨hk, rfl⟩ := List.getElem?_eq_some_iff.1 h
  unfold Bat.body
  rw [List.take_succ_eq_append_getElem hk, List.map_append, List.flatten_append]
  simp
theorem bat.field_byte {has : Bool} {L : List Nat} (h : ∀ x ∈ L, x < 256) (hl : L.length ≤ 1000000) : ∀ x ∈ bat.field has L, x < 256 := by
  unfold bat.field
  split
  · intro x hx
    rcases List.mem_append.1 hx with q | q
    · exact num.put_byte _ (by omega) (by omega) x q
    · exact h x q
  · exact fun x hx => num.put_byte _ (by decide) (by decide) x hx

theorem Rec.bytes_byte {r : Rec} (h : r.ok) (hk : ∀ x ∈ r.key, x < 256) (hv : ∀ x ∈ r.val, x < 256) {first base : Int} (h1 : 0 ≤ first) (h2 : first ≤ 1125899906842624) (h3 : 0 ≤ base) (h4 : base ≤ 4611686018427387904) : ∀ x ∈ r.bytes first base, x < 256 := by
  have hb := Rec.body_le h first base
  obtain ⟨a1, a2, a3, a4, a5, a6⟩ := h
  intro x hx
  unfold Rec.bytes at hx
  simp only [List.mem_append] at hx
  rcases hx with (((q | q) | q) | q) | q
  · exact num.put_byte _ (by omega) (by omega) x q
  · exact num.put_byte _ (by omega) (by omega) x q
  · exact num.put_byte _ (by omega) (by omega) x q
  · exact bat.field_byte hk (by omega) x q
  · exact bat.field_byte hv (by omega) x q
theorem RecsV.byte {w : World} {v : Value} {rs : List Rec} (h : RecsV w v rs) : ∀ r ∈ rs, (∀ x ∈ r.key, x < 256) ∧ (∀ x ∈ r.val, x < 256) := by
  intro r hr
  obtain ⟨j, hj⟩ := List.mem_iff_getElem?.1 hr
  obtain ⟨p, off, c', kv, vv, -, -, -, -, -, -, -, -, -, -, hk, hvv, -, -⟩ := h.at' hj
  obtain ⟨_, _, _, _, _, _, h1⟩ := hk
  obtain ⟨_, _, _, _, _, _, h2⟩ := hvv
  exact ⟨h1, h2⟩
theorem Bat.summed_byte {b : Bat} (hm : b.may) (ho : ∀ r ∈ b.recs, r.ok) (hb : ∀ r ∈ b.recs, (∀ x ∈ r.key, x < 256) ∧ (∀ x ∈ r.val, x < 256)) : ∀ x ∈ b.summed, x < 256 := by
  have hfirst : 0 ≤ Bat.first b.recs ∧ Bat.first b.recs ≤ 1125899906842624 := by
    cases hr : b.recs with
    | nil => exact ⟨Int.le_refl 0, by show (0 : Int) ≤ 1125899906842624; omega⟩
    | cons r rs =>
      have := ho r (by rw [hr]; exact List.mem_cons_self ..)
      exact ⟨this.1, this.2.1⟩
  intro x hx
  unfold Bat.summed Bat.body Bat.head at hx
  simp only [List.mem_append] at hx
  rcases hx with (((((q | q) | q) | q) | q) | q) | q
  · exact wire.be_byte _ _ x q
  · exact wire.be_byte _ _ x q
  · exact wire.be_byte _ _ x q
  · exact wire.be_byte _ _ x q
  · exact wire.be_byte _ _ x q
  · exact wire.be_byte _ _ x q
  · obtain ⟨l, hl, hxl⟩ := List.mem_flatten.1 q
    obtain ⟨r, hr, rfl⟩ := List.mem_map.1 hl
    have hr := List.mem_of_mem_take hr
    exact Rec.bytes_byte (ho r hr) (hb r hr).1 (hb r hr).2 hfirst.1 hfirst.2 hm.1 hm.2.1 x hxl

theorem wire.be_get (n : Nat) : ∀ (k i : Nat), i < k → (wire.be n k)[i]? = some (n / 256 ^ (k - 1 - i) % 256)
  | 0, i, h => by omega
  | k + 1, 0, _ => by simp [wire.be]
  | k + 1, i + 1, h => by
    simp only [wire.be, List.getElem?_cons_succ]
    rw [wire.be_get n k i (by omega)]
    congr 4
    omega

set_option maxRecDepth 20000 in
set_option maxHeartbeats 800000 in
theorem wire.reffixed_any (n size : Nat) (w : World) (hs1 : 1 ≤ size) (hs8 : size ≤ 8) (hn : (n : Int) ≤ 9223372036854775807) :
    Calls Try.prog 57 #[.int .i64 n, .int .i64 size] w fun e w' => (∃ v, e = .returned v ∧ w'.ownsRow w.heap.size 5 1 v size (u8s (wire.be n size))) ∧ Below w.heap.size w w' := by
  obtain ⟨i0, hi, hz0, hz1, hz2⟩ := info_parts infoByte
  have hu : IntKind.u64.wrap (n : Int) = (n : Int) := by rw [IntKind.wrap_u64]; omega
  go_enter Try.func57, Try.ntmps57
  go_wp2_with (at_make; refine wpList_make_full _ rfl _ _ 32 rfl w.heap.size 5 i0 _ 1 Try.underlying32 hi hz0 hz1 .i64 .i64 _ _ size rfl rfl rfl rfl (by rw [hz2]; omega) (by unfold maxLen; omega) (Nat.le_refl _) ?_; intro w1 hown1 hg1)
  rw [made_zero] at hown1
  have hb1 : Below w.heap.size w w1 := (Below.refl _ w).grown hg1 (Nat.le_refl _) (fun k hk => by cases hk)
  have HO1 := Lib.hid hown1; clear hown1
  have HB1 := Lib.hid hb1; clear hb1 hg1
  go_loopw [6] (fun i wr => ∃ (k : Nat) (M : List Nat), k ≤ size ∧ i = .int .i64 (k : Int) ∧ M.length = size ∧ wr.ownsRow w.heap.size 5 1 (.slice (some ⟨w.heap.size, 0, none⟩) size size) size (u8s M) ∧ (∀ j, j < k → M[size - 1 - j]? = some (n / 256 ^ j % 256)) ∧ Below w.heap.size w wr) (fun i _ => size - (intOf i).toNat)
  case atStart => exact ⟨0, _, by omega, rfl, by simp, HO1.out, fun j h => by omega, HB1.out⟩
  case round =>
    obtain ⟨k, M, hk, rfl, hM, hown, hlow, hb⟩ := hrel
    have HM := Lib.hid hM; clear hM
    have HO := Lib.hid hown; clear hown
    have HLOW := Lib.hid hlow; clear hlow
    have HB := Lib.hid hb; clear hb
    by_cases hlt : k < size
    · have hlt' : (k : Int) < size := by omega
      obtain ⟨d, hd⟩ : ∃ d, d = n / 256 ^ k % 256 := ⟨_, rfl⟩
      have hbyte : IntKind.u8.wrap ((n : Int) / 2 ^ (8 * (k : Int)).toNat) = (d : Int) := by rw [hd]; exact wire.byte_shift n k
      have hbyte2 : (n : Int) / 2 ^ (8 * k) % 256 = (d : Int) := by
        have h := wire.byte_shift n k
        rw [IntKind.wrap_u8, show (8 * (k : Int)).toNat = 8 * k by omega] at h
        rw [h, hd]
      have hmul : IntKind.i64.wrap (8 * (k : Int)) = 8 * (k : Int) := by rw [IntKind.wrap_i64]; omega
      have hmul0 : 0 ≤ 8 * (k : Int) := by omega
      obtain ⟨q, hq⟩ : ∃ q : Nat, (size : Int) - 1 - (k : Int) = (q : Int) := ⟨size - 1 - k, by omega⟩
      have hqs : q = size - 1 - k := by omega
      have hql : q < size := by omega
      have hq0 : (q : Int) < size := by omega
      have hst := HO.out.stored q (.int .u8 (d : Int))
      have hcell : wr.cell? ⟨w.heap.size, q, none⟩ = some (.int .u8 ((M.getD q 0 : Nat) : Int)) := by
        rw [HO.out.cellAt q (by omega)]
        simp [u8s, List.getD, List.getElem?_eq_getElem (show q < M.length by rw [HM.out]; exact hql)]
      have hfr := HO.out.frozenAt q
      have hnew : (u8s M).set q (.int .u8 (d : Int)) = u8s (M.set q d) := by unfold u8s; rw [List.map_set]
      rw [hnew] at hst
      have HST := Lib.hid hst; clear hst hnew
      have hlow2 : ∀ j, j < k + 1 → (M.set q d)[size - 1 - j]? = some (n / 256 ^ j % 256) := fun j hj => by
        by_cases e : j = k
        · subst e
          rw [hqs, List.getElem?_set_self (by rw [HM.out]; omega), hd]
        · rw [List.getElem?_set_ne (by omega)]
          exact HLOW.out j (by omega)
      have HLOW2 := Lib.hid hlow2; clear hlow2 hd hqs
      go_wp2
      go_roundw
      case rel => exact ⟨k + 1, M.set q d, by omega, by go_num, by rw [List.length_set]; exact HM.out, HST.out.1, HLOW2.out, HB.out.grown HST.out.2 HB.out.size (fun g hg => by cases hg; exact Nat.le_refl _)⟩
      case measure => simp [intOf]; omega
    · obtain rfl : k = size := by omega
      have hall : M = wire.be n k := by
        apply List.ext_getElem?
        intro i
        rcases Nat.lt_or_ge i k with h | h
        · rw [wire.be_get n k i h]
          have := HLOW.out (k - 1 - i) (by omega)
          rwa [show k - 1 - (k - 1 - i) = i by omega] at this
        · rw [List.getElem?_eq_none (by rw [HM.out]; exact h), List.getElem?_eq_none (by rw [wire.be_len]; exact h)]
      have HALL := Lib.hid hall; clear hall
      go_wp2
      go_ret
      exact ⟨⟨_, rfl, by rw [← HALL.out]; exact HO.out⟩, HB.out⟩
set_option maxRecDepth 20000 in
set_option maxHeartbeats 400000 in
theorem num.refzig_any (n : Int) (w : World) (h1 : -9223372036854775808 ≤ n) (h2 : n ≤ 9223372036854775807) :
    Calls Try.prog 69 #[.int .i64 n] w fun e w' => e = .returned (.int .u64 (num.zig n)) ∧ w = w' := by
  by_cases h : n < 0
  · have d : decide (n < 0) = true := by simpa using h
    have e : num.zig n = -2 * n - 1 := by unfold num.zig; rw [if_neg (by omega)]
    go_enter Try.func69, Try.ntmps69
    go_wp2
    go_ret
    exact ⟨ret_num (by first | rfl | omega | (rw [e]; omega) | (simp only [IntKind.wrap_u64]; omega)), rfl⟩
  · have d : decide (n < 0) = false := by simpa using h
    have e : num.zig n = 2 * n := by unfold num.zig; rw [if_pos (by omega)]
    go_enter Try.func69, Try.ntmps69
    go_wp2
    go_ret
    exact ⟨ret_num (by first | rfl | omega | (rw [e]; omega) | (simp only [IntKind.wrap_u64]; omega)), rfl⟩

set_option maxRecDepth 20000 in
set_option maxHeartbeats 800000 in
theorem num.refput_any (n : Int) (w : World) (h1 : -9223372036854775808 ≤ n) (h2 : n ≤ 9223372036854775807) :
    Calls Try.prog 64 #[.int .i64 n] w fun e w' => (∃ v, e = .returned v ∧ w'.ownsRow w.heap.size 5 1 v (num.put n).length (u8s (num.put n))) ∧ Below w.heap.size w w' := by
  obtain ⟨i0, hi, hz0, hz1, hz2⟩ := info_parts infoByte
  have hz := num.zig_bd n h1 h2
  have hwid := num.put_bd n
  rw [num.put_len] at hwid
  go_enter Try.func64, Try.ntmps64
  go_wp2_with fail
  refine (num.refzig_any n w h1 h2).mono ?_
  rintro e w' ⟨rfl, rfl⟩
  obtain ⟨u, hu⟩ := Int.eq_ofNat_of_zero_le hz.1
  have hpd : num.Pd n 9 u [] := ⟨by omega, by unfold num.put; rw [hu, Int.toNat_natCast]; rfl, rfl⟩
  have HPD := Lib.hid hpd; clear hpd
  have hu2 : (u : Int) ≤ 18446744073709551615 := by omega
  have HU := Lib.hid hu; clear hu
  go_wp2
  go_loopw [3, 4] (fun x v wr => ∃ (k c : Nat) (l : List Nat) (A : Option Addr) (cp : Nat), num.Pd n k c l ∧ (c : Int) ≤ 18446744073709551615 ∧ x = .int .u64 (c : Int) ∧ v = .slice A l.length cp ∧
      wr.ownsRow w.heap.size 5 1 v l.length (u8s l) ∧ Below w.heap.size w wr) (fun x _ _ => (intOf x).toNat)
  case atStart => exact ⟨9, u, [], none, 0, HPD.out, hu2, by rw [← HU.out], rfl, World.ownsRow_nil _ _ _ _, Below.refl _ _⟩
  case round =>
    obtain ⟨k, c, l, A, cp, hpd, hc, rfl, rfl, hown, hb⟩ := hrel
    obtain ⟨hk, hl, hlen⟩ := hpd
    have HK := Lib.hid hk; clear hk
    have HL := Lib.hid hl; clear hl
    have HOWN := Lib.hid hown; clear hown
    have HB := Lib.hid hb; clear hb
    have hlen2 : l.length ≤ 9 := by omega
    have HLEN := Lib.hid hlen; clear hlen
    clear hu2
    by_cases hlt : c < 128
    · have hc' : (c : Int) < 128 := by omega
      have hby : IntKind.u8.wrap (c : Int) = (c : Int) := by rw [IntKind.wrap_u8]; omega
      go_wp2_with (at_builtin; refine wpList_append_own _ rfl (.tmp 17) (.tmp 20) 32 rfl w.heap.size 5 i0 _ 1 1 Try.underlying32 hi hz0 hz1 hz2 rfl (by decide) _ _ _ rfl (HOWN.out.alloc _) ⟨wr.heap.size, 0, none⟩ 1 1 [.int .u8 (c : Int)] rfl rfl (World.news_of_block (cs := #[.int .u8 (c : Int)]) (t := 5) (fr := (0, 0)) (heap_alloc_new wr _)) (by simp [Value.oneCell']) (by unfold maxLen; omega) (by omega) (by have := HB.out.size; simp; omega) ?_; intro v' w2 hown2 hg2 _)
      have hb2 : Below w.heap.size w w2 := (HB.out.alloc HB.out.size _).grown hg2 (by have := HB.out.size; simp; omega) (fun g hg => (HOWN.out.lt g hg).1)
      have hpp : l ++ [c] = num.put n := by have := HL.out; rw [num.dg_low k c hlt] at this; exact this
      have hown3 : w2.ownsRow w.heap.size 5 1 v' (num.put n).length (u8s (num.put n)) := by
        rw [← hpp, u8s_append, List.length_append]; exact hown2
      have HB2 := Lib.hid hb2; clear hb2
      have HOWN3 := Lib.hid hown3; clear hown3
      clear hown2 hg2 hpp
      go_wp2
      go_ret
      exact ⟨⟨_, rfl, HOWN3.out⟩, HB2.out⟩
    · have hc' : ¬ (c : Int) < 128 := by omega
      obtain ⟨k', hk', hl'⟩ := num.less HK.out hlt
      have HK' := Lib.hid hk'; clear hk'
      have HL' := Lib.hid hl'; clear hl'
      have hby := num.low8 c
      go_wp2_with (at_builtin; refine wpList_append_own _ rfl (.tmp 9) (.tmp 13) 32 rfl w.heap.size 5 i0 _ 1 1 Try.underlying32 hi hz0 hz1 hz2 rfl (by decide) _ _ _ rfl (HOWN.out.alloc _) ⟨wr.heap.size, 0, none⟩ 1 1 [.int .u8 ((c : Int) % 128 + 128)] rfl rfl (World.news_of_block (cs := #[.int .u8 ((c : Int) % 128 + 128)]) (t := 5) (fr := (0, 0)) (heap_alloc_new wr _)) (by simp [Value.oneCell']) (by unfold maxLen; omega) (by omega) (by have := HB.out.size; simp; omega) ?_; intro v' w2 hown2 hg2 _)
      have hb2 : Below w.heap.size w w2 := (HB.out.alloc HB.out.size _).grown hg2 (by have := HB.out.size; simp; omega) (fun g hg => (HOWN.out.lt g hg).1)
      have HB2 := Lib.hid hb2; clear hb2
      obtain ⟨A2, c2, rfl, _, _⟩ := own_at hown2
      have HOWN2 := Lib.hid hown2; clear hown2
      clear hg2 hby
      go_wp2
      go_roundw
      case rel =>
        have h1 := HK'.out
        subst h1
        refine ⟨k', c / 128, l ++ [c % 128 + 128], A2, c2, ⟨HL'.out, ?_, ?_⟩, by omega, by go_num, by simp, ?_, HB2.out⟩
        · have := HL.out; rw [num.dg_up k' c hlt] at this; simpa using this
        · have := HLEN.out; simp; omega
        · have e : Value.int .u8 ((c : Int) % 128 + 128) = .int .u8 ((c % 128 + 128 : Nat) : Int) := num_eq (by omega)
          have h4 := HOWN2.out
          rw [e] at h4
          rw [u8s_append, List.length_append]; exact h4
      case measure => simp [intOf]; omega
/-- A row of bytes laid since w3, and what else was there is as it was. -/
def Acc (w3 : World) (v : Value) (L : List Nat) (w : World) : Prop := w.ownsRow w3.heap.size 5 1 v L.length (u8s L) ∧ Below w3.heap.size w3 w
theorem Acc.keep {w3 w w' : World} {v : Value} {L : List Nat} (h : Acc w3 v L w) (hb : Below w.heap.size w w') : Acc w3 v L w' := ⟨own_below h.1 hb, h.2.trans (hb.mono h.2.size)⟩
theorem Acc.start {w3 w1 w : World} {v : Value} {n : Nat} {L : List Nat} (h : w.ownsRow w1.heap.size 5 1 v n (u8s L)) (hb : Below w1.heap.size w1 w) (h1 : Below w3.heap.size w3 w1) : Acc w3 v L w := by
  have hn : L.length = n := by have := h.1; rw [u8s_len] at this; omega
  subst hn
  exact ⟨ownsRow_base h h1.size, h1.trans (hb.mono h1.size)⟩
theorem Acc.at' {w3 w : World} {v : Value} {L : List Nat} (h : Acc w3 v L w) : ∃ A c, v = .slice A L.length c ∧ L.length ≤ c ∧ At w A L.length (byteAt L) := by
  obtain ⟨A, c, h1, h2, -, h3⟩ := own_bytes h.1
  exact ⟨A, c, h1, h2, h3⟩
theorem wpList_acc {w3 w : World} {ops : Array Oper} {rest : List Oper} {o : Oper} {a : Act} {Q : Exit → Act → World → Prop} (hgd : o.guard = none) (s x : Operand)
    (ho : o.op = .call { callee := .builtin .append, args := #[s, x], argTypes := #[32, 32] })
    (v : Value) (L : List Nat) (hs : a.eval s = v) (hA : Acc w3 v L w) (X : Option Addr) (m c : Nat) (M : List Nat) (hx : a.eval x = .slice X m c) (hM : M.length = m) (hat : At w X m (byteAt M))
    (hlen : L.length + M.length ≤ 70368744177664)
    (h : ∀ v' w', Acc w3 v' (L ++ M) w' → wpList Try.prog ops Q rest (a.put o.dst v') w') : wpList Try.prog ops Q (o :: rest) a w := by
  subst hM
  obtain ⟨i0, hi, hz0, hz1, hz2⟩ := info_parts infoByte
  refine wpList_app2 w hgd s x 32 ho w3.heap.size 5 i0 _ 1 1 Try.underlying32 hi hz0 hz1 hz2 rfl (by decide) v L.length (u8s L) hs hA.1 X M.length c (byteAt M) hx (by rw [Nat.mul_one]; exact hat) (fun j _ => byteAt_one _ j) (by unfold maxLen; omega) (by omega) hA.2.size ?_
  intro v' w' hown hg _
  rw [byteAt_cells_n _ _ rfl, ← u8s_append] at hown
  refine h v' w' ⟨?_, ?_⟩
  · rw [List.length_append]
    exact hown
  · exact hA.2.grown hg hA.2.size (fun g hg => (hA.1.lt g hg).1)

set_option maxRecDepth 20000 in
theorem ref.bytes_any (A : Option Addr) (n c : Nat) (L : List Nat) (w : World) (hL : L.length = n) (hat : At w A n (byteAt L)) (hn : n ≤ 1099511627776) :
    Calls Try.prog 58 #[.slice A n c] w fun e w' => (∃ v, e = .returned v ∧ Acc w v (num.put n ++ L) w') := by
  have hpb := num.put_bd (n : Int)
  have HAT := Lib.hid hat; clear hat
  have HL := Lib.hid hL; clear hL
  go_enter Try.func58, Try.ntmps58
  go_wp2_with fail
  refine (num.refput_any n w (by omega) (by omega)).mono ?_
  rintro e w1 ⟨⟨v1, rfl, hown⟩, hb⟩
  have HA := Lib.hid (Acc.start hown hb (Below.refl _ w))
  have HAT1 := Lib.hid (HAT.out.below hb (Nat.le_refl _))
  clear hown hb
  go_wp2_with (at_builtin; go_loud (refine wpList_acc rfl (.tmp 5) (.tmp 6) rfl v1 _ rfl HA.out A n c L rfl HL.out HAT1.out (by rw [HL.out]; omega) ?_; intro v' w2 hA2; have HA2 := Lib.hid hA2; clear hA2))
  go_wp2
  go_ret
  exact ⟨_, rfl, HA2.out⟩

/-- What stands behind a record's length. -/
def Rec.rest (r : Rec) (first base : Int) : List Nat := num.put (r.time - first) ++ num.put (r.off - base) ++ bat.field r.hasKey r.key ++ bat.field r.hasVal r.val
theorem bat.field_len (has : Bool) (L : List Nat) (h : has = false → L = []) : ((bat.field has L).length : Int) = num.widI (bat.len has L.length) + L.length := by
  unfold bat.field bat.len num.widI
  cases has
  · rw [h rfl]
    simp [num.put_len]
  · simp [num.put_len]
theorem Rec.rest_len (r : Rec) (first base : Int) (hk : r.hasKey = false → r.key = []) (hv : r.hasVal = false → r.val = []) : ((r.rest first base).length : Int) = r.body first base := by
  have h1 := bat.field_len r.hasKey r.key hk
  have h2 := bat.field_len r.hasVal r.val hv
  have h3 : (num.put (r.time - first)).length = num.widI (r.time - first) := num.put_len _
  have h4 : (num.put (r.off - base)).length = num.widI (r.off - base) := num.put_len _
  unfold Rec.rest Rec.body
  simp only [List.length_append]
  omega
theorem Rec.rest_bytes (r : Rec) (first base : Int) (hk : r.hasKey = false → r.key = []) (hv : r.hasVal = false → r.val = []) : num.put ((r.rest first base).length : Int) ++ r.rest first base = r.bytes first base := by
  rw [Rec.rest_len r first base hk hv]
  unfold Rec.rest Rec.bytes
  simp only [List.append_assoc]

set_option maxRecDepth 20000 in
set_option maxHeartbeats 2000000 in
theorem ref.body_any (r : Rec) (first base : Int) (Ak : Option Addr) (ck : Nat) (Av : Option Addr) (cv : Nat) (w : World) (hok : r.ok) (hf : 0 ≤ first ∧ first ≤ 1125899906842624) (hb : 0 ≤ base ∧ base ≤ 4611686018427387904)
    (hk : At w Ak r.key.length (byteAt r.key)) (hv : At w Av r.val.length (byteAt r.val)) :
    Calls Try.prog 59 #[r.hval Ak ck Av cv, .int .i64 first, .int .i64 base] w fun e w' => (∃ v, e = .returned v ∧ Acc w v (r.rest first base) w') := by
  obtain ⟨f0, f1⟩ := hf
  obtain ⟨g0, g1⟩ := hb
  obtain ⟨t0, t1, o0, o1, k1, v1⟩ := hok
  have HK := Lib.hid hk; clear hk
  have HV := Lib.hid hv; clear hv
  have hrest : ∀ x y, x = bat.field r.hasKey r.key → y = bat.field r.hasVal r.val → num.put (r.time - first) ++ num.put (r.off - base) ++ x ++ y = r.rest first base := fun x y hx hy => by rw [hx, hy]; rfl
  have HREST := Lib.hid hrest; clear hrest
  have hp1 := num.put_bd (r.time - first)
  have hp2 := num.put_bd (r.off - base)
  unfold Rec.hval
  go_enter Try.func59, Try.ntmps59
  go_upto_region 1 with fail
  obtain ⟨w1, hw1⟩ : ∃ w1, w1 = w.alloc (.cells #[.int .i64 r.off, .int .i64 r.time, .bool r.hasKey, .slice Ak r.key.length ck, .bool r.hasVal, .slice Av r.val.length cv] 34) := ⟨_, rfl⟩
  rw [← hw1]
  have hbk : Blk w1 w.heap.size 34 #[.int .i64 r.off, .int .i64 r.time, .bool r.hasKey, .slice Ak r.key.length ck, .bool r.hasVal, .slice Av r.val.length cv] := by rw [hw1]; exact Blk.new _ _ _
  have hb1 : Below w.heap.size w w1 := by rw [hw1]; exact (Below.refl _ w).alloc (Nat.le_refl _) _
  clear hw1
  have q0 : ∀ x : Later w1 (fun _ => False), x.1.cell? ⟨w.heap.size, 0, none⟩ = some (.int .i64 r.off) := fun x => (x.2.blk hbk id).cell 0 rfl
  have q1 : ∀ x : Later w1 (fun _ => False), x.1.cell? ⟨w.heap.size, 1, none⟩ = some (.int .i64 r.time) := fun x => (x.2.blk hbk id).cell 1 rfl
  have HBK := Lib.hid hbk; clear hbk
  have HB1 := Lib.hid hb1; clear hb1
  have hS0 : later w1 (fun _ => False) w1.drew := later_of ((Chg.refl _ _).drew)
  refine wp_plan (S := fun w0 => ∃ x : Later w1 (fun _ => False), w0 = x.1) (by kernel_rfl) hS0 ?_
  intro hS K hK
  have HS := Lib.hid hS; clear hS hS0
  refine plan_group [true, true, true, true, false, true, true, true, true] [0, 1, 2, 3, 5, 6, 7, 8] 4 (by dsimp only [sel]) (by rfl) rfl (by kernel_rfl) (by kernel_rfl) HS.out ?_
  (repeat go_big_quiet_step (fail)); refine wpQuiet_nil ?_
  refine plan_one [false, false, false, false, true] 4 3 (by dsimp only [sel]) (by rfl) rfl (by kernel_rfl) ?_; intro K1 hK1; go_wp2_with fail
  refine (num.refput_any (r.time - first) _ (by omega) (by omega)).mono ?_
  rintro e w2 ⟨⟨v1, rfl, ho1⟩, hb2⟩
  have HA1 := Lib.hid (Acc.start ho1 hb2 (bdrew (Below.refl _ w1) 1)); clear ho1 hb2
  go_wp2_with fail
  refine ⟨later_of (chg_of HA1.out.2), ?_⟩
  refine plan_one [false, false, false, false, false, false, false, false, false, true] 9 2 (by dsimp only [sel]) (by rfl) rfl (by kernel_rfl) ?_; intro K1 hK1; go_wp2_with fail
  refine (num.refput_any (r.off - base) _ (by omega) (by omega)).mono ?_
  rintro e w3 ⟨⟨v2, rfl, ho2⟩, hb3⟩
  obtain ⟨A2, c2, rfl, -, -, hat2⟩ := own_bytes ho2
  have HA2 := Lib.hid (HA1.out.keep hb3)
  have HAT2 := Lib.hid hat2
  clear ho2 hat2 hb3 HA1
  go_wp2_with fail
  refine ⟨later_of (chg_of HA2.out.2), ?_⟩
  refine plan_one [false, false, false, false, false, false, false, false, false, false, true] 10 1 (by dsimp only [sel]) (by rfl) rfl (by kernel_rfl) ?_; intro K1 hK1; go_wp2_with (at_builtin; go_loud (refine wpList_acc rfl (.tmp 12) (.tmp 17) rfl v1 _ rfl HA2.out A2 _ c2 _ rfl rfl HAT2.out (by omega) ?_; intro v3 w4 hA3; have HA3 := Lib.hid hA3; clear hA3))
  go_simp
  refine ⟨later_of (chg_of HA3.out.2), ?_⟩
  clear HA2 HAT2
  refine plan_group [false, false, false, false, false, false, false, false, false, false, false, true] [11] 0 (by dsimp only [sel]) (by rfl) rfl (by kernel_rfl) (by kernel_rfl) (later_of (chg_of HA3.out.2)) ?_
  (repeat go_big_quiet_step (fail)); refine wpQuiet_nil ?_
  refine wp_plan_end (by kernel_rfl) ?_
  clear q0 q1 HS
  refine hK _ _ ?_
  have hbk4 := (chg_of (P := fun _ => False) HA3.out.2).blk HBK.out id
  have hkw := fun wx (h : Below w1.heap.size w1 wx) => HK.out.below (HB1.out.trans (h.mono HB1.out.size)) (Nat.le_refl _)
  have hvw := fun wx (h : Below w1.heap.size w1 wx) => HV.out.below (HB1.out.trans (h.mono HB1.out.size)) (Nat.le_refl _)
  have HKW := Lib.hid hkw; clear hkw
  have HVW := Lib.hid hvw; clear hvw
  obtain ⟨L3, hL3⟩ : ∃ L3, L3 = num.put (r.time - first) ++ num.put (r.off - base) := ⟨_, rfl⟩
  have hl3 : L3.length ≤ 20 := by rw [hL3, List.length_append]; omega
  rw [← hL3] at HA3
  have HL3 := Lib.hid hL3; clear hL3
  have c3 : w4.cell? ⟨w.heap.size, 3, none⟩ = some (.slice Ak r.key.length ck) := hbk4.cell 3 rfl
  cases hkk : r.hasKey
  · have c2 : w4.cell? ⟨w.heap.size, 2, none⟩ = some (.bool false) := hkk ▸ hbk4.cell 2 rfl
    have hfk : bat.field r.hasKey r.key = num.put (-1) := by rw [hkk]; rfl
    have HFK := Lib.hid hfk; clear hfk hkk hbk4
    have hp5 := bat.field_le r.hasKey r.key
    cases hvv : r.hasVal
    · have hfv : bat.field r.hasVal r.val = num.put (-1) := by rw [hvv]; rfl
      have hp6 := bat.field_le r.hasVal r.val
      have HFV := Lib.hid hfv; clear hfv
      have HVV := Lib.hid hvv; clear hvv
      go_wp2_with fail
      refine (num.refput_any (-1) w4 (by omega) (by omega)).mono ?_
      rintro e w5 ⟨⟨v5, rfl, ho5⟩, hb5⟩
      have ho5 := Acc.start ho5 hb5 (Below.refl _ w4)
      rw [← HFK.out] at ho5
      obtain ⟨A5, c5, rfl, -, hat5⟩ := ho5.at'
      have HA4 := Lib.hid (HA3.out.keep hb5); have HAT5 := Lib.hid hat5; clear ho5 hat5 hb5
      clear c2 c3
      go_wp2_with (at_builtin; go_loud (refine wpList_acc rfl (.tmp 26) (.tmp 27) rfl v3 L3 rfl HA4.out A5 _ c5 _ rfl rfl HAT5.out (by first | omega | (simp only [List.length_append]; omega)) ?_; intro v6 w6 hA6; have hbk6 := (chg_of (P := fun _ => False) hA6.2).blk HBK.out id; have d4 : w6.cell? ⟨w.heap.size, 4, none⟩ = some (.bool false) := HVV.out ▸ hbk6.cell 4 rfl; have d5 : w6.cell? ⟨w.heap.size, 5, none⟩ = some (.slice Av r.val.length cv) := hbk6.cell 5 rfl; have HA6 := Lib.hid hA6; clear hA6 hbk6))
      refine (num.refput_any (-1) w6 (by omega) (by omega)).mono ?_
      rintro e w7 ⟨⟨v7, rfl, ho7⟩, hb7⟩
      have ho7 := Acc.start ho7 hb7 (Below.refl _ w6)
      rw [← HFV.out] at ho7
      obtain ⟨A7, c7, rfl, -, hat7⟩ := ho7.at'
      have HA7 := Lib.hid (HA6.out.keep hb7); have HAT7 := Lib.hid hat7; clear ho7 hat7 hb7
      clear d4 d5
      go_wp2_with (at_builtin; go_loud (refine wpList_acc rfl (.tmp 36) (.tmp 37) rfl v6 _ rfl HA7.out A7 _ c7 _ rfl rfl HAT7.out (by first | omega | (simp only [List.length_append]; omega)) ?_; intro v8 w8 hA8; have HA8 := Lib.hid hA8; clear hA8))
      go_wp2
      go_ret
      refine ⟨_, rfl, ?_, HB1.out.trans (HA8.out.2.mono HB1.out.size)⟩
      have h8 := HA8.out.1
      rw [HL3.out, HREST.out _ _ rfl rfl] at h8
      exact ownsRow_base h8 HB1.out.size
    · have hfv : bat.field r.hasVal r.val = num.put r.val.length ++ r.val := by rw [hvv]; rfl
      have hp6 := bat.field_le r.hasVal r.val
      have HFV := Lib.hid hfv; clear hfv
      have HVV := Lib.hid hvv; clear hvv
      go_wp2_with fail
      refine (num.refput_any (-1) w4 (by omega) (by omega)).mono ?_
      rintro e w5 ⟨⟨v5, rfl, ho5⟩, hb5⟩
      have ho5 := Acc.start ho5 hb5 (Below.refl _ w4)
      rw [← HFK.out] at ho5
      obtain ⟨A5, c5, rfl, -, hat5⟩ := ho5.at'
      have HA4 := Lib.hid (HA3.out.keep hb5); have HAT5 := Lib.hid hat5; clear ho5 hat5 hb5
      clear c2 c3
      go_wp2_with (at_builtin; go_loud (refine wpList_acc rfl (.tmp 26) (.tmp 27) rfl v3 L3 rfl HA4.out A5 _ c5 _ rfl rfl HAT5.out (by first | omega | (simp only [List.length_append]; omega)) ?_; intro v6 w6 hA6; have hbk6 := (chg_of (P := fun _ => False) hA6.2).blk HBK.out id; have d4 : w6.cell? ⟨w.heap.size, 4, none⟩ = some (.bool true) := HVV.out ▸ hbk6.cell 4 rfl; have d5 : w6.cell? ⟨w.heap.size, 5, none⟩ = some (.slice Av r.val.length cv) := hbk6.cell 5 rfl; have HA6 := Lib.hid hA6; clear hA6 hbk6))
      refine (ref.bytes_any Av r.val.length cv r.val w6 rfl (HVW.out w6 HA6.out.2) (by omega)).mono ?_
      rintro e w7 ⟨v7, rfl, ho7⟩
      rw [← HFV.out] at ho7
      obtain ⟨A7, c7, rfl, -, hat7⟩ := ho7.at'
      have HA7 := Lib.hid (HA6.out.keep ho7.2); have HAT7 := Lib.hid hat7; clear ho7 hat7
      clear d4 d5
      go_wp2_with (at_builtin; go_loud (refine wpList_acc rfl (.tmp 31) (.tmp 34) rfl v6 _ rfl HA7.out A7 _ c7 _ rfl rfl HAT7.out (by first | omega | (simp only [List.length_append]; omega)) ?_; intro v8 w8 hA8; have HA8 := Lib.hid hA8; clear hA8))
      go_wp2
      go_ret
      refine ⟨_, rfl, ?_, HB1.out.trans (HA8.out.2.mono HB1.out.size)⟩
      have h8 := HA8.out.1
      rw [HL3.out, HREST.out _ _ rfl rfl] at h8
      exact ownsRow_base h8 HB1.out.size
  · have c2 : w4.cell? ⟨w.heap.size, 2, none⟩ = some (.bool true) := hkk ▸ hbk4.cell 2 rfl
    have hfk : bat.field r.hasKey r.key = num.put r.key.length ++ r.key := by rw [hkk]; rfl
    have HFK := Lib.hid hfk; clear hfk hkk hbk4
    have hp5 := bat.field_le r.hasKey r.key
    cases hvv : r.hasVal
    · have hfv : bat.field r.hasVal r.val = num.put (-1) := by rw [hvv]; rfl
      have hp6 := bat.field_le r.hasVal r.val
      have HFV := Lib.hid hfv; clear hfv
      have HVV := Lib.hid hvv; clear hvv
      go_wp2_with fail
      refine (ref.bytes_any Ak r.key.length ck r.key w4 rfl (HKW.out w4 HA3.out.2) (by omega)).mono ?_
      rintro e w5 ⟨v5, rfl, ho5⟩
      rw [← HFK.out] at ho5
      obtain ⟨A5, c5, rfl, -, hat5⟩ := ho5.at'
      have HA4 := Lib.hid (HA3.out.keep ho5.2); have HAT5 := Lib.hid hat5; clear ho5 hat5
      clear c2 c3
      go_wp2_with (at_builtin; go_loud (refine wpList_acc rfl (.tmp 21) (.tmp 24) rfl v3 L3 rfl HA4.out A5 _ c5 _ rfl rfl HAT5.out (by first | omega | (simp only [List.length_append]; omega)) ?_; intro v6 w6 hA6; have hbk6 := (chg_of (P := fun _ => False) hA6.2).blk HBK.out id; have d4 : w6.cell? ⟨w.heap.size, 4, none⟩ = some (.bool false) := HVV.out ▸ hbk6.cell 4 rfl; have d5 : w6.cell? ⟨w.heap.size, 5, none⟩ = some (.slice Av r.val.length cv) := hbk6.cell 5 rfl; have HA6 := Lib.hid hA6; clear hA6 hbk6))
      refine (num.refput_any (-1) w6 (by omega) (by omega)).mono ?_
      rintro e w7 ⟨⟨v7, rfl, ho7⟩, hb7⟩
      have ho7 := Acc.start ho7 hb7 (Below.refl _ w6)
      rw [← HFV.out] at ho7
      obtain ⟨A7, c7, rfl, -, hat7⟩ := ho7.at'
      have HA7 := Lib.hid (HA6.out.keep hb7); have HAT7 := Lib.hid hat7; clear ho7 hat7 hb7
      clear d4 d5
      go_wp2_with (at_builtin; go_loud (refine wpList_acc rfl (.tmp 36) (.tmp 37) rfl v6 _ rfl HA7.out A7 _ c7 _ rfl rfl HAT7.out (by first | omega | (simp only [List.length_append]; omega)) ?_; intro v8 w8 hA8; have HA8 := Lib.hid hA8; clear hA8))
      go_wp2
      go_ret
      refine ⟨_, rfl, ?_, HB1.out.trans (HA8.out.2.mono HB1.out.size)⟩
      have h8 := HA8.out.1
      rw [HL3.out, HREST.out _ _ rfl rfl] at h8
      exact ownsRow_base h8 HB1.out.size
    · have hfv : bat.field r.hasVal r.val = num.put r.val.length ++ r.val := by rw [hvv]; rfl
      have hp6 := bat.field_le r.hasVal r.val
      have HFV := Lib.hid hfv; clear hfv
      have HVV := Lib.hid hvv; clear hvv
      go_wp2_with fail
      refine (ref.bytes_any Ak r.key.length ck r.key w4 rfl (HKW.out w4 HA3.out.2) (by omega)).mono ?_
      rintro e w5 ⟨v5, rfl, ho5⟩
      rw [← HFK.out] at ho5
      obtain ⟨A5, c5, rfl, -, hat5⟩ := ho5.at'
      have HA4 := Lib.hid (HA3.out.keep ho5.2); have HAT5 := Lib.hid hat5; clear ho5 hat5
      clear c2 c3
      go_wp2_with (at_builtin; go_loud (refine wpList_acc rfl (.tmp 21) (.tmp 24) rfl v3 L3 rfl HA4.out A5 _ c5 _ rfl rfl HAT5.out (by first | omega | (simp only [List.length_append]; omega)) ?_; intro v6 w6 hA6; have hbk6 := (chg_of (P := fun _ => False) hA6.2).blk HBK.out id; have d4 : w6.cell? ⟨w.heap.size, 4, none⟩ = some (.bool true) := HVV.out ▸ hbk6.cell 4 rfl; have d5 : w6.cell? ⟨w.heap.size, 5, none⟩ = some (.slice Av r.val.length cv) := hbk6.cell 5 rfl; have HA6 := Lib.hid hA6; clear hA6 hbk6))
      refine (ref.bytes_any Av r.val.length cv r.val w6 rfl (HVW.out w6 HA6.out.2) (by omega)).mono ?_
      rintro e w7 ⟨v7, rfl, ho7⟩
      rw [← HFV.out] at ho7
      obtain ⟨A7, c7, rfl, -, hat7⟩ := ho7.at'
      have HA7 := Lib.hid (HA6.out.keep ho7.2); have HAT7 := Lib.hid hat7; clear ho7 hat7
      clear d4 d5
      go_wp2_with (at_builtin; go_loud (refine wpList_acc rfl (.tmp 31) (.tmp 34) rfl v6 _ rfl HA7.out A7 _ c7 _ rfl rfl HAT7.out (by first | omega | (simp only [List.length_append]; omega)) ?_; intro v8 w8 hA8; have HA8 := Lib.hid hA8; clear hA8))
      go_wp2
      go_ret
      refine ⟨_, rfl, ?_, HB1.out.trans (HA8.out.2.mono HB1.out.size)⟩
      have h8 := HA8.out.1
      rw [HL3.out, HREST.out _ _ rfl rfl] at h8
      exact ownsRow_base h8 HB1.out.size

theorem ref.fixed_int (n : Int) (size : Nat) (w : World) (h0 : 0 ≤ n) (hs1 : 1 ≤ size) (hs8 : size ≤ 8) (hn : n ≤ 9223372036854775807) :
    Calls Try.prog 57 #[.int .i64 n, .int .i64 size] w fun e w' => ∃ A c, e = .returned (.slice A size c) ∧ Acc w (.slice A size c) (wire.be n.toNat size) w' ∧ At w' A size (byteAt (wire.be n.toNat size)) := by
  obtain ⟨k, rfl⟩ : ∃ k : Nat, n = (k : Int) := ⟨n.toNat, by omega⟩
  refine (wire.reffixed_any k size w hs1 hs8 hn).mono ?_
  rintro e w' ⟨⟨v, rfl, ho⟩, hb⟩
  rw [Int.toNat_natCast]
  obtain ⟨A, c, rfl, -, -, hat⟩ := own_bytes ho
  exact ⟨A, c, rfl, Acc.start ho hb (Below.refl _ _), hat⟩
theorem Acc.up {w3 w1 w : World} {v : Value} {L : List Nat} (h : Acc w1 v L w) (h1 : Below w3.heap.size w3 w1) : Acc w3 v L w := ⟨ownsRow_base h.1 h1.size, h1.trans (h.2.mono h1.size)⟩

/-- The records' flags agree with their bytes. -/
def Bat.flags (b : Bat) : Prop := ∀ r ∈ b.recs, (r.hasKey = false → r.key = []) ∧ (r.hasVal = false → r.val = [])

set_option maxRecDepth 20000 in
set_option maxHeartbeats 4000000 in
theorem ref.encode_any (b : Bat) (A : Option Addr) (c : Nat) (w : World) (hv : RecsV w (.slice A b.recs.length c) b.recs) (hmay : b.may) (h100 : b.recs.length ≤ 100) (hok : ∀ r ∈ b.recs, r.ok) (hfl : b.flags) :
    Calls Try.prog 49 #[b.hval A b.recs.length c] w fun e w' => ∃ v, e = .returned v ∧ Acc w v b.bytes w' := by
  obtain ⟨m0, m1, m2, m3, m4, m5, m6, m7, m8, m9, -⟩ := id hmay
  have hfirst : 0 ≤ Bat.first b.recs ∧ Bat.first b.recs ≤ 1125899906842624 := by
    cases hr : b.recs with
    | nil => exact ⟨Int.le_refl 0, by show (0 : Int) ≤ 1125899906842624; omega⟩
    | cons r rs =>
      have := hok r (by rw [hr]; exact List.mem_cons_self ..)
      exact ⟨this.1, this.2.1⟩
  obtain ⟨F, hF⟩ : ∃ F, F = Bat.first b.recs := ⟨_, rfl⟩
  rw [← hF] at hfirst
  have HF := Lib.hid hF; clear hF
  have HSB := Lib.hid (Bat.summed_byte hmay hok hv.byte)
  have HOK := Lib.hid hok
  have HFL := Lib.hid hfl; clear hfl
  have HBL := Lib.hid (fun k => b.body_le hok h100 k); clear hok hmay
  have HV := Lib.hid hv; clear hv
  unfold Bat.hval at *
  go_enter Try.func49, Try.ntmps49
  go_upto_region 2 with fail
  obtain ⟨w1, hw1⟩ : ∃ w1, w1 = w.alloc (.cells #[.int .i64 b.base, .int .i64 b.last, .int .i64 b.prod, .int .i64 b.epoch, .int .i64 b.seq, .slice A b.recs.length c] 46) := ⟨_, rfl⟩
  rw [← hw1]
  have hbk : Blk w1 w.heap.size 46 #[.int .i64 b.base, .int .i64 b.last, .int .i64 b.prod, .int .i64 b.epoch, .int .i64 b.seq, .slice A b.recs.length c] := by rw [hw1]; exact Blk.new _ _ _
  have hb1 : Below w.heap.size w w1 := by rw [hw1]; exact (Below.refl _ w).alloc (Nat.le_refl _) _
  clear hw1
  have hlt1 : w.heap.size < w1.heap.size := hbk.lt
  have q0 : ∀ x : Later w1 (fun _ => False), x.1.cell? ⟨w.heap.size, 0, none⟩ = some (.int .i64 b.base) := fun x => (x.2.blk hbk id).cell 0 rfl
  have p0 : w1.cell? ⟨w.heap.size, 0, none⟩ = some (.int .i64 b.base) := hbk.cell 0 rfl
  have q1 : ∀ x : Later w1 (fun _ => False), x.1.cell? ⟨w.heap.size, 1, none⟩ = some (.int .i64 b.last) := fun x => (x.2.blk hbk id).cell 1 rfl
  have p1 : w1.cell? ⟨w.heap.size, 1, none⟩ = some (.int .i64 b.last) := hbk.cell 1 rfl
  have q2 : ∀ x : Later w1 (fun _ => False), x.1.cell? ⟨w.heap.size, 2, none⟩ = some (.int .i64 b.prod) := fun x => (x.2.blk hbk id).cell 2 rfl
  have p2 : w1.cell? ⟨w.heap.size, 2, none⟩ = some (.int .i64 b.prod) := hbk.cell 2 rfl
  have q3 : ∀ x : Later w1 (fun _ => False), x.1.cell? ⟨w.heap.size, 3, none⟩ = some (.int .i64 b.epoch) := fun x => (x.2.blk hbk id).cell 3 rfl
  have p3 : w1.cell? ⟨w.heap.size, 3, none⟩ = some (.int .i64 b.epoch) := hbk.cell 3 rfl
  have q4 : ∀ x : Later w1 (fun _ => False), x.1.cell? ⟨w.heap.size, 4, none⟩ = some (.int .i64 b.seq) := fun x => (x.2.blk hbk id).cell 4 rfl
  have p4 : w1.cell? ⟨w.heap.size, 4, none⟩ = some (.int .i64 b.seq) := hbk.cell 4 rfl
  have q5 : ∀ x : Later w1 (fun _ => False), x.1.cell? ⟨w.heap.size, 5, none⟩ = some (.slice A b.recs.length c) := fun x => (x.2.blk hbk id).cell 5 rfl
  have p5 : w1.cell? ⟨w.heap.size, 5, none⟩ = some (.slice A b.recs.length c) := hbk.cell 5 rfl
  have HBK := Lib.hid hbk; clear hbk
  have HB1 := Lib.hid hb1; clear hb1
  go_upto_if 10 with fail
  go_cut [3] from 11 to 15 (fun s3 wx => s3 = .int .i64 F ∧ wx = w1)
  case first =>
    by_cases h0 : 0 < b.recs.length
    · obtain ⟨x, hx⟩ : ∃ x, b.recs[0]? = some x := ⟨_, List.getElem?_eq_getElem h0⟩
      obtain ⟨p, off, c', kv, vv, hA, -, -, hp, d0, d1, d2, d3, d4, d5, hk, hvv, -, -⟩ := (HV.out.below HB1.out (Nat.le_refl _)).at' hx
      obtain ⟨rfl, rfl⟩ : A = some ⟨p, off, none⟩ ∧ c = c' := by simpa using hA
      have hxF : x.time = F := by
        rw [HF.out]
        cases hr : b.recs with
        | nil => rw [hr] at hx; cases hx
        | cons r rs => rw [hr] at hx; obtain rfl : r = x := by simpa using hx
                       rfl
      rw [hxF] at d1
      have d1' : w1.cell? ⟨p, off + 1, none⟩ = some (.int .i64 F) := by simpa using d1
      clear hA hx hxF d0 d2 d3 d4 d5 hk hvv d1
      go_wp2_with fail
      go_meet
      case rel => exact ⟨rfl, rfl⟩
    · have h0' : b.recs.length = 0 := by omega
      have hF0 : F = 0 := by
        rw [HF.out]
        cases hr : b.recs with
        | nil => rfl
        | cons r rs => rw [hr] at h0'; simp at h0'
      have HF0 := Lib.hid hF0; clear hF0 h0'
      go_wp2_with fail
      go_meet
      case rel => exact ⟨by rw [HF0.out], rfl⟩
  case rest =>
    obtain ⟨rfl, rfl⟩ := hcut
    go_wp2_with fail
    refine (ref.fixed_int (b.last - b.base) 8 wc (by omega) (by omega) (by omega) (by omega)).mono ?_
    rintro e w2 ⟨A1, c1, rfl, ha1, hat1⟩
    have HA1 := Lib.hid ha1; clear ha1 hat1
    go_wp2_with fail
    refine (ref.fixed_int F 8 w2 (by omega) (by omega) (by omega) (by omega)).mono ?_
    rintro e w3 ⟨A2, c2, rfl, ha2, hat2⟩
    have HA2 := Lib.hid (HA1.out.keep ha2.2); clear ha2
    have HAT2 := Lib.hid hat2; clear hat2 HA1 p0 p1 p2 p3 p4 p5
    go_upto_region 5 with (at_builtin; go_loud (refine wpList_acc rfl (.tmp 21) (.tmp 23) rfl _ _ rfl HA2.out A2 8 c2 _ rfl (wire.be_len _ _) HAT2.out (by simp [wire.be_len]) ?_; intro v3 w4 hA3; have HA3 := Lib.hid hA3; clear hA3))
    clear HA2 HAT2
    have hS0 : later wc (fun _ => False) w4.drew := later_of ((chg_of HA3.out.2).drew)
    refine wp_plan (S := fun w0 => ∃ x : Later wc (fun _ => False), w0 = x.1) (by kernel_rfl) hS0 ?_
    intro hS K hK
    have HS := Lib.hid hS; clear hS hS0
    have HA4 := Lib.hid (HA3.out.keep (bdrew (Below.refl _ w4) 1)); clear HA3
    refine plan_group [true, true, true, false, false, true, true, false, false, true, true, false, false, true, true, true] [0, 1, 2, 5, 6, 9, 10, 13, 14, 15] 9 (by dsimp only [sel]) (by rfl) rfl (by kernel_rfl) (by kernel_rfl) HS.out ?_
    (repeat go_big_quiet_step (fail)); refine wpQuiet_nil ?_
    refine plan_one [false, false, false, true] 3 8 (by dsimp only [sel]) (by rfl) rfl (by kernel_rfl) ?_; intro K1 hK1; go_wp2_with fail
    refine (ref.fixed_int b.prod 8 _ (by omega) (by omega) (by omega) (by omega)).mono ?_
    rintro e x5 ⟨B5, k5, rfl, ha, hat⟩
    have HC5 := Lib.hid (HA4.out.keep ha.2); have HT5 := Lib.hid hat; clear ha hat HA4
    go_wp2_with fail
    refine ⟨later_of (chg_of HC5.out.2), ?_⟩
    refine plan_one [false, false, false, false, true] 4 7 (by dsimp only [sel]) (by rfl) rfl (by kernel_rfl) ?_; intro K1 hK1; go_wp2_with (at_builtin; go_loud (refine wpList_acc rfl (.tmp 25) (.tmp 28) rfl v3 _ rfl HC5.out B5 8 k5 _ rfl (wire.be_len _ _) HT5.out (by simp [wire.be_len]) ?_; intro u5 y5 hA; have HD5 := Lib.hid hA; clear hA))
    go_simp
    refine ⟨later_of (chg_of HD5.out.2), ?_⟩
    clear HC5 HT5
    refine plan_one [false, false, false, false, false, false, false, true] 7 6 (by dsimp only [sel]) (by rfl) rfl (by kernel_rfl) ?_; intro K1 hK1; go_wp2_with fail
    refine (ref.fixed_int b.epoch 2 _ (by omega) (by omega) (by omega) (by omega)).mono ?_
    rintro e x6 ⟨B6, k6, rfl, ha, hat⟩
    have HC6 := Lib.hid (HD5.out.keep ha.2); have HT6 := Lib.hid hat; clear ha hat HD5
    go_wp2_with fail
    refine ⟨later_of (chg_of HC6.out.2), ?_⟩
    refine plan_one [false, false, false, false, false, false, false, false, true] 8 5 (by dsimp only [sel]) (by rfl) rfl (by kernel_rfl) ?_; intro K1 hK1; go_wp2_with (at_builtin; go_loud (refine wpList_acc rfl (.tmp 29) (.tmp 32) rfl u5 _ rfl HC6.out B6 2 k6 _ rfl (wire.be_len _ _) HT6.out (by simp [wire.be_len]) ?_; intro u6 y6 hA; have HD6 := Lib.hid hA; clear hA))
    go_simp
    refine ⟨later_of (chg_of HD6.out.2), ?_⟩
    clear HC6 HT6
    refine plan_one [false, false, false, false, false, false, false, false, false, false, false, true] 11 4 (by dsimp only [sel]) (by rfl) rfl (by kernel_rfl) ?_; intro K1 hK1; go_wp2_with fail
    refine (ref.fixed_int b.seq 4 _ (by omega) (by omega) (by omega) (by omega)).mono ?_
    rintro e x7 ⟨B7, k7, rfl, ha, hat⟩
    have HC7 := Lib.hid (HD6.out.keep ha.2); have HT7 := Lib.hid hat; clear ha hat HD6
    go_wp2_with fail
    refine ⟨later_of (chg_of HC7.out.2), ?_⟩
    refine plan_one [false, false, false, false, false, false, false, false, false, false, false, false, true] 12 3 (by dsimp only [sel]) (by rfl) rfl (by kernel_rfl) ?_; intro K1 hK1; go_wp2_with (at_builtin; go_loud (refine wpList_acc rfl (.tmp 33) (.tmp 36) rfl u6 _ rfl HC7.out B7 4 k7 _ rfl (wire.be_len _ _) HT7.out (by simp [wire.be_len]) ?_; intro u7 y7 hA; have HD7 := Lib.hid hA; clear hA))
    go_simp
    refine ⟨later_of (chg_of HD7.out.2), ?_⟩
    clear HC7 HT7
    refine plan_one [false, false, false, false, false, false, false, false, false, false, false, false, false, false, false, false, true] 16 2 (by dsimp only [sel]) (by rfl) rfl (by kernel_rfl) ?_; intro K1 hK1; go_wp2_with fail
    refine (ref.fixed_int (b.recs.length : Int) 4 _ (by omega) (by omega) (by omega) (by omega)).mono ?_
    rintro e x8 ⟨B8, k8, rfl, ha, hat⟩
    have HC8 := Lib.hid (HD7.out.keep ha.2); have HT8 := Lib.hid hat; clear ha hat HD7
    go_wp2_with fail
    refine ⟨later_of (chg_of HC8.out.2), ?_⟩
    refine plan_one [false, false, false, false, false, false, false, false, false, false, false, false, false, false, false, false, false, true] 17 1 (by dsimp only [sel]) (by rfl) rfl (by kernel_rfl) ?_; intro K1 hK1; go_wp2_with (at_builtin; go_loud (refine wpList_acc rfl (.tmp 37) (.tmp 41) rfl u7 _ rfl HC8.out B8 4 k8 _ rfl (wire.be_len _ _) HT8.out (by simp [wire.be_len]) ?_; intro u8 y8 hA; have HD8 := Lib.hid hA; clear hA))
    go_simp
    refine ⟨later_of (chg_of HD8.out.2), ?_⟩
    clear HC8 HT8
    refine plan_group [false, false, false, false, false, false, false, false, false, false, false, false, false, false, false, false, false, false, true] [18] 0 (by dsimp only [sel]) (by rfl) rfl (by kernel_rfl) (by kernel_rfl) (later_of (chg_of HD8.out.2)) ?_
    (repeat go_big_quiet_step (fail)); refine wpQuiet_nil ?_
    refine wp_plan_end (by kernel_rfl) ?_
    clear HS
    refine hK _ _ ?_
    have hhd : Acc wc u8 (b.body 0) y8 := by
      have h := HD8.out
      rw [Int.toNat_natCast] at h
      unfold Bat.body Bat.head
      rw [← HF.out, List.take_zero, List.map_nil, List.flatten_nil, List.append_nil]
      exact h
    have HHD := Lib.hid hhd; clear hhd HD8
    go_wp2_with fail
    go_loopw [4, 5] (fun v i wr => ∃ j : Nat, j ≤ b.recs.length ∧ i = .int .i64 (j : Int) ∧ Acc wc v (b.body j) wr) (fun _ i _ => b.recs.length - (intOf i).toNat)
    case atStart => exact ⟨0, by omega, rfl, HHD.out⟩
    case round =>
      obtain ⟨j, hj, rfl, hacc⟩ := hrel
      have HACC := Lib.hid hacc; clear hacc
      have hbw : Below w.heap.size w wr := HB1.out.trans (HACC.out.2.mono HB1.out.size)
      have HBW := Lib.hid hbw; clear hbw
      have q5r : wr.cell? ⟨w.heap.size, 5, none⟩ = some (.slice A b.recs.length c) := ((chg_of (P := fun _ => False) HACC.out.2).blk HBK.out id).cell 5 rfl
      by_cases hlt : j < b.recs.length
      · obtain ⟨x, hx⟩ : ∃ x, b.recs[j]? = some x := ⟨_, List.getElem?_eq_getElem hlt⟩
        obtain ⟨p, off, c', kv, vv, hA, -, -, hp, d0, d1, d2, d3, d4, d5, hk, hvv, -, -⟩ := (HV.out.below HB1.out (Nat.le_refl _)).at' hx
        obtain ⟨rfl, rfl⟩ : A = some ⟨p, off, none⟩ ∧ c = c' := by simpa using hA
        obtain ⟨Ak, ck, rfl, hak, -, -, -⟩ := hk
        obtain ⟨Av, cv, rfl, hav, -, -, -⟩ := hvv
        have hxo := HOK.out x (List.mem_of_getElem? hx)
        have hxf := HFL.out x (List.mem_of_getElem? hx)
        have hbsucc := b.body_succ j x hx
        rw [← HF.out, ← Rec.rest_bytes x F b.base hxf.1 hxf.2] at hbsucc
        have HBS := Lib.hid hbsucc; clear hbsucc
        have hbl := HBL.out j
        have hrl : (x.rest F b.base).length ≤ 2240 := by
          have h1 := Rec.rest_len x F b.base hxf.1 hxf.2
          have h2 := Rec.body_le hxo F b.base
          omega
        have hcall : ∀ wx, Below wc.heap.size wc wx → Calls Try.prog 59 #[x.hval Ak ck Av cv, .int .i64 F, .int .i64 b.base] wx fun e w' => (∃ v, e = .returned v ∧ Acc wx v (x.rest F b.base) w') := fun wx h => ref.body_any x F b.base Ak ck Av cv wx hxo hfirst ⟨m0, m1⟩ (hak.below h (Nat.le_refl _)) (hav.below h (Nat.le_refl _))
        unfold Rec.hval at hcall
        have HCALL := Lib.hid hcall; clear hcall hxo hxf hak hav
        have r0 : ∀ y : Later wc (fun _ => False), y.1.cell? ⟨p, off + j * 6, none⟩ = some (.int .i64 x.off) := fun y => ((y.2.below (Nat.le_refl _) (fun _ q => q.elim)).cell hp).trans d0
        have r1 : ∀ y : Later wc (fun _ => False), y.1.cell? ⟨p, off + j * 6 + 1, none⟩ = some (.int .i64 x.time) := fun y => ((y.2.below (Nat.le_refl _) (fun _ q => q.elim)).cell hp).trans d1
        have r2 : ∀ y : Later wc (fun _ => False), y.1.cell? ⟨p, off + j * 6 + 2, none⟩ = some (.bool x.hasKey) := fun y => ((y.2.below (Nat.le_refl _) (fun _ q => q.elim)).cell hp).trans d2
        have r3 : ∀ y : Later wc (fun _ => False), y.1.cell? ⟨p, off + j * 6 + 3, none⟩ = some (.slice Ak x.key.length ck) := fun y => ((y.2.below (Nat.le_refl _) (fun _ q => q.elim)).cell hp).trans d3
        have r4 : ∀ y : Later wc (fun _ => False), y.1.cell? ⟨p, off + j * 6 + 4, none⟩ = some (.bool x.hasVal) := fun y => ((y.2.below (Nat.le_refl _) (fun _ q => q.elim)).cell hp).trans d4
        have r5 : ∀ y : Later wc (fun _ => False), y.1.cell? ⟨p, off + j * 6 + 5, none⟩ = some (.slice Av x.val.length cv) := fun y => ((y.2.below (Nat.le_refl _) (fun _ q => q.elim)).cell hp).trans d5
        have s0 : ∀ y : Later wc (fun _ => False), y.1.cell? ⟨w.heap.size, 0, none⟩ = some (.int .i64 b.base) := fun y => (y.2.blk HBK.out id).cell 0 rfl
        have s5 : ∀ y : Later wc (fun _ => False), y.1.cell? ⟨w.heap.size, 5, none⟩ = some (.slice (some ⟨p, off, none⟩) b.recs.length c) := fun y => (y.2.blk HBK.out id).cell 5 rfl
        clear d0 d1 d2 d3 d4 d5 hA hx q0 q1 q2 q3 q4 q5
        go_upto_region 9 with fail
        have hS0 : later wc (fun _ => False) wr.drew := later_of ((chg_of HACC.out.2).drew)
        refine wp_plan (S := fun w0 => ∃ x : Later wc (fun _ => False), w0 = x.1) (by kernel_rfl) hS0 ?_
        intro hS K5 hK5
        have HS := Lib.hid hS; clear hS hS0
        refine plan_group [true, true, true, true, true, true, true, true] [0, 1, 2, 3, 4, 5, 6, 7] 5 (by dsimp only [sel]) (by rfl) rfl (by kernel_rfl) (by kernel_rfl) HS.out ?_
        (repeat go_big_quiet_step (fail)); refine wpQuiet_nil ?_
        have s0' : wr.drew.cell? ⟨w.heap.size, 0, none⟩ = some (.int .i64 b.base) := s0 ⟨_, (chg_of HACC.out.2).drew⟩
        refine plan_one [false, false, false, false, false, false, false, false, true] 8 4 (by dsimp only [sel]) (by rfl) rfl (by kernel_rfl) ?_; intro K1 hK1; go_wp2_with fail
        refine ⟨HS.out, ?_⟩
        clear s0'
        refine plan_one [false, false, false, false, false, false, false, false, false, true] 9 3 (by dsimp only [sel]) (by rfl) rfl (by kernel_rfl) ?_; intro K1 hK1; go_wp2_with fail
        refine (HCALL.out _ (bdrew HACC.out.2 1)).mono ?_
        rintro e z1 ⟨v59, rfl, hz⟩
        obtain ⟨Az, cz, rfl, -, hatz⟩ := hz.at'
        have HE1 := Lib.hid ((HACC.out.keep (bdrew (Below.refl _ wr) 1)).keep hz.2)
        have HATZ := Lib.hid hatz; clear hz hatz
        go_wp2_with fail
        refine ⟨later_of (chg_of HE1.out.2), ?_⟩
        refine plan_one [false, false, false, false, false, false, false, false, false, false, true] 10 2 (by dsimp only [sel]) (by rfl) rfl (by kernel_rfl) ?_; intro K1 hK1; go_wp2_with fail
        refine (ref.bytes_any Az _ cz (x.rest F b.base) _ rfl HATZ.out (by omega)).mono ?_
        obtain ⟨M, hM⟩ : ∃ M, M = num.put ((x.rest F b.base).length : Int) ++ x.rest F b.base := ⟨_, rfl⟩
        have hml : M.length ≤ 2250 := by rw [hM, List.length_append]; have := num.put_bd ((x.rest F b.base).length : Int); omega
        have hbs := HBS.out
        rw [← hM] at hbs ⊢
        have HBSM := Lib.hid hbs; clear hbs hM
        rintro e z2 ⟨v60, rfl, hz⟩
        obtain ⟨Ay, cy, rfl, -, haty⟩ := hz.at'
        have HE2 := Lib.hid (HE1.out.keep hz.2)
        have HATY := Lib.hid haty; clear hz haty HE1
        go_wp2_with fail
        refine ⟨later_of (chg_of HE2.out.2), ?_⟩
        refine plan_one [false, false, false, false, false, false, false, false, false, false, false, true] 11 1 (by dsimp only [sel]) (by rfl) rfl (by kernel_rfl) ?_; intro K1 hK1; go_wp2_with (at_builtin; go_loud (refine wpList_acc rfl (.tmp 50) (.tmp 60) rfl _ _ rfl HE2.out Ay _ cy M rfl rfl HATY.out (by omega) ?_; intro v61 z3 hA; have HE3 := Lib.hid hA; clear hA))
        go_simp
        refine ⟨later_of (chg_of HE3.out.2), ?_⟩
        refine plan_group [false, false, false, false, false, false, false, false, false, false, false, false, true] [12] 0 (by dsimp only [sel]) (by rfl) rfl (by kernel_rfl) (by kernel_rfl) (later_of (chg_of HE3.out.2)) ?_
        (repeat go_big_quiet_step (fail)); refine wpQuiet_nil ?_
        refine wp_plan_end (by kernel_rfl) ?_
        clear HS r0 r1 r2 r3 r4 r5 s0 s5 HE2 HATY HATZ
        refine hK5 _ _ ?_
        go_wp2_with fail
        go_roundw
        case rel => exact ⟨j + 1, by omega, by go_num, by rw [HBSM.out]; exact HE3.out⟩
        case measure => simp [intOf]; omega
      · obtain rfl : j = b.recs.length := by omega
        obtain ⟨S, hS⟩ : ∃ S, S = b.summed := ⟨_, rfl⟩
        have hacc := HACC.out
        rw [show b.body b.recs.length = S from hS.symm] at hacc
        have hsl : S.length ≤ 225034 := by rw [hS]; exact HBL.out b.recs.length
        have hsb : ∀ x ∈ S, x < 256 := by rw [hS]; exact HSB.out
        have HS := Lib.hid hS; clear hS
        obtain ⟨Ap, cp, rfl, hcp, hatp⟩ := hacc.at'
        have HATP := Lib.hid hatp; clear hatp
        have HSBY := Lib.hid hsb; clear hsb
        have HACC2 := Lib.hid hacc; clear hacc HACC
        have q0r : wr.cell? ⟨w.heap.size, 0, none⟩ = some (.int .i64 b.base) := ((chg_of (P := fun _ => False) HACC2.out.2).blk HBK.out id).cell 0 rfl
        have hcp2 : cp ≤ maxLen := own_cap HACC2.out.1
        clear q0 q1 q2 q3 q4 q5
        go_wp2_with fail
        refine (ref.fixed_int b.base 8 wr (by omega) (by omega) (by omega) (by omega)).mono ?_
        rintro e w5 ⟨A5, c5, rfl, ha, -⟩
        have HF1 := Lib.hid ha; clear ha
        clear q0r q5r
        go_wp2_with fail
        refine (ref.fixed_int ((S.length : Int) + 4) 4 w5 (by omega) (by omega) (by omega) (by omega)).mono ?_
        rintro e w6 ⟨A6, c6, rfl, ha, hat⟩
        have HF2 := Lib.hid (HF1.out.keep ha.2); have HT6 := Lib.hid hat; clear ha hat HF1
        go_wp2_with (at_builtin; go_loud (refine wpList_acc rfl (.tmp 64) (.tmp 68) rfl _ _ rfl HF2.out A6 4 c6 _ rfl (wire.be_len _ _) HT6.out (by simp [wire.be_len]) ?_; intro v7 w7 hA; have HF3 := Lib.hid hA; clear hA))
        have hby : Bytes w7 (.slice Ap S.length cp) S := ⟨Ap, cp, rfl, by omega, HATP.out.below HF3.out.2 (Nat.le_refl _), HSBY.out⟩
        have HBY := Lib.hid hby; clear hby
        refine (crc.refsum_any (.slice Ap S.length cp) S w7 HBY.out).mono ?_
        rintro e wx ⟨rfl, rfl⟩
        obtain ⟨C, hC⟩ : ∃ C, C = crc.more 0 S := ⟨_, rfl⟩
        have hClt : C < 4294967296 := by rw [hC]; exact crc.more_lt _ _
        rw [← hC]
        have HC := Lib.hid hC; clear hC HF2 HT6
        go_wp2_with fail
        refine (ref.fixed_int (C : Int) 4 w7 (by omega) (by omega) (by omega) (by omega)).mono ?_
        rintro e w8 ⟨A8, c8, rfl, ha, hat⟩
        have HF4 := Lib.hid (HF3.out.keep ha.2); have HT8 := Lib.hid hat; clear ha hat HF3
        go_wp2_with (first
          | (at_builtin; refine wpList_acc rfl (.tmp 75) (.tmp 76) rfl _ _ rfl HF5.out Ap S.length cp S rfl rfl (HATP.out.below HF5.out.2 (Nat.le_refl _)) (by simp [wire.be_len]; omega) ?_; intro v10 w10 hA; have HF6 := Lib.hid hA; clear hA)
          | (at_builtin; refine wpList_acc rfl (.tmp 70) (.tmp 74) rfl _ _ rfl HF4.out A8 4 c8 _ rfl (wire.be_len _ _) HT8.out (by simp [wire.be_len]) ?_; intro v9 w9 hA; have HF5 := Lib.hid hA; clear hA))
        go_wp2
        go_ret
        refine ⟨_, rfl, ?_⟩
        have h := HF6.out
        have hlen : wire.be b.base.toNat 8 ++ wire.be ((S.length : Int) + 4).toNat 4 ++ wire.be ((C : Int)).toNat 4 ++ S = b.bytes := by
          unfold Bat.bytes Bat.front
          rw [HC.out, HS.out, Int.toNat_natCast, show ((b.summed.length : Int) + 4).toNat = 4 + b.summed.length by omega]
        rw [hlen] at h
        exact h.up (HB1.out.trans (HACC2.out.2.mono HB1.out.size))
/-- What the reference's checkRecord answers. -/
def Rec.rchk (r : Rec) (base last ahead : Int) : Int := if r.off < base ∨ last < r.off ∨ r.off ≤ ahead then 1 else r.chk

theorem ref.rchk_of {base last ah arf : Int} (h : ∀ o : Int, (o < base ∨ o ≤ arf) ↔ o ≤ ah) (r : Rec) : r.rchk base last arf = if r.off ≤ ah ∨ last < r.off then 1 else r.chk := by
  have h1 := h r.off
  unfold Rec.rchk
  by_cases h2 : r.off ≤ ah ∨ last < r.off
  · rw [if_pos h2, if_pos (by omega)]
  · rw [if_neg h2, if_neg (by omega)]
theorem Rec.chk_flags {r : Rec} (h : r.chk = 0) : (r.hasKey = false → r.key = []) ∧ (r.hasVal = false → r.val = []) := by
  unfold Rec.chk at h
  split at h
  · cases h
  · split at h
    · cases h
    · rename_i h1 h2
      refine ⟨fun hf => ?_, fun hf => ?_⟩
      · exact List.length_eq_zero_iff.1 (by by_cases hl : 0 < r.key.length; exact absurd (Or.inl ⟨hf, hl⟩) h2; omega)
      · exact List.length_eq_zero_iff.1 (by by_cases hl : 0 < r.val.length; exact absurd (Or.inr ⟨hf, hl⟩) h2; omega)
theorem bat.chks_flags {last : Int} : ∀ (rs : List Rec) (ahead : Int), bat.chks last ahead rs = 0 → ∀ r ∈ rs, (r.hasKey = false → r.key = []) ∧ (r.hasVal = false → r.val = []) := by
  intro rs
  induction rs with
  | nil => intro _ _ r hr; cases hr
  | cons x xs ih =>
    intro ahead h r hr
    unfold bat.chks at h
    split at h
    · cases h
    · split at h
      · rename_i h2; exact absurd h h2
      · rename_i h2
        rcases List.mem_cons.1 hr with rfl | hr
        · exact Rec.chk_flags (by omega)
        · exact ih x.off h r hr
theorem Bat.flat_len (first base : Int) (rs : List Rec) (h : ∀ r ∈ rs, (r.hasKey = false → r.key = []) ∧ (r.hasVal = false → r.val = [])) : (((rs.map (Rec.bytes first base)).flatten).length : Int) = Bat.sum first base rs := by
  unfold Bat.sum
  induction rs with
  | nil => rfl
  | cons r rs ih =>
    have h1 := ih fun x hx => h x (List.mem_cons_of_mem _ hx)
    obtain ⟨h2, h3⟩ := h r (List.mem_cons_self ..)
    have h4 := Rec.rest_len r first base h2 h3
    have h5 : (r.bytes first base).length = num.widI (r.body first base) + (r.rest first base).length := by
      rw [← Rec.rest_bytes r first base h2 h3, List.length_append, Rec.rest_len r first base h2 h3, num.put_len]
      rfl
    simp only [List.map_cons, List.flatten_cons, List.length_append, List.sum_cons]
    omega
theorem Bat.bytes_len (b : Bat) (h : b.flags) : (b.bytes.length : Int) = b.size := by
  have h1 := Bat.flat_len (Bat.first b.recs) b.base b.recs h
  have h2 := Bat.head_len b
  have h3 : b.summed.length = 34 + ((b.recs.map (Rec.bytes (Bat.first b.recs) b.base)).flatten).length := by
    unfold Bat.summed Bat.body
    rw [List.length_append, h2, List.take_length]
  have h4 : b.front.length = 16 := by unfold Bat.front; simp only [List.length_append, wire.be_len]
  unfold Bat.bytes Bat.size
  rw [List.length_append, h4, h3]
  omega

set_option maxRecDepth 20000 in
set_option maxHeartbeats 2000000 in
theorem ref.record_any (r : Rec) (b : Bat) (Ak : Option Addr) (ck : Nat) (Av : Option Addr) (cv : Nat) (A : Option Addr) (c : Nat) (ahead : Int) (w : World) :
    Calls Try.prog 48 #[r.hval Ak ck Av cv, b.hval A b.recs.length c, .int .i64 ahead] w fun e w' => e = .returned (.int .i64 (r.rchk b.base b.last ahead)) ∧ Below w.heap.size w w' := by
  have hpost : ∀ (x : Int), x = r.rchk b.base b.last ahead → Ending.returned (.int .i64 x) = Ending.returned (.int .i64 (r.rchk b.base b.last ahead)) := fun x h => by rw [h]
  have HPOST := Lib.hid hpost; clear hpost
  have hchk : r.rchk b.base b.last ahead = if r.off < b.base ∨ b.last < r.off ∨ r.off ≤ ahead then 1 else if r.time < 0 ∨ 1125899906842624 < r.time then 1 else if (r.hasKey = false ∧ 0 < r.key.length) ∨ (r.hasVal = false ∧ 0 < r.val.length) then 1 else if 200 < r.key.length ∨ 2000 < r.val.length then 3 else 0 := rfl
  have HC := Lib.hid hchk; clear hchk
  obtain ⟨x0, x1, hk, kk, hv, vv⟩ := r
  unfold Rec.hval Bat.hval
  dsimp only at *
  generalize kk.length = kn at *
  generalize vv.length = vn at *
  generalize b.recs.length = bn at *
  generalize b.base = b0 at *
  generalize b.last = b1 at *
  generalize b.prod = b2 at *
  generalize b.epoch = b3 at *
  generalize b.seq = b4 at *
  cases hk <;> cases hv
  all_goals
    go_enter Try.func48, Try.ntmps48
    go_wp2
    all_goals
      go_ret
      refine ⟨HPOST.out _ ?_, ?_⟩
      · rw [HC.out]
        simp
        try (repeat' split) <;> omega
      · go_grown
set_option maxRecDepth 20000 in
set_option maxHeartbeats 12000000 in
theorem ref.check_any (b : Bat) (A : Option Addr) (c : Nat) (w : World) (hv : RecsV w (.slice A b.recs.length c) b.recs) :
    Calls Try.prog 29 #[b.hval A b.recs.length c] w fun e w' => e = .returned (.int .i64 b.check) ∧ Below w.heap.size w w' := by
  obtain ⟨x0, x1, x2, x3, x4, rs⟩ := b
  dsimp only at *
  have hbool : ∀ r : Bool, (r = true ↔ ¬ (⟨x0, x1, x2, x3, x4, rs⟩ : Bat).may) → Value.bool r = .bool (decide (¬ (⟨x0, x1, x2, x3, x4, rs⟩ : Bat).may)) := fun r h => by
    congr 1
    by_cases hm : (⟨x0, x1, x2, x3, x4, rs⟩ : Bat).may
    · have : r = false := by cases r <;> simp_all
      rw [this]; exact (decide_eq_false (fun h => h hm)).symm
    · rw [h.2 hm]; exact (decide_eq_true hm).symm
  have HBOOL := Lib.hid hbool; clear hbool
  have HV := Lib.hid hv; clear hv
  obtain ⟨w1, hw1⟩ : ∃ w1, w1 = w.alloc (.cells #[.int .i64 x0, .int .i64 x1, .int .i64 x2, .int .i64 x3, .int .i64 x4, .slice A rs.length c] 46) := ⟨_, rfl⟩
  have hbk : Blk w1 w.heap.size 46 #[.int .i64 x0, .int .i64 x1, .int .i64 x2, .int .i64 x3, .int .i64 x4, .slice A rs.length c] := by rw [hw1]; exact Blk.new _ _ _
  have hb1 : Below w.heap.size w w1 := by rw [hw1]; exact (Below.refl _ w).alloc (Nat.le_refl _) _
  have hlt1 : w.heap.size < w1.heap.size := hbk.lt
  have HBK := Lib.hid hbk; clear hbk
  have HB1 := Lib.hid hb1; clear hb1
  have HW1 := Lib.hid hw1; clear hw1
  unfold Bat.hval at *
  go_enter Try.func29, Try.ntmps29
  go_upto_region 1 with fail
  rw [← HW1.out]
  clear HW1
  generalize (Value.agg #[.int .i64 x0, .int .i64 x1, .int .i64 x2, .int .i64 x3, .int .i64 x4, .slice A rs.length c]) = V0
  go_cut [70] from 6 to 70 (fun s70 wx => s70 = .bool (decide (¬ (⟨x0, x1, x2, x3, x4, rs⟩ : Bat).may)) ∧ wx = w1)
  case first =>
    have hall : (x0 < 0) ∨ (¬ x0 < 0 ∧ 4611686018427387904 < x0) ∨ (¬ x0 < 0 ∧ ¬ 4611686018427387904 < x0 ∧ x1 < x0) ∨ (¬ x0 < 0 ∧ ¬ 4611686018427387904 < x0 ∧ ¬ x1 < x0 ∧ 4611686018427387904 < x1) ∨ (¬ x0 < 0 ∧ ¬ 4611686018427387904 < x0 ∧ ¬ x1 < x0 ∧ ¬ 4611686018427387904 < x1 ∧ x2 < 0) ∨ (¬ x0 < 0 ∧ ¬ 4611686018427387904 < x0 ∧ ¬ x1 < x0 ∧ ¬ 4611686018427387904 < x1 ∧ ¬ x2 < 0 ∧ 1099511627776 < x2) ∨ (¬ x0 < 0 ∧ ¬ 4611686018427387904 < x0 ∧ ¬ x1 < x0 ∧ ¬ 4611686018427387904 < x1 ∧ ¬ x2 < 0 ∧ ¬ 1099511627776 < x2 ∧ x3 < 0) ∨ (¬ x0 < 0 ∧ ¬ 4611686018427387904 < x0 ∧ ¬ x1 < x0 ∧ ¬ 4611686018427387904 < x1 ∧ ¬ x2 < 0 ∧ ¬ 1099511627776 < x2 ∧ ¬ x3 < 0 ∧ 32767 < x3) ∨ (¬ x0 < 0 ∧ ¬ 4611686018427387904 < x0 ∧ ¬ x1 < x0 ∧ ¬ 4611686018427387904 < x1 ∧ ¬ x2 < 0 ∧ ¬ 1099511627776 < x2 ∧ ¬ x3 < 0 ∧ ¬ 32767 < x3 ∧ x4 < 0) ∨ (¬ x0 < 0 ∧ ¬ 4611686018427387904 < x0 ∧ ¬ x1 < x0 ∧ ¬ 4611686018427387904 < x1 ∧ ¬ x2 < 0 ∧ ¬ 1099511627776 < x2 ∧ ¬ x3 < 0 ∧ ¬ 32767 < x3 ∧ ¬ x4 < 0 ∧ 2147483647 < x4) ∨ (¬ x0 < 0 ∧ ¬ 4611686018427387904 < x0 ∧ ¬ x1 < x0 ∧ ¬ 4611686018427387904 < x1 ∧ ¬ x2 < 0 ∧ ¬ 1099511627776 < x2 ∧ ¬ x3 < 0 ∧ ¬ 32767 < x3 ∧ ¬ x4 < 0 ∧ ¬ 2147483647 < x4 ∧ ¬ x2 = 0) ∨ (¬ x0 < 0 ∧ ¬ 4611686018427387904 < x0 ∧ ¬ x1 < x0 ∧ ¬ 4611686018427387904 < x1 ∧ ¬ x2 < 0 ∧ ¬ 1099511627776 < x2 ∧ ¬ x3 < 0 ∧ ¬ 32767 < x3 ∧ ¬ x4 < 0 ∧ ¬ 2147483647 < x4 ∧ x2 = 0 ∧ ¬ x3 = 0) ∨ (¬ x0 < 0 ∧ ¬ 4611686018427387904 < x0 ∧ ¬ x1 < x0 ∧ ¬ 4611686018427387904 < x1 ∧ ¬ x2 < 0 ∧ ¬ 1099511627776 < x2 ∧ ¬ x3 < 0 ∧ ¬ 32767 < x3 ∧ ¬ x4 < 0 ∧ ¬ 2147483647 < x4 ∧ x2 = 0 ∧ x3 = 0 ∧ ¬ x4 = 0) ∨ (¬ x0 < 0 ∧ ¬ 4611686018427387904 < x0 ∧ ¬ x1 < x0 ∧ ¬ 4611686018427387904 < x1 ∧ ¬ x2 < 0 ∧ ¬ 1099511627776 < x2 ∧ ¬ x3 < 0 ∧ ¬ 32767 < x3 ∧ ¬ x4 < 0 ∧ ¬ 2147483647 < x4 ∧ x2 = 0 ∧ x3 = 0 ∧ x4 = 0) := by
      by_cases h0 : x0 < 0
      · exact .inl h0
      by_cases h1 : 4611686018427387904 < x0
      · exact .inr (.inl ⟨h0, h1⟩)
      by_cases h2 : x1 < x0
      · exact .inr (.inr (.inl ⟨h0, h1, h2⟩))
      by_cases h3 : 4611686018427387904 < x1
      · exact .inr (.inr (.inr (.inl ⟨h0, h1, h2, h3⟩)))
      by_cases h4 : x2 < 0
      · exact .inr (.inr (.inr (.inr (.inl ⟨h0, h1, h2, h3, h4⟩))))
      by_cases h5 : 1099511627776 < x2
      · exact .inr (.inr (.inr (.inr (.inr (.inl ⟨h0, h1, h2, h3, h4, h5⟩)))))
      by_cases h6 : x3 < 0
      · exact .inr (.inr (.inr (.inr (.inr (.inr (.inl ⟨h0, h1, h2, h3, h4, h5, h6⟩))))))
      by_cases h7 : 32767 < x3
      · exact .inr (.inr (.inr (.inr (.inr (.inr (.inr (.inl ⟨h0, h1, h2, h3, h4, h5, h6, h7⟩)))))))
      by_cases h8 : x4 < 0
      · exact .inr (.inr (.inr (.inr (.inr (.inr (.inr (.inr (.inl ⟨h0, h1, h2, h3, h4, h5, h6, h7, h8⟩))))))))
      by_cases h9 : 2147483647 < x4
      · exact .inr (.inr (.inr (.inr (.inr (.inr (.inr (.inr (.inr (.inl ⟨h0, h1, h2, h3, h4, h5, h6, h7, h8, h9⟩)))))))))
      by_cases g0 : x2 = 0
      · by_cases g1 : x3 = 0
        · by_cases g2 : x4 = 0
          · exact .inr (.inr (.inr (.inr (.inr (.inr (.inr (.inr (.inr (.inr (.inr (.inr (.inr (⟨h0, h1, h2, h3, h4, h5, h6, h7, h8, h9, g0, g1, g2⟩)))))))))))))
          · exact .inr (.inr (.inr (.inr (.inr (.inr (.inr (.inr (.inr (.inr (.inr (.inr (.inl ⟨h0, h1, h2, h3, h4, h5, h6, h7, h8, h9, g0, g1, g2⟩))))))))))))
        · exact .inr (.inr (.inr (.inr (.inr (.inr (.inr (.inr (.inr (.inr (.inr (.inl ⟨h0, h1, h2, h3, h4, h5, h6, h7, h8, h9, g0, g1⟩)))))))))))
      · exact .inr (.inr (.inr (.inr (.inr (.inr (.inr (.inr (.inr (.inr (.inl ⟨h0, h1, h2, h3, h4, h5, h6, h7, h8, h9, g0⟩))))))))))
    have c0 : w1.cell? ⟨w.heap.size, 0, none⟩ = some (.int .i64 x0) := HBK.out.cell 0 rfl
    have c1 : w1.cell? ⟨w.heap.size, 1, none⟩ = some (.int .i64 x1) := HBK.out.cell 1 rfl
    have c2 : w1.cell? ⟨w.heap.size, 2, none⟩ = some (.int .i64 x2) := HBK.out.cell 2 rfl
    have c3 : w1.cell? ⟨w.heap.size, 3, none⟩ = some (.int .i64 x3) := HBK.out.cell 3 rfl
    have c4 : w1.cell? ⟨w.heap.size, 4, none⟩ = some (.int .i64 x4) := HBK.out.cell 4 rfl
    rcases hall with k0 | ⟨k0, k1⟩ | ⟨k0, k1, k2⟩ | ⟨k0, k1, k2, k3⟩ | ⟨k0, k1, k2, k3, k4⟩ | ⟨k0, k1, k2, k3, k4, k5⟩ | ⟨k0, k1, k2, k3, k4, k5, k6⟩ | ⟨k0, k1, k2, k3, k4, k5, k6, k7⟩ | ⟨k0, k1, k2, k3, k4, k5, k6, k7, k8⟩ | ⟨k0, k1, k2, k3, k4, k5, k6, k7, k8, k9⟩ | ⟨k0, k1, k2, k3, k4, k5, k6, k7, k8, k9, k10⟩ | ⟨k0, k1, k2, k3, k4, k5, k6, k7, k8, k9, k10, k11⟩ | ⟨k0, k1, k2, k3, k4, k5, k6, k7, k8, k9, k10, k11, k12⟩ | ⟨k0, k1, k2, k3, k4, k5, k6, k7, k8, k9, k10, k11, k12⟩
    all_goals
      go_wp2_with fail
      all_goals
        go_meet
        case rel =>
          refine ⟨HBOOL.out _ ?_, rfl⟩
          unfold Bat.may
          simp
          try omega
  case rest =>
    obtain ⟨rfl, rfl⟩ := hcut
    clear HBOOL
    have hpost : ∀ (x : Int), x = (⟨x0, x1, x2, x3, x4, rs⟩ : Bat).check → Ending.returned (.int .i64 x) = Ending.returned (.int .i64 (⟨x0, x1, x2, x3, x4, rs⟩ : Bat).check) := fun x h => by rw [h]
    have HPOST := Lib.hid hpost; clear hpost
    have hlen : rs.length ≤ maxLen := by
      obtain ⟨A', c', V, h, h1, h2, -⟩ := HV.out
      exact Nat.le_trans h1 h2
    unfold maxLen at hlen
    have c5 : wc.cell? ⟨w.heap.size, 5, none⟩ = some (.slice A rs.length c) := HBK.out.cell 5 rfl
    by_cases hm : (⟨x0, x1, x2, x3, x4, rs⟩ : Bat).may
    · rw [decide_eq_false (fun h => h hm)]
      have hm' := hm
      unfold Bat.may at hm'
      obtain ⟨m0, m1, m2, m3, -⟩ := hm'
      dsimp only at m0 m1 m2 m3
      have HM := Lib.hid hm; clear hm
      by_cases h100 : 100 < rs.length
      · have hans : (3 : Int) = (⟨x0, x1, x2, x3, x4, rs⟩ : Bat).check := by unfold Bat.check; rw [if_neg (fun h => h HM.out), if_pos h100]
        have HANS := Lib.hid hans; clear hans
        go_wp2
        go_ret
        exact ⟨HPOST.out 3 HANS.out, HB1.out⟩
      · go_wp2_with fail
        go_loopw [3, 4] (fun l i wr => ∃ (j : Nat) (ah arf : Int), j ≤ rs.length ∧ i = .int .i64 (j : Int) ∧ l = .int .i64 arf ∧ (∀ o : Int, (o < x0 ∨ o ≤ arf) ↔ o ≤ ah) ∧ -1 ≤ ah ∧ ah ≤ 4611686018427387904 ∧ bat.chks x1 (x0 - 1) rs = bat.chks x1 ah (rs.drop j) ∧ Below wc.heap.size wc wr) (fun _ i _ => rs.length - (intOf i).toNat)
        case atStart => exact ⟨0, x0 - 1, -1, by omega, rfl, rfl, fun o => by omega, by omega, by omega, rfl, Below.refl _ _⟩
        case round =>
          obtain ⟨j, ah, arf, hj, rfl, rfl, hiff, ha0, ha1, hch, hbw⟩ := hrel
          have HIFF := Lib.hid hiff; clear hiff
          have HBW := Lib.hid hbw; clear hbw c5
          have hbw2 := HB1.out.trans (HBW.out.mono HB1.out.size)
          have HBW2 := Lib.hid hbw2; clear hbw2
          have hbkr := (chg_of (P := fun _ => False) HBW.out).blk HBK.out id
          have e5 : wr.cell? ⟨w.heap.size, 5, none⟩ = some (.slice A rs.length c) := hbkr.cell 5 rfl
          by_cases hlt : j < rs.length
          · obtain ⟨x, hx⟩ : ∃ x, rs[j]? = some x := ⟨_, List.getElem?_eq_getElem hlt⟩
            obtain ⟨p, off, c', kv, vv, hA, -, -, hp, d0, d1, d2, d3, d4, d5, hk, hvv, -, -⟩ := (HV.out.below HBW2.out (Nat.le_refl _)).at' hx
            obtain ⟨rfl, rfl⟩ : A = some ⟨p, off, none⟩ ∧ c = c' := by simpa using hA
            obtain ⟨Ak, ck, rfl, -, -, -, -⟩ := hk
            obtain ⟨Av, cv, rfl, -, -, -, -⟩ := hvv
            have hdrop : rs.drop j = x :: rs.drop (j + 1) := by
              obtain ⟨h1, h2⟩ := List.getElem?_eq_some_iff.1 hx
              rw [← h2, List.drop_eq_getElem_cons h1]
            have hrk := ref.rchk_of (last := x1) HIFF.out x
            rw [hdrop, bat.chks_cons] at hch
            have hrc := fun wx => ref.record_any x (⟨x0, x1, x2, x3, x4, rs⟩ : Bat) Ak ck Av cv (some ⟨p, off, none⟩) c arf wx
            dsimp only at hrc
            rw [hrk] at hrc
            obtain ⟨E, hE⟩ : ∃ E, E = if x.off ≤ ah ∨ x1 < x.off then 1 else x.chk := ⟨_, rfl⟩
            rw [← hE] at hrc
            unfold Rec.hval Bat.hval at hrc
            have HRC := Lib.hid hrc; clear hrc hrk hdrop hA hx
            have hcase : (E ≠ 0 ∧ bat.chks x1 (x0 - 1) rs = E) ∨ (E = 0 ∧ ¬ (x.off ≤ ah ∨ x1 < x.off) ∧ bat.chks x1 (x0 - 1) rs = bat.chks x1 x.off (rs.drop (j + 1))) := by
              by_cases ho : x.off ≤ ah ∨ x1 < x.off
              · rw [if_pos ho] at hE hch
                exact .inl ⟨by rw [hE]; decide, by rw [hch, hE]⟩
              · rw [if_neg ho] at hE hch
                by_cases hc : x.chk = 0
                · rw [if_neg (fun h => h hc)] at hch
                  exact .inr ⟨by rw [hE, hc], ho, hch⟩
                · rw [if_pos hc] at hch
                  exact .inl ⟨by rw [hE]; exact hc, by rw [hch, hE]⟩
            clear hch hE
            have HKR := Lib.hid hbkr; clear hbkr
            have r0 : ∀ y : Later wr (fun _ => False), y.1.cell? ⟨p, off + j * 6, none⟩ = some (.int .i64 x.off) := fun y => ((y.2.below (Nat.le_refl _) (fun _ q => q.elim)).cell hp).trans d0
            have r1 : ∀ y : Later wr (fun _ => False), y.1.cell? ⟨p, off + j * 6 + 1, none⟩ = some (.int .i64 x.time) := fun y => ((y.2.below (Nat.le_refl _) (fun _ q => q.elim)).cell hp).trans d1
            have r2 : ∀ y : Later wr (fun _ => False), y.1.cell? ⟨p, off + j * 6 + 2, none⟩ = some (.bool x.hasKey) := fun y => ((y.2.below (Nat.le_refl _) (fun _ q => q.elim)).cell hp).trans d2
            have r3 : ∀ y : Later wr (fun _ => False), y.1.cell? ⟨p, off + j * 6 + 3, none⟩ = some (.slice Ak x.key.length ck) := fun y => ((y.2.below (Nat.le_refl _) (fun _ q => q.elim)).cell hp).trans d3
            have r4 : ∀ y : Later wr (fun _ => False), y.1.cell? ⟨p, off + j * 6 + 4, none⟩ = some (.bool x.hasVal) := fun y => ((y.2.below (Nat.le_refl _) (fun _ q => q.elim)).cell hp).trans d4
            have r5 : ∀ y : Later wr (fun _ => False), y.1.cell? ⟨p, off + j * 6 + 5, none⟩ = some (.slice Av x.val.length cv) := fun y => ((y.2.below (Nat.le_refl _) (fun _ q => q.elim)).cell hp).trans d5
            have s5 : ∀ y : Later wr (fun _ => False), y.1.cell? ⟨w.heap.size, 5, none⟩ = some (.slice (some ⟨p, off, none⟩) rs.length c) := fun y => (y.2.blk HKR.out id).cell 5 rfl
            clear d1 d2 d3 d4 d5
            go_upto_region 9 with fail
            have hS0 : later wr (fun _ => False) wr.drew := later_of ((Chg.refl _ _).drew)
            refine wp_plan (S := fun w0 => ∃ x : Later wr (fun _ => False), w0 = x.1) (by kernel_rfl) hS0 ?_
            intro hS K5 hK5
            have HS := Lib.hid hS; clear hS hS0
            refine plan_group [true, true, true, true, true, false, true] [0, 1, 2, 3, 4, 6] 3 (by dsimp only [sel]) (by rfl) rfl (by kernel_rfl) (by kernel_rfl) HS.out ?_
            (repeat go_big_quiet_step (fail)); refine wpQuiet_nil ?_
            have g0 : wr.drew.cell? ⟨w.heap.size, 0, none⟩ = some (.int .i64 x0) := HKR.out.cell 0 rfl
            have g1 : wr.drew.cell? ⟨w.heap.size, 1, none⟩ = some (.int .i64 x1) := HKR.out.cell 1 rfl
            have g2 : wr.drew.cell? ⟨w.heap.size, 2, none⟩ = some (.int .i64 x2) := HKR.out.cell 2 rfl
            have g3 : wr.drew.cell? ⟨w.heap.size, 3, none⟩ = some (.int .i64 x3) := HKR.out.cell 3 rfl
            have g4 : wr.drew.cell? ⟨w.heap.size, 4, none⟩ = some (.int .i64 x4) := HKR.out.cell 4 rfl
            have g5 : wr.drew.cell? ⟨w.heap.size, 5, none⟩ = some (.slice (some ⟨p, off, none⟩) rs.length c) := HKR.out.cell 5 rfl
            refine plan_one [false, false, false, false, false, true] 5 2 (by dsimp only [sel]) (by rfl) rfl (by kernel_rfl) ?_; intro K1 hK1; go_wp2_with fail
            refine ⟨HS.out, ?_⟩
            clear g0 g1 g2 g3 g4 g5
            refine plan_one [false, false, false, false, false, false, false, true] 7 1 (by dsimp only [sel]) (by rfl) rfl (by kernel_rfl) ?_; intro K1 hK1; go_wp2_with fail
            refine (HRC.out _).mono ?_
            rintro e z1 ⟨rfl, hz⟩
            have HZ := Lib.hid (show Below wr.heap.size wr z1 from (bdrew (Below.refl _ wr) 1).trans hz); clear hz
            go_wp2_with fail
            refine ⟨later_of (chg_of HZ.out), ?_⟩
            refine plan_group [false, false, false, false, false, false, false, false, true] [8] 0 (by dsimp only [sel]) (by rfl) rfl (by kernel_rfl) (by kernel_rfl) (later_of (chg_of HZ.out)) ?_
            (repeat go_big_quiet_step (fail)); refine wpQuiet_nil ?_
            refine wp_plan_end (by kernel_rfl) ?_
            clear HS r0 r1 r2 r3 r4 r5 s5 e5
            have z5 : z1.cell? ⟨w.heap.size, 5, none⟩ = some (.slice (some ⟨p, off, none⟩) rs.length c) := ((chg_of (P := fun _ => False) HZ.out).blk HKR.out id).cell 5 rfl
            have z0 : z1.cell? ⟨p, off + j * 6, none⟩ = some (.int .i64 x.off) := (HZ.out.cell hp).trans d0
            have hzp : p < z1.heap.size := by have := HZ.out.size; omega
            clear d0
            have HBZ := Lib.hid (HBW.out.trans (HZ.out.mono HBW.out.size))
            have hr0 := HBZ.out.size
            refine hK5 _ _ ?_
            rcases hcase with ⟨hE, hch⟩ | ⟨hE, ho, hch⟩
            · have hd : (E != 0) = true := by simpa using hE
              have hans : E = (⟨x0, x1, x2, x3, x4, rs⟩ : Bat).check := by
                unfold Bat.check
                rw [if_neg (fun h => h HM.out), if_neg h100, if_pos (by rw [show bat.chks (⟨x0, x1, x2, x3, x4, rs⟩ : Bat).last ((⟨x0, x1, x2, x3, x4, rs⟩ : Bat).base - 1) (⟨x0, x1, x2, x3, x4, rs⟩ : Bat).recs = E from hch]; exact hE)]
                exact hch.symm
              have HANS := Lib.hid hans; clear hans hch hE
              go_wp2
              go_ret
              exact ⟨HPOST.out E HANS.out, HB1.out.trans (HBZ.out.mono HB1.out.size)⟩
            · subst hE
              have HCH := Lib.hid hch; clear hch
              go_wp2_with fail
              go_roundw
              case rel => exact ⟨j + 1, x.off, x.off, by omega, by go_num, rfl, fun o => by have := (HIFF.out (x0 - 1)).1 (by omega); omega, by omega, by omega, HCH.out, HBZ.out⟩
              case measure => simp [intOf]; omega
          · obtain rfl : j = rs.length := by omega
            rw [List.drop_length, bat.chks_nil] at hch
            have hok : ∀ r ∈ rs, r.ok := bat.chks_ok m3 rs (x0 - 1) (by omega) hch
            have hfl : (⟨x0, x1, x2, x3, x4, rs⟩ : Bat).flags := bat.chks_flags rs (x0 - 1) hch
            have hans : (⟨x0, x1, x2, x3, x4, rs⟩ : Bat).check = if 65536 < (⟨x0, x1, x2, x3, x4, rs⟩ : Bat).bytes.length then 3 else 0 := by
              have hsz := Bat.bytes_len (⟨x0, x1, x2, x3, x4, rs⟩ : Bat) hfl
              unfold Bat.check
              rw [if_neg (fun h => h HM.out), if_neg h100, if_neg (by rw [show bat.chks (⟨x0, x1, x2, x3, x4, rs⟩ : Bat).last ((⟨x0, x1, x2, x3, x4, rs⟩ : Bat).base - 1) (⟨x0, x1, x2, x3, x4, rs⟩ : Bat).recs = 0 from hch]; exact fun h => h rfl)]
              by_cases h6 : 65536 < (⟨x0, x1, x2, x3, x4, rs⟩ : Bat).bytes.length
              · rw [if_pos (by omega), if_pos h6]
              · rw [if_neg (by omega), if_neg h6]
            have henc := ref.encode_any (⟨x0, x1, x2, x3, x4, rs⟩ : Bat) A c wr (HV.out.below HBW2.out (Nat.le_refl _)) HM.out (by dsimp only; omega) hok hfl
            have hbb : (⟨x0, x1, x2, x3, x4, rs⟩ : Bat).bytes.length ≤ 300000 := by
              have h1 := Bat.sum_le (Bat.first rs) x0 rs hok
              have h2 := Bat.bytes_len (⟨x0, x1, x2, x3, x4, rs⟩ : Bat) hfl
              unfold Bat.size at h2
              dsimp only at h2
              omega
            unfold Bat.hval at henc
            dsimp only at henc
            have HENC := Lib.hid henc; clear henc
            have HANS := Lib.hid hans; clear hans hch hfl hok
            have q0 : wr.cell? ⟨w.heap.size, 0, none⟩ = some (.int .i64 x0) := hbkr.cell 0 rfl
            have q1 : wr.cell? ⟨w.heap.size, 1, none⟩ = some (.int .i64 x1) := hbkr.cell 1 rfl
            have q2 : wr.cell? ⟨w.heap.size, 2, none⟩ = some (.int .i64 x2) := hbkr.cell 2 rfl
            have q3 : wr.cell? ⟨w.heap.size, 3, none⟩ = some (.int .i64 x3) := hbkr.cell 3 rfl
            have q4 : wr.cell? ⟨w.heap.size, 4, none⟩ = some (.int .i64 x4) := hbkr.cell 4 rfl
            generalize hL : (⟨x0, x1, x2, x3, x4, rs⟩ : Bat).bytes = L at *
            clear hL hbkr
            go_wp2_with fail
            refine HENC.out.mono ?_
            rintro e w4 ⟨v4, rfl, ha4⟩
            obtain ⟨A4, c4, rfl, -, -⟩ := ha4.at'
            have HB4 := Lib.hid (HBW2.out.trans (ha4.2.mono HBW2.out.size)); clear ha4
            by_cases hbig : 65536 < L.length
            · go_wp2
              go_ret
              exact ⟨HPOST.out 3 (by rw [HANS.out, if_pos hbig]), HB4.out⟩
            · go_wp2
              go_ret
              exact ⟨HPOST.out 0 (by rw [HANS.out, if_neg hbig]), HB4.out⟩
    · rw [decide_eq_true hm]
      have hans : (1 : Int) = (⟨x0, x1, x2, x3, x4, rs⟩ : Bat).check := by unfold Bat.check; rw [if_pos hm]
      have HANS := Lib.hid hans; clear hans hm
      go_wp2
      go_ret
      exact ⟨HPOST.out 1 HANS.out, HB1.out⟩
end Go.Proofs.Ytnlfdhoabbbheaa

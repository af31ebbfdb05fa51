/- Contracts of crc.Sum, of a Roller's Add and Sum, and of the law package's awake (cordwainlaw2). -/
import Derived.Test.YtndingohckcmdaaCrcA
import Derived.Lib.SlBytesConst
namespace Go.Proofs.Ytndingohckcmdaa
open Go.RowKit

/-- A value is a slice of these bytes. -/
def Bytes (w : World) (v : Value) (L : List Nat) : Prop :=
  ∃ A c, v = .slice A L.length c ∧ L.length ≤ 1099511627776 ∧ At w A L.length (byteAt L) ∧ ∀ x ∈ L, x < 256
theorem Bytes.below {w w' : World} {v : Value} {L : List Nat} (h : Bytes w v L) (hb : Below w.heap.size w w') : Bytes w' v L := by
  obtain ⟨A, c, rfl, h1, h2, h3⟩ := h
  exact ⟨A, c, rfl, h1, h2.below hb (Nat.le_refl _), h3⟩
theorem getD_lt {L : List Nat} (h : ∀ x ∈ L, x < 256) (j : Nat) (hj : j < L.length) : L.getD j 0 < 256 := by
  simp only [List.getD, List.getElem?_eq_getElem hj, Option.getD_some]; exact h _ (List.getElem_mem _)

theorem crc.more_lt (s : Nat) (L : List Nat) : crc.more s L < 4294967296 := crc.turn_lt _
def crc.sums (Ls : List (List Nat)) : Nat := Ls.foldl crc.more 0
theorem crc.sums_take (Ls : List (List Nat)) (k : Nat) (h : k < Ls.length) : crc.sums (Ls.take (k + 1)) = crc.more (crc.sums (Ls.take k)) (Ls.getD k []) := by
  unfold crc.sums
  rw [List.take_succ_eq_append_getElem h, List.foldl_append]
  simp [List.getD, List.getElem?_eq_getElem h]

set_option maxRecDepth 20000 in
set_option maxHeartbeats 1000000 in
theorem crc.sum_any (A : Option Addr) (n c : Nat) (V : Nat → Value) (Ls : List (List Nat)) (w : World) (hn : n ≤ 9223372036854775807) (hl : Ls.length = n) (hat : At w A n V) (hV : ∀ j, j < n → Bytes w (V j) (Ls.getD j [])) :
    Calls Try.prog 40 #[.slice A n c] w fun e w' => e = .returned (.int .u32 (crc.sums Ls : Nat)) ∧ w = w' := by
  have HAT := Lib.hid hat; clear hat
  have HV := Lib.hid hV; clear hV
  have HL := Lib.hid hl; clear hl
  go_enter Try.func40, Try.ntmps40
  go_wp2
  go_loop [3, 8] (fun x i => ∃ (k s : Nat), k ≤ n ∧ i = .int .i64 (k : Int) ∧ x = .int .u32 (s : Int) ∧ s < 4294967296 ∧ s = crc.sums (Ls.take k)) (fun _ i => n - (intOf i).toNat)
  case atStart => exact ⟨0, 0, by omega, rfl, rfl, by omega, rfl⟩
  case round =>
    obtain ⟨k, s, hk, rfl, rfl, hs, hsum⟩ := hrel
    have HSUM := Lib.hid hsum; clear hsum
    by_cases hlt : k < n
    · obtain ⟨b, off, rfl, hbb, hc⟩ := HAT.out (by omega)
      obtain ⟨Ai, ci, hvi, hli, hati, hbi⟩ := HV.out k hlt
      have hc1 : w.cell? ⟨b, off + k, none⟩ = some (.slice Ai (Ls.getD k []).length ci) := by rw [hc k hlt, hvi]
      clear hc hvi
      obtain ⟨L, hL⟩ : ∃ L, L = Ls.getD k [] := ⟨_, rfl⟩
      rw [← hL] at hc1 hli hati hbi
      have HLL := Lib.hid hL; clear hL
      have HATI := Lib.hid hati; clear hati
      have HBI := Lib.hid hbi; clear hbi
      go_wp2_with fail
      refine (crc.more_any s Ai L.length ci L w hs (by omega) rfl HATI.out (fun j hj => getD_lt HBI.out j hj)).mono ?_
      rintro e w' ⟨rfl, rfl⟩
      go_wp2
      go_round
      case rel => exact ⟨k + 1, crc.more s L, by omega, by go_num, rfl, crc.more_lt _ _, by rw [crc.sums_take Ls k (by rw [HL.out]; exact hlt), ← HSUM.out, ← HLL.out]⟩
      case measure => simp [intOf]; omega
    · obtain rfl : k = n := by omega
      have hfin : s = crc.sums Ls := by rw [HSUM.out, List.take_of_length_le (by rw [HL.out]; omega)]
      have HFIN := Lib.hid hfin; clear hfin
      go_wp2
      go_ret
      exact ⟨by rw [← HFIN.out]; rfl, rfl⟩

theorem crc.known : crc.sums [[49, 50, 51, 52, 53, 54, 55, 56, 57]] = 3808858755 := by decide +kernel
theorem Bytes.lit (w : World) (C : Array Value) (L : List Nat) (t : TypeId) (fr : Nat × Nat) (hC : C = (u8s L).toArray) (h : ∀ x ∈ L, x < 256) (hl : L.length ≤ 1099511627776) : Bytes (w.alloc (.cells C t fr)) (.slice (some ⟨w.heap.size, 0, none⟩) L.length L.length) L := by
  subst hC
  exact ⟨_, _, rfl, hl, (At.new w (u8s L).toArray t (n := L.length) (by simp [u8s])).congr fun j hj => by
    have := u8s_getD L j hj
    simpa [byteAt] using this, h⟩
/-- A list of one value. -/
theorem one_val {w : World} {v : Value} {L : List Nat} (h : Bytes w v L) : ∀ j, j < 1 → Bytes w v ([L].getD j []) := fun j hj => by
  obtain rfl : j = 0 := by omega
  exact h

end Go.Proofs.Ytndingohckcmdaa

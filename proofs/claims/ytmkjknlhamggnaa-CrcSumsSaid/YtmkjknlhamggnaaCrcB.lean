/- Contracts of crc.Sum, of a Roller's Add and Sum, and of the law package's awake (cordwainlaw2). -/
import Derived.Test.YtmkjknlhamggnaaCrcA
import Derived.Lib.SlBytesConst
namespace Go.Proofs.Ytmkjknlhamggnaa
open Go.RowKit

/-- A value is a slice of these bytes. -/
def Bytes (w : World) (v : Value) (L : List Nat) : Prop :=
  ∃ A c, v = .slice A L.length c ∧ L.length ≤ 1099511627776 ∧ At w A L.length (byteAt L) ∧ ∀ x ∈ L, x < 256
theorem Bytes.below {w w' : World} {v : Value} {L : List Nat} (h : Bytes w v L) (hb : Below w.heap.size w w') : Bytes w' v L := by
  obtain ⟨A, c, rfl, h1, h2, h3⟩ := h
  exact ⟨A, c, rfl, h1, h2.below hb (Nat.le_refl _), h3⟩
theorem getD_lt {L : List Nat} (h : ∀ x ∈ L, x < 256) (j : Nat) (hj : j < L.length) : L.getD j 0 < 256 := by
  simp only [List.getD, List.getElem?_eq_getElem hj, Option.getD_some]; exact h _ (List.getElem_mem _)

theorem crc.more_lt (s : Nat) (L : List Nat) : crc.more s L < 4294967296 := crc.turn_lt _
def crc.sums (Ls : List (List Nat)) : Nat := Ls.foldl crc.more 0
theorem crc.sums_take (Ls : List (List Nat)) (k : Nat) (h : k < Ls.length) : crc.sums (Ls.take (k + 1)) = crc.more (crc.sums (Ls.take k)) (Ls.getD k []) := by
  unfold crc.sums
  rw [List.take_succ_eq_append_getElem h, List.foldl_append]
  simp [List.getD, List.getElem?_eq_getElem h]

set_option maxRecDepth 20000 in
set_option maxHeartbeats 1000000 in
theorem crc.sum_any (A : Option Addr) (n c : Nat) (V : Nat → Value) (Ls : List (List Nat)) (w : World) (hn : n ≤ 9223372036854775807) (hl : Ls.length = n) (hat : At w A n V) (hV : ∀ j, j < n → Bytes w (V j) (Ls.getD j [])) :
    Calls Try.prog 15 #[.slice A n c] w fun e w' => e = .returned (.int .u32 (crc.sums Ls : Nat)) ∧ w = w' := by
  have HAT := Lib.hid hat; clear hat
  have HV := Lib.hid hV; clear hV
  have HL := Lib.hid hl; clear hl
  go_enter Try.func15, Try.ntmps15
  go_wp2
  go_loop [3, 8] (fun x i => ∃ (k s : Nat), k ≤ n ∧ i = .int .i64 (k : Int) ∧ x = .int .u32 (s : Int) ∧ s < 4294967296 ∧ s = crc.sums (Ls.take k)) (fun _ i => n - (intOf i).toNat)
  case atStart => exact ⟨0, 0, by omega, rfl, rfl, by omega, rfl⟩
  case round =>
    obtain ⟨k, s, hk, rfl, rfl, hs, hsum⟩ := hrel
    have HSUM := Lib.hid hsum; clear hsum
    by_cases hlt : k < n
    · obtain ⟨b, off, rfl, hbb, hc⟩ := HAT.out (by omega)
      obtain ⟨Ai, ci, hvi, hli, hati, hbi⟩ := HV.out k hlt
      have hc1 : w.cell? ⟨b, off + k, none⟩ = some (.slice Ai (Ls.getD k []).length ci) := by rw [hc k hlt, hvi]
      clear hc hvi
      obtain ⟨L, hL⟩ : ∃ L, L = Ls.getD k [] := ⟨_, rfl⟩
      rw [← hL] at hc1 hli hati hbi
      have HLL := Lib.hid hL; clear hL
      have HATI := Lib.hid hati; clear hati
      have HBI := Lib.hid hbi; clear hbi
      go_wp2_with fail
      refine (crc.more_any s Ai L.length ci L w hs (by omega) rfl HATI.out (fun j hj => getD_lt HBI.out j hj)).mono ?_
      rintro e w' ⟨rfl, rfl⟩
      go_wp2
      go_round
      case rel => exact ⟨k + 1, crc.more s L, by omega, by go_num, rfl, crc.more_lt _ _, by rw [crc.sums_take Ls k (by rw [HL.out]; exact hlt), ← HSUM.out, ← HLL.out]⟩
      case measure => simp [intOf]; omega
    · obtain rfl : k = n := by omega
      have hfin : s = crc.sums Ls := by rw [HSUM.out, List.take_of_length_le (by rw [HL.out]; omega)]
      have HFIN := Lib.hid hfin; clear hfin
      go_wp2
      go_ret
      exact ⟨by rw [← HFIN.out]; rfl, rfl⟩

set_option maxRecDepth 20000 in
set_option maxHeartbeats 400000 in
theorem crc.add_any (g s : Nat) (v : Value) (L : List Nat) (w : World) (hs : s < 4294967296) (hc : w.cell? ⟨g, 0, none⟩ = some (.int .u32 (s : Int))) (hf : w.frozen? ⟨g, 0, none⟩ = false) (hv : Bytes w v L) :
    Calls Try.prog 17 #[.pointer (some ⟨g, 0, none⟩), v] w fun e w' => e = .returned (.tuple #[]) ∧ w.setCell ⟨g, 0, none⟩ (.int .u32 (crc.more s L : Nat)) = w' := by
  obtain ⟨A, c, rfl, hl, hat, hb⟩ := hv
  have HAT := Lib.hid hat; clear hat
  have HB := Lib.hid hb; clear hb
  go_enter Try.func17, Try.ntmps17
  go_wp2_with fail
  refine (crc.more_any s A L.length c L w hs (by omega) rfl HAT.out (fun j hj => getD_lt HB.out j hj)).mono ?_
  rintro e w' ⟨rfl, rfl⟩
  go_wp2
  go_end0
  exact ⟨rfl, rfl⟩

set_option maxRecDepth 20000 in
set_option maxHeartbeats 400000 in
theorem crc.told_any (g : Nat) (s : Int) (w : World) (hc : w.cell? ⟨g, 0, none⟩ = some (.int .u32 s)) :
    Calls Try.prog 19 #[.pointer (some ⟨g, 0, none⟩)] w fun e w' => e = .returned (.int .u32 s) ∧ w = w' := by
  go_enter Try.func19, Try.ntmps19
  go_wp2
  go_ret
  exact ⟨rfl, rfl⟩
theorem crc.told_nil (w : World) :
    Calls Try.prog 19 #[.pointer none] w fun e w' => e = .returned (.int .u32 0) ∧ w = w' := by
  go_enter Try.func19, Try.ntmps19
  go_wp2
  go_ret
  exact ⟨rfl, rfl⟩

theorem crc.known : crc.sums [[49, 50, 51, 52, 53, 54, 55, 56, 57]] = 3808858755 := by decide +kernel
theorem Bytes.lit (w : World) (C : Array Value) (L : List Nat) (t : TypeId) (fr : Nat × Nat) (hC : C = (u8s L).toArray) (h : ∀ x ∈ L, x < 256) (hl : L.length ≤ 1099511627776) : Bytes (w.alloc (.cells C t fr)) (.slice (some ⟨w.heap.size, 0, none⟩) L.length L.length) L := by
  subst hC
  exact ⟨_, _, rfl, hl, (At.new w (u8s L).toArray t (n := L.length) (by simp [u8s])).congr fun j hj => by
    have := u8s_getD L j hj
    simpa [byteAt] using this, h⟩
/-- A list of one value. -/
theorem one_val {w : World} {v : Value} {L : List Nat} (h : Bytes w v L) : ∀ j, j < 1 → Bytes w v ([L].getD j []) := fun j hj => by
  obtain rfl : j = 0 := by omega
  exact h

set_option maxRecDepth 20000 in
set_option maxHeartbeats 800000 in
theorem crc.awake_any (w : World) : Calls Try.prog 14 #[] w fun e w' => e = .returned (.bool true) ∧ Below w.heap.size w w' := by
  have hb := Bytes.lit w #[.int .u8 49, .int .u8 50, .int .u8 51, .int .u8 52, .int .u8 53, .int .u8 54, .int .u8 55, .int .u8 56, .int .u8 57] [49, 50, 51, 52, 53, 54, 55, 56, 57] 5 (9, 10) rfl (by decide) (by decide)
  obtain ⟨W, hW⟩ : ∃ W, W = w.alloc (.cells #[.int .u8 49, .int .u8 50, .int .u8 51, .int .u8 52, .int .u8 53, .int .u8 54, .int .u8 55, .int .u8 56, .int .u8 57] 5 (9, 10)) := ⟨_, rfl⟩
  rw [← hW] at hb
  have hz : W.heap.size = w.heap.size + 1 := by rw [hW]; simp
  have h1 := At.one W (.slice (some ⟨w.heap.size, 0, none⟩) 9 9) 23
  rw [hz] at h1
  have hb1 := hb.below ((Below.refl W.heap.size W).alloc (Nat.le_refl _) (.cells #[.slice (some ⟨w.heap.size, 0, none⟩) 9 9] 23))
  have HB := Lib.hid hb1; clear hb1 hb
  have H1 := Lib.hid h1; clear h1
  have HW := Lib.hid hW; clear hW
  have HZ := Lib.hid hz; clear hz
  have kc := fun (w : World) (C : Array Value) (n c : Nat) => Lib.run_convert_bytes_const (P := Try.prog) w 23 5 C n c Try.underlying23 Try.underlying5
  go_enter Try.func14, Try.ntmps14
  go_wp2_with fail
  rw [← HW.out]
  refine (crc.sum_any _ 1 1 _ [[49, 50, 51, 52, 53, 54, 55, 56, 57]] _ (by omega) rfl H1.out (one_val HB.out)).mono ?_
  rintro e w1 ⟨rfl, rfl⟩
  rw [crc.known]
  go_wp2_with fail
  refine (crc.sum_any none 0 0 (fun _ => undef) [] _ (by omega) rfl (fun h => absurd h (by omega)) (fun j hj => absurd hj (by omega))).mono ?_
  rintro e w1 ⟨rfl, rfl⟩
  go_wp2_with fail
  refine (crc.told_nil _).mono ?_
  rintro e w1 ⟨rfl, rfl⟩
  go_wp2
  go_ret
  refine ⟨rfl, ?_⟩
  rw [HW.out]
  go_grown
end Go.Proofs.Ytmkjknlhamggnaa

/- Contracts of retain.sums, retain.Sum. -/
import Derived.Test.YtmkjknlhamggnaaRetA
import Derived.Test.YtmkjknlhamggnaaKit
namespace Go.Proofs.Ytmkjknlhamggnaa
open Go.RowKit

theorem infoInt : (Try.prog.info? 3).map (fun i => (i.zero, i.size, i.bytes)) = some (some (.int .i64 0), 1, 8) := by kernel_rfl

/-- The sum of the last d of n, held. -/
def ret.suf (B : Nat → Int) (n : Nat) : Nat → Int
  | 0 => 0
  | d + 1 => ret.held (ret.suf B n d + ret.held (B (n - (d + 1))))

theorem ret.held_bd (x : Int) : 0 ≤ ret.held x ∧ ret.held x ≤ 1125899906842624 := by unfold ret.held; omega
theorem ret.suf_bd (B : Nat → Int) (n d : Nat) : 0 ≤ ret.suf B n d ∧ ret.suf B n d ≤ 1125899906842624 := by
  cases d with
  | zero => simp [ret.suf]
  | succ d => exact ret.held_bd _

def ret.rowAt (B : Nat → Int) (n d : Nat) : Nat → Value := fun j => .int .i64 (if n ≤ d + j then ret.suf B n (n - j) else 0)
theorem ret.rowAt_step (B : Nat → Int) (n d : Nat) (h : d < n) : ∀ j, j < n → (if j = n - (d + 1) then Value.int .i64 (ret.suf B n (d + 1)) else ret.rowAt B n d j) = ret.rowAt B n (d + 1) j := by
  intro j hj
  unfold ret.rowAt
  by_cases e : j = n - (d + 1)
  · subst e
    rw [if_pos rfl, if_pos (by omega), show n - (n - (d + 1)) = d + 1 by omega]
  · rw [if_neg e]
    by_cases h2 : n ≤ d + j
    · rw [if_pos h2, if_pos (by omega)]
    · rw [if_neg h2, if_neg (by omega)]

set_option maxHeartbeats 400000 in
theorem ret.sums_any (A : Option Addr) (n c : Nat) (V : Nat → Value) (B : Nat → Int) (w : World) (hn : n ≤ 17592186044416) (hat : At w A (n * 5) V) (hV : ∀ i, i < n → V (i * 5 + 2) = .int .i64 (B i)) :
    Calls Try.prog 41 #[.slice A n c] w fun e w' => e = .returned (.slice (some ⟨w.heap.size, 0, none⟩) n n) ∧ w'.rowIs w.heap.size 3 n (ret.rowAt B n n) ∧ Below w.heap.size w w' := by
  have hmk := run_make_row' (P := Try.prog) 22 3 (.int .i64 0) 8 Try.underlying22 infoInt rfl .i64 .i64 n (by omega) (by omega)
  have HAT := Lib.hid hat; clear hat
  have HV := Lib.hid hV; clear hV
  go_enter Try.func41, Try.ntmps41
  go_wp2
  go_loopw [4, 5] (fun s i wr => ∃ d : Nat, d ≤ n ∧ i = .int .i64 ((n : Int) - 1 - d) ∧ s = .int .i64 (ret.suf B n d) ∧ wr.rowIs w.heap.size 3 n (ret.rowAt B n d) ∧ Below w.heap.size w wr) (fun _ i _ => (intOf i + 1).toNat)
  case atStart =>
    refine ⟨0, by omega, by simp, rfl, ?_, (Below.refl _ _).alloc (Nat.le_refl _) _⟩
    exact (World.rowIs_made w _ n _).congr fun i hi => by unfold ret.rowAt; rw [if_neg (by omega)]
  case round =>
    obtain ⟨d, hd, rfl, rfl, hrow, hb⟩ := hrel
    have hsb := ret.suf_bd B n d
    by_cases hlt : d < n
    · obtain ⟨b, off, rfl, hbb, hc⟩ := HAT.out (by omega)
      have hc2 : wr.cell? ⟨b, off + (n - 1 - d) * 5 + 2, none⟩ = some (.int .i64 (B (n - 1 - d))) := by
        rw [hb.cell (by exact hbb), Nat.add_assoc, hc _ (by omega), HV.out _ (by omega)]
      clear hc
      have hi : (n : Int) - 1 - d = ((n - 1 - d : Nat) : Int) := by omega
      rw [hi]
      have hcell : wr.cell? ⟨w.heap.size, n - 1 - d, none⟩ = some (ret.rowAt B n d (n - 1 - d)) := hrow.cell (by omega)
      have hfr := hrow.frozen (n - 1 - d)
      have hlt' : n - 1 - d < n := by omega
      have hh := ret.held_bd (B (n - 1 - d))
      have hnx : ret.held (ret.suf B n d + ret.held (B (n - 1 - d))) = ret.suf B n (d + 1) := by rw [ret.suf, show n - 1 - d = n - (d + 1) by omega]
      have Hnx := Lib.hid hnx; clear hnx
      clear hi
      go_wp2_with (go_at_call 43; refine (ret.held_any _ _).mono ?_; rintro e w' ⟨rfl, rfl⟩)
      go_roundw
      case rel =>
        refine ⟨d + 1, by omega, num_eq (by omega), by rw [Hnx.out], ?_, hb.setCell (Nat.le_refl _) _⟩
        rw [Hnx.out]
        refine (hrow.set (n - 1 - d) _).congr fun j hj => ?_
        rw [← ret.rowAt_step B n d hlt j hj, show n - 1 - d = n - (d + 1) by omega]
      case measure => simp [intOf] <;> omega
    · obtain rfl : d = n := by omega
      have Hrow := Lib.hid hrow; clear hrow
      have Hb := Lib.hid hb; clear hb
      go_wp2
      go_ret
      exact ⟨rfl, Hrow.out, Hb.out⟩

/-- Bytes of them all. -/
def ret.total (B : Nat → Int) (n : Nat) : Int := ret.suf B n n

set_option maxHeartbeats 400000 in
theorem ret.sum_any (A : Option Addr) (n c : Nat) (V : Nat → Value) (B : Nat → Int) (w : World) (hn : n ≤ 17592186044416) (hat : At w A (n * 5) V) (hV : ∀ i, i < n → V (i * 5 + 2) = .int .i64 (B i)) :
    Calls Try.prog 30 #[.slice A n c] w fun e w' => e = .returned (.int .i64 (ret.total B n)) ∧ Below w.heap.size w w' := by
  have HAT := Lib.hid hat; clear hat
  have HV := Lib.hid hV; clear hV
  by_cases h0 : n = 0
  · subst h0
    go_enter Try.func30, Try.ntmps30
    go_wp2
    go_ret
    exact ⟨rfl, Below.refl _ _⟩
  · have h0' : ((n : Int) == 0) = false := by simp; omega
    go_enter Try.func30, Try.ntmps30
    go_wp2_with fail
    refine (ret.sums_any A n c V B w hn HAT.out HV.out).mono ?_
    rintro e w1 ⟨rfl, hrow, hb⟩
    have hc : w1.cell? ⟨w.heap.size, 0, none⟩ = some (.int .i64 (ret.suf B n n)) := by
      rw [hrow.cell (i := 0) (by omega)]; unfold ret.rowAt; rw [if_pos (by omega), Nat.sub_zero]
    clear hrow
    have hpos : 0 < n := by omega
    go_wp2
    go_ret
    exact ⟨rfl, hb⟩
end Go.Proofs.Ytmkjknlhamggnaa

/- Contracts of wire.Writer: spoil, fits. -/
import Derived.Test.YtndingohckcmdaaWrA
namespace Go.Proofs.Ytndingohckcmdaa
open Go.RowKit

theorem wire.spoil_any (B p : Nat) (v : Value) (L : List Nat) (bad : Bool) (w : World) (h : Wr w B p v L bad) :
    Calls Try.prog 60 #[.pointer (some ⟨p, 0, none⟩)] w (WrPost w B p v L true) := by
  have hc1 := h.blk.cell 1 (v := .bool bad) rfl
  have hf1 := h.blk.frozen 1
  have H := Lib.hid h; clear h
  go_enter Try.func60, Try.ntmps60
  go_wp2
  go_ret
  refine ⟨rfl, v, ⟨H.out.blk.set 1 (.bool true), (Chg.setCell w p 1 _).own H.out.row fun k hk e => ?_, H.out.le⟩, (Chg.setCell w p 1 _).mono fun k _ hk => .inl hk, LiesU.refl _ _⟩
  subst e
  exact H.out.blk.not_row writerByte H.out.row hk

/-- May a number be written so? -/
def wire.fit (n size : Int) : Bool := decide (0 ≤ n) && decide (1 ≤ size) && decide (size ≤ 8) && (decide (size = 8) || decide (n < 2 ^ (8 * size.toNat)))
theorem fit_nat {n size : Int} (h : wire.fit n size = true) : 0 ≤ n ∧ 1 ≤ size ∧ size ≤ 8 := by
  unfold wire.fit at h
  simp only [Bool.and_eq_true, decide_eq_true_eq] at h
  omega
theorem wire.fit_no {n size : Int} (h : n < 0 ∨ size < 1 ∨ 8 < size) : wire.fit n size = false := by
  unfold wire.fit
  rw [Bool.eq_false_iff]
  intro hh
  simp only [Bool.and_eq_true, decide_eq_true_eq] at hh
  omega
set_option maxRecDepth 20000 in
set_option maxHeartbeats 800000 in
theorem wire.fits_any (n size : Int) (w : World) (h1 : -9223372036854775808 ≤ n) (h2 : n ≤ 9223372036854775807) :
    Calls Try.prog 59 #[.int .i64 n, .int .i64 size] w fun e w' => e = .returned (.bool (wire.fit n size)) ∧ w = w' := by
  go_enter Try.func59, Try.ntmps59
  go_wp2
  all_goals go_ret
  all_goals refine ⟨ret_bool ?_, rfl⟩
  · rw [wire.fit_no (by omega)]
  · have e : size = 8 := by simpa using ‹(size == 8) = true›
    subst e
    simp [wire.fit]; omega
  · have hne : size ≠ 8 := by simpa using ‹(size == 8) = false›
    have h7 : size = 1 ∨ size = 2 ∨ size = 3 ∨ size = 4 ∨ size = 5 ∨ size = 6 ∨ size = 7 := by omega
    rcases h7 with rfl | rfl | rfl | rfl | rfl | rfl | rfl
    all_goals simp [wire.fit, wrap64]; omega
  · rw [wire.fit_no (by omega)]
  · rw [wire.fit_no (by omega)]
end Go.Proofs.Ytndingohckcmdaa

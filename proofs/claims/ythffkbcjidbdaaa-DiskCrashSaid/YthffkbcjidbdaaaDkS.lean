/- A disk's Used, Ops, Cut. -/
import Derived.Test.YthffkbcjidbdaaaDkR
namespace Go.Proofs.Ythffkbcjidbdaaa
open Go.RowKit Go.Maps
set_option maxRecDepth 100000

theorem disk.Used_any (p : Nat) (D : Dsk) (F : Nat → Prop) (m : Nat) (w : World) (h : DskIn w p D F m) : Calls Try.prog 27 #[.pointer (some ⟨p, 0, none⟩)] w fun e w' => e = .returned (.int .i64 D.used) ∧ w = w' := by
  obtain ⟨S, bn, bs, sv, dat, h⟩ := h
  have k1 := h.blk.cell 1 (v := .int .i64 D.used) rfl
  have hpl := h.blk.lt
  clear h
  go_enter Try.func27, Try.ntmps27
  go_wp2_with fail
  go_ret
  exact ⟨rfl, rfl⟩
theorem disk.Ops_any (p : Nat) (D : Dsk) (F : Nat → Prop) (m : Nat) (w : World) (h : DskIn w p D F m) : Calls Try.prog 28 #[.pointer (some ⟨p, 0, none⟩)] w fun e w' => e = .returned (.int .i64 D.ops) ∧ w = w' := by
  obtain ⟨S, bn, bs, sv, dat, h⟩ := h
  have k1 := h.blk.cell 2 (v := .int .i64 D.ops) rfl
  have hpl := h.blk.lt
  clear h
  go_enter Try.func28, Try.ntmps28
  go_wp2_with fail
  go_ret
  exact ⟨rfl, rfl⟩
/-- A row's beginning is a row. -/
theorem dk.row_take {w : World} {base : Nat} {e : TypeId} {A : Option Addr} {c n k : Nat} {xs : List Value} (h : w.ownsRow base e 1 (.slice A n c) n xs) (hk : k ≤ n) : w.ownsRow base e 1 (.slice A k c) k (xs.take k) := by
  obtain ⟨hl, h⟩ := h
  refine ⟨by rw [List.length_take, hl]; omega, ?_⟩
  rcases h with ⟨h1, h2⟩ | ⟨g, cap, cur, h1, h2, h3, h4, h5, h6, h7⟩
  · have h1 : A = none ∧ n = 0 ∧ c = 0 := by simpa using h1
    obtain ⟨rfl, rfl, rfl⟩ := h1
    obtain rfl : k = 0 := by omega
    exact .inl ⟨rfl, rfl⟩
  · have h1 : A = some ⟨g, 0, none⟩ ∧ c = cap := by simpa using h1
    obtain ⟨rfl, rfl⟩ := h1
    refine .inr ⟨g, c, cur, rfl, h2, h3, by omega, h5, h6, ?_⟩
    rw [← h7, List.take_take]
    congr 1
    omega
/-- The power goes away, n acts from now. -/
def Dsk.cutAt (D : Dsk) (n : Int) : Dsk := { D with cut := true, left := if n < 0 then 0 else n }
set_option maxHeartbeats 1000000 in
theorem disk.Cut_any (n : Int) (p : Nat) (D : Dsk) (F : Nat → Prop) (m : Nat) (w : World) (h : DskIn w p D F m) (hn : -9223372036854775808 ≤ n ∧ n ≤ 9223372036854775807) : Calls Try.prog 25 #[.pointer (some ⟨p, 0, none⟩), .int .i64 n] w fun e w' => e = .returned (.tuple #[]) ∧ DskIn w' p (D.cutAt n) F m ∧ Chg w w' (fun k => k = p) := by
  obtain ⟨S, bn, bs, sv, dat, h⟩ := h
  have k4 := h.blk.cell 4 (v := .bool D.cut) rfl
  have k5 := h.blk.cell 5 (v := .int .i64 D.left) rfl
  have z4 := h.blk.frozen 4
  have hpl := h.blk.lt
  obtain ⟨w1, hw1⟩ : ∃ w1, w1 = w.setCell ⟨p, 4, none⟩ (.bool true) := ⟨_, rfl⟩
  have hc1 : Chg w w1 (fun k => k = p) := by rw [hw1]; exact Chg.setCell _ _ _ _
  have hb1 := h.blk.set 4 (.bool true)
  rw [← hw1] at hb1
  obtain ⟨l, hl⟩ : ∃ l : Int, l = if n < 0 then 0 else n := ⟨_, rfl⟩
  obtain ⟨w2, hw2⟩ : ∃ w2, w2 = w1.setCell ⟨p, 5, none⟩ (.int .i64 l) := ⟨_, rfl⟩
  have hc2 : Chg w1 w2 (fun k => k = p) := by rw [hw2]; exact Chg.setCell _ _ _ _
  have hb2 := hb1.set 5 (.int .i64 l)
  rw [← hw2] at hb2
  have y5 := hb1.cell 5 (v := .int .i64 D.left) rfl
  have z5 := hb1.frozen 5
  have hpl1 := hb1.lt
  have hc := hc1.trans hc2 fun _ _ q => q
  have hsc : DskAt w2 p (D.cutAt n) F m S bn bs sv dat := h.scal hc (by unfold Dsk.cutAt; rw [← hl]; exact hb2) rfl rfl rfl rfl
  have HS := Lib.hid (And.intro hsc hc); clear hsc hc hc1 hc2 hb1 hb2 h
  go_enter Try.func25, Try.ntmps25
  by_cases h0 : n < 0
  · rw [if_pos h0] at hl
    have hd : decide (n < 0) = true := decide_eq_true h0
    have hmx : max n 0 = 0 := by omega
    subst hl
    go_upto_region 2 with fail
    rw [← hw1]
    clear k4 k5 z4 hw1
    go_wp2_with fail
    rw [← hw2]
    go_end0
    exact ⟨rfl, ⟨S, bn, bs, sv, dat, HS.out.1⟩, HS.out.2⟩
  · rw [if_neg h0] at hl
    have hd : decide (n < 0) = false := decide_eq_false h0
    have hmx : max n 0 = n := by omega
    subst hl
    go_upto_region 2 with fail
    rw [← hw1]
    clear k4 k5 z4 hw1
    go_wp2_with fail
    rw [← hw2]
    go_end0
    exact ⟨rfl, ⟨S, bn, bs, sv, dat, HS.out.1⟩, HS.out.2⟩
end Go.Proofs.Ythffkbcjidbdaaa

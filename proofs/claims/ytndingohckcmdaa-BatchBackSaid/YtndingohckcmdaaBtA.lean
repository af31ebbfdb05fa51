/- batch: contracts of headMay, checkRecord, length, bodySize. -/
import Derived.Test.YtndingohckcmdaaPlanE
import Derived.Test.YtndingohckcmdaaPlanC
import Derived.Test.YtndingohckcmdaaBats
import Derived.Test.YtndingohckcmdaaNumA
namespace Go.Proofs.Ytndingohckcmdaa
open Go.RowKit

/-- May its head be? -/
def Bat.may (b : Bat) : Prop := 0 ≤ b.base ∧ b.base ≤ 4611686018427387904 ∧ b.base ≤ b.last ∧ b.last ≤ 4611686018427387904 ∧ 0 ≤ b.prod ∧ b.prod ≤ 1099511627776 ∧ 0 ≤ b.epoch ∧ b.epoch ≤ 32767 ∧ 0 ≤ b.seq ∧ b.seq ≤ 2147483647 ∧ (b.prod ≠ 0 ∨ (b.epoch = 0 ∧ b.seq = 0))
instance (b : Bat) : Decidable b.may := by unfold Bat.may; infer_instance
/-- A batch's value, its records at A. -/
def Bat.hval (b : Bat) (A : Option Addr) (n c : Nat) : Value := .agg #[.int .i64 b.base, .int .i64 b.last, .int .i64 b.prod, .int .i64 b.epoch, .int .i64 b.seq, .slice A n c]
/-- A record's value, its key and its value at Ak, Av. -/
def Rec.hval (r : Rec) (Ak : Option Addr) (ck : Nat) (Av : Option Addr) (cv : Nat) : Value := .agg #[.int .i64 r.off, .int .i64 r.time, .bool r.hasKey, .slice Ak r.key.length ck, .bool r.hasVal, .slice Av r.val.length cv]

set_option maxRecDepth 20000 in
set_option maxHeartbeats 1000000 in
theorem bat.head_any (b : Bat) (A : Option Addr) (n c : Nat) (w : World) :
    Calls Try.prog 42 #[b.hval A n c] w fun e w' => e = .returned (.bool (decide b.may)) ∧ Below w.heap.size w w' := by
  obtain ⟨x0, x1, x2, x3, x4, rs⟩ := b
  unfold Bat.hval
  dsimp only
  have hpost : ∀ (r : Bool), (r = true ↔ (⟨x0, x1, x2, x3, x4, rs⟩ : Bat).may) → Ending.returned (.bool r) = Ending.returned (.bool (decide (⟨x0, x1, x2, x3, x4, rs⟩ : Bat).may)) := fun r h => by
    congr 2
    by_cases hm : (⟨x0, x1, x2, x3, x4, rs⟩ : Bat).may
    · rw [h.2 hm]; exact (decide_eq_true hm).symm
    · have : r = false := by cases r <;> simp_all
      rw [this]; exact (decide_eq_false hm).symm
  have HPOST := Lib.hid hpost; clear hpost
  go_enter Try.func42, Try.ntmps42
  go_wp2
  all_goals
    go_ret
    refine ⟨HPOST.out _ ?_, ?_⟩
    · unfold Bat.may
      dsimp only
      simp
      try omega
    · go_grown

/-- May a record be? -/
def Rec.chk (r : Rec) : Int :=
  if r.time < 0 ∨ 1125899906842624 < r.time then 1 else
  if (r.hasKey = false ∧ 0 < r.key.length) ∨ (r.hasVal = false ∧ 0 < r.val.length) then 1 else
  if 200 < r.key.length ∨ 2000 < r.val.length then 3 else 0

set_option maxRecDepth 20000 in
set_option maxHeartbeats 1000000 in
theorem bat.record_any (r : Rec) (Ak : Option Addr) (ck : Nat) (Av : Option Addr) (cv : Nat) (w : World) :
    Calls Try.prog 43 #[r.hval Ak ck Av cv] w fun e w' => e = .returned (.int .i64 r.chk) ∧ Below w.heap.size w w' := by
  have hpost : ∀ (x : Int), x = r.chk → Ending.returned (.int .i64 x) = Ending.returned (.int .i64 r.chk) := fun x h => by rw [h]
  have HPOST := Lib.hid hpost; clear hpost
  have hchk : r.chk = if r.time < 0 ∨ 1125899906842624 < r.time then 1 else if (r.hasKey = false ∧ 0 < r.key.length) ∨ (r.hasVal = false ∧ 0 < r.val.length) then 1 else if 200 < r.key.length ∨ 2000 < r.val.length then 3 else 0 := rfl
  have HC := Lib.hid hchk; clear hchk
  obtain ⟨x0, x1, hk, kk, hv, vv⟩ := r
  unfold Rec.hval
  dsimp only at *
  generalize kk.length = kn at *
  generalize vv.length = vn at *
  cases hk <;> cases hv
  all_goals
    go_enter Try.func43, Try.ntmps43
    go_wp2
    all_goals
      go_ret
      refine ⟨HPOST.out _ ?_, ?_⟩
      · rw [HC.out]
        simp
        try (repeat' split) <;> omega
      · go_grown

def bat.len (has : Bool) (n : Nat) : Int := if has then n else -1
theorem bat.length_any (has : Bool) (A : Option Addr) (n c : Nat) (w : World) :
    Calls Try.prog 63 #[.bool has, .slice A n c] w fun e w' => e = .returned (.int .i64 (bat.len has n)) ∧ w = w' := by
  cases has
  all_goals
    go_enter Try.func63, Try.ntmps63
    go_wp2
    go_ret
    exact ⟨rfl, rfl⟩
end Go.Proofs.Ytndingohckcmdaa

/- batch: contract of bodySize. -/
import Derived.Test.YtndingohckcmdaaBtA
namespace Go.Proofs.Ytndingohckcmdaa
open Go.RowKit

def num.widI (n : Int) : Nat := num.wid (num.zig n).toNat
theorem num.widI_le (n : Int) : num.widI n ≤ 10 := (num.wd_le 9 _).2

/-- How long a record's body is. -/
def Rec.body (r : Rec) (first base : Int) : Int :=
  num.widI (r.time - first) + num.widI (r.off - base) + num.widI (bat.len r.hasKey r.key.length) + r.key.length + num.widI (bat.len r.hasVal r.val.length) + r.val.length

set_option maxRecDepth 20000 in
set_option maxHeartbeats 2000000 in
theorem bat.body_any (r : Rec) (Ak : Option Addr) (ck : Nat) (Av : Option Addr) (cv : Nat) (first base : Int) (w : World)
    (h1 : 0 ≤ r.time ∧ r.time ≤ 1125899906842624) (h2 : 0 ≤ first ∧ first ≤ 1125899906842624) (h3 : 0 ≤ r.off ∧ r.off ≤ 4611686018427387904) (h4 : 0 ≤ base ∧ base ≤ 4611686018427387904) (h5 : r.key.length ≤ 1000000) (h6 : r.val.length ≤ 1000000) :
    Calls Try.prog 37 #[r.hval Ak ck Av cv, .int .i64 first, .int .i64 base] w fun e w' => e = .returned (.int .i64 (r.body first base)) ∧ Below w.heap.size w w' := by
  have hl1 : -1 ≤ bat.len r.hasKey r.key.length ∧ bat.len r.hasKey r.key.length ≤ 1000000 := by unfold bat.len; split <;> omega
  have hl2 : -1 ≤ bat.len r.hasVal r.val.length ∧ bat.len r.hasVal r.val.length ≤ 1000000 := by unfold bat.len; split <;> omega
  have hbody : r.body first base = num.widI (r.time - first) + num.widI (r.off - base) + num.widI (bat.len r.hasKey r.key.length) + r.key.length + num.widI (bat.len r.hasVal r.val.length) + r.val.length := rfl
  have HBODY := Lib.hid hbody; clear hbody
  have z1 := num.widI_le (r.time - first)
  have z2 := num.widI_le (r.off - base)
  have z3 := num.widI_le (bat.len r.hasKey r.key.length)
  have z4 := num.widI_le (bat.len r.hasVal r.val.length)
  have k1 := fun wx => num.size_any (r.time - first) wx (by omega) (by omega)
  have k2 := fun wx => num.size_any (r.off - base) wx (by omega) (by omega)
  have k3 := fun wx => num.size_any (bat.len r.hasKey r.key.length) wx (by omega) (by omega)
  have k4 := fun wx => num.size_any (bat.len r.hasVal r.val.length) wx (by omega) (by omega)
  have l3 := fun wx => bat.length_any r.hasKey Ak r.key.length ck wx
  have l4 := fun wx => bat.length_any r.hasVal Av r.val.length cv wx
  have e1 : num.wid (num.zig (r.time - first)).toNat = num.widI (r.time - first) := rfl
  have e2 : num.wid (num.zig (r.off - base)).toNat = num.widI (r.off - base) := rfl
  have e3 : num.wid (num.zig (bat.len r.hasKey r.key.length)).toNat = num.widI (bat.len r.hasKey r.key.length) := rfl
  have e4 : num.wid (num.zig (bat.len r.hasVal r.val.length)).toNat = num.widI (bat.len r.hasVal r.val.length) := rfl
  rw [e1] at k1; rw [e2] at k2; rw [e3] at k3; rw [e4] at k4
  clear e1 e2 e3 e4
  generalize num.widI (r.time - first) = d1 at *
  generalize num.widI (r.off - base) = d2 at *
  generalize num.widI (bat.len r.hasKey r.key.length) = d3 at *
  generalize num.widI (bat.len r.hasVal r.val.length) = d4 at *
  generalize bat.len r.hasKey r.key.length = lk at *
  generalize bat.len r.hasVal r.val.length = lv at *
  have HK1 := Lib.hid k1; clear k1
  have HK2 := Lib.hid k2; clear k2
  have HK3 := Lib.hid k3; clear k3
  have HK4 := Lib.hid k4; clear k4
  have HL3 := Lib.hid l3; clear l3
  have HL4 := Lib.hid l4; clear l4
  unfold Rec.hval
  go_enter Try.func37, Try.ntmps37
  go_wp2_with fail
  obtain ⟨w1, hw1⟩ : ∃ w1, w1 = w.alloc (.cells #[.int .i64 r.off, .int .i64 r.time, .bool r.hasKey, .slice Ak r.key.length ck, .bool r.hasVal, .slice Av r.val.length cv] 62) := ⟨_, rfl⟩
  rw [← hw1]
  have hbk : Blk w1 w.heap.size 62 #[.int .i64 r.off, .int .i64 r.time, .bool r.hasKey, .slice Ak r.key.length ck, .bool r.hasVal, .slice Av r.val.length cv] := by rw [hw1]; exact Blk.new _ _ _
  have hb1 : Below w.heap.size w w1 := by rw [hw1]; exact (Below.refl _ w).alloc (Nat.le_refl _) _
  clear hw1
  have q0 : w1.cell? ⟨w.heap.size, 0, none⟩ = some (.int .i64 r.off) := hbk.cell 0 rfl
  have q1 : w1.cell? ⟨w.heap.size, 1, none⟩ = some (.int .i64 r.time) := hbk.cell 1 rfl
  have q2 : w1.cell? ⟨w.heap.size, 2, none⟩ = some (.bool r.hasKey) := hbk.cell 2 rfl
  have q3 : w1.cell? ⟨w.heap.size, 3, none⟩ = some (.slice Ak r.key.length ck) := hbk.cell 3 rfl
  have q4 : w1.cell? ⟨w.heap.size, 4, none⟩ = some (.bool r.hasVal) := hbk.cell 4 rfl
  have q5 : w1.cell? ⟨w.heap.size, 5, none⟩ = some (.slice Av r.val.length cv) := hbk.cell 5 rfl
  have HB1 := Lib.hid hb1; clear hb1 hbk
  go_quiet (first
    | (go_at_call 63; exact Calls.quiet_of_same ((HL3.out _).mono fun _ _ h => ⟨h.1, h.2.symm⟩))
    | (go_at_call 63; exact Calls.quiet_of_same ((HL4.out _).mono fun _ _ h => ⟨h.1, h.2.symm⟩))
    | (go_at_call 62; exact Calls.quiet_of_same ((HK1.out _).mono fun _ _ h => ⟨h.1, h.2.symm⟩))
    | (go_at_call 62; exact Calls.quiet_of_same ((HK2.out _).mono fun _ _ h => ⟨h.1, h.2.symm⟩))
    | (go_at_call 62; exact Calls.quiet_of_same ((HK3.out _).mono fun _ _ h => ⟨h.1, h.2.symm⟩))
    | (go_at_call 62; exact Calls.quiet_of_same ((HK4.out _).mono fun _ _ h => ⟨h.1, h.2.symm⟩)))
  go_wp2
  go_ret
  exact ⟨by rw [HBODY.out]; rfl, bdrew HB1.out _⟩
end Go.Proofs.Ytndingohckcmdaa

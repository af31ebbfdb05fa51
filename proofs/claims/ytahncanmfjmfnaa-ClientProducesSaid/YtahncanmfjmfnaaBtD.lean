/- batch: contracts of Check and Size. -/
import Derived.Test.YtahncanmfjmfnaaPlanE
import Derived.Test.YtahncanmfjmfnaaPlanC
import Derived.Test.YtahncanmfjmfnaaBats
import Derived.Test.YtahncanmfjmfnaaNumP
namespace Go.Proofs.Ytahncanmfjmfnaa
open Go.RowKit

/-- May its head be? -/
def Bat.may (b : Bat) : Prop := 0 ≤ b.base ∧ b.base ≤ 4611686018427387904 ∧ b.base ≤ b.last ∧ b.last ≤ 4611686018427387904 ∧ 0 ≤ b.prod ∧ b.prod ≤ 1099511627776 ∧ 0 ≤ b.epoch ∧ b.epoch ≤ 32767 ∧ 0 ≤ b.seq ∧ b.seq ≤ 2147483647 ∧ (b.prod ≠ 0 ∨ (b.epoch = 0 ∧ b.seq = 0))
instance (b : Bat) : Decidable b.may := by unfold Bat.may; infer_instance
/-- A batch's value, its records at A. -/
def Bat.hval (b : Bat) (A : Option Addr) (n c : Nat) : Value := .agg #[.int .i64 b.base, .int .i64 b.last, .int .i64 b.prod, .int .i64 b.epoch, .int .i64 b.seq, .slice A n c]
/-- A record's value, its key and its value at Ak, Av. -/
def Rec.hval (r : Rec) (Ak : Option Addr) (ck : Nat) (Av : Option Addr) (cv : Nat) : Value := .agg #[.int .i64 r.off, .int .i64 r.time, .bool r.hasKey, .slice Ak r.key.length ck, .bool r.hasVal, .slice Av r.val.length cv]

set_option maxRecDepth 20000 in
set_option maxHeartbeats 1000000 in
theorem bat.head_any (b : Bat) (A : Option Addr) (n c : Nat) (w : World) :
    Calls Try.prog 58 #[b.hval A n c] w fun e w' => e = .returned (.bool (decide b.may)) ∧ Below w.heap.size w w' := by
  obtain ⟨x0, x1, x2, x3, x4, rs⟩ := b
  unfold Bat.hval
  dsimp only
  have hpost : ∀ (r : Bool), (r = true ↔ (⟨x0, x1, x2, x3, x4, rs⟩ : Bat).may) → Ending.returned (.bool r) = Ending.returned (.bool (decide (⟨x0, x1, x2, x3, x4, rs⟩ : Bat).may)) := fun r h => by
    congr 2
    by_cases hm : (⟨x0, x1, x2, x3, x4, rs⟩ : Bat).may
    · rw [h.2 hm]; exact (decide_eq_true hm).symm
    · have : r = false := by cases r <;> simp_all
      rw [this]; exact (decide_eq_false hm).symm
  have HPOST := Lib.hid hpost; clear hpost
  go_enter Try.func58, Try.ntmps58
  go_wp2
  all_goals
    go_ret
    refine ⟨HPOST.out _ ?_, ?_⟩
    · unfold Bat.may
      dsimp only
      simp
      try omega
    · go_grown

/-- May a record be? -/
def Rec.chk (r : Rec) : Int :=
  if r.time < 0 ∨ 1125899906842624 < r.time then 1 else
  if (r.hasKey = false ∧ 0 < r.key.length) ∨ (r.hasVal = false ∧ 0 < r.val.length) then 1 else
  if 200 < r.key.length ∨ 2000 < r.val.length then 3 else 0

set_option maxRecDepth 20000 in
set_option maxHeartbeats 1000000 in
theorem bat.record_any (r : Rec) (Ak : Option Addr) (ck : Nat) (Av : Option Addr) (cv : Nat) (w : World) :
    Calls Try.prog 59 #[r.hval Ak ck Av cv] w fun e w' => e = .returned (.int .i64 r.chk) ∧ Below w.heap.size w w' := by
  have hpost : ∀ (x : Int), x = r.chk → Ending.returned (.int .i64 x) = Ending.returned (.int .i64 r.chk) := fun x h => by rw [h]
  have HPOST := Lib.hid hpost; clear hpost
  have hchk : r.chk = if r.time < 0 ∨ 1125899906842624 < r.time then 1 else if (r.hasKey = false ∧ 0 < r.key.length) ∨ (r.hasVal = false ∧ 0 < r.val.length) then 1 else if 200 < r.key.length ∨ 2000 < r.val.length then 3 else 0 := rfl
  have HC := Lib.hid hchk; clear hchk
  obtain ⟨x0, x1, hk, kk, hv, vv⟩ := r
  unfold Rec.hval
  dsimp only at *
  generalize kk.length = kn at *
  generalize vv.length = vn at *
  cases hk <;> cases hv
  all_goals
    go_enter Try.func59, Try.ntmps59
    go_wp2
    all_goals
      go_ret
      refine ⟨HPOST.out _ ?_, ?_⟩
      · rw [HC.out]
        simp
        try (repeat' split) <;> omega
      · go_grown

def bat.len (has : Bool) (n : Nat) : Int := if has then n else -1
theorem bat.length_any (has : Bool) (A : Option Addr) (n c : Nat) (w : World) :
    Calls Try.prog 65 #[.bool has, .slice A n c] w fun e w' => e = .returned (.int .i64 (bat.len has n)) ∧ w = w' := by
  cases has
  all_goals
    go_enter Try.func65, Try.ntmps65
    go_wp2
    go_ret
    exact ⟨rfl, rfl⟩

def num.widI (n : Int) : Nat := num.wid (num.zig n).toNat
theorem num.widI_le (n : Int) : num.widI n ≤ 10 := (num.wd_le 9 _).2

/-- How long a record's body is. -/
def Rec.body (r : Rec) (first base : Int) : Int :=
  num.widI (r.time - first) + num.widI (r.off - base) + num.widI (bat.len r.hasKey r.key.length) + r.key.length + num.widI (bat.len r.hasVal r.val.length) + r.val.length

set_option maxRecDepth 20000 in
set_option maxHeartbeats 2000000 in
theorem bat.body_any (r : Rec) (Ak : Option Addr) (ck : Nat) (Av : Option Addr) (cv : Nat) (first base : Int) (w : World)
    (h1 : 0 ≤ r.time ∧ r.time ≤ 1125899906842624) (h2 : 0 ≤ first ∧ first ≤ 1125899906842624) (h3 : 0 ≤ r.off ∧ r.off ≤ 4611686018427387904) (h4 : 0 ≤ base ∧ base ≤ 4611686018427387904) (h5 : r.key.length ≤ 1000000) (h6 : r.val.length ≤ 1000000) :
    Calls Try.prog 43 #[r.hval Ak ck Av cv, .int .i64 first, .int .i64 base] w fun e w' => e = .returned (.int .i64 (r.body first base)) ∧ Below w.heap.size w w' := by
  have hl1 : -1 ≤ bat.len r.hasKey r.key.length ∧ bat.len r.hasKey r.key.length ≤ 1000000 := by unfold bat.len; split <;> omega
  have hl2 : -1 ≤ bat.len r.hasVal r.val.length ∧ bat.len r.hasVal r.val.length ≤ 1000000 := by unfold bat.len; split <;> omega
  have hbody : r.body first base = num.widI (r.time - first) + num.widI (r.off - base) + num.widI (bat.len r.hasKey r.key.length) + r.key.length + num.widI (bat.len r.hasVal r.val.length) + r.val.length := rfl
  have HBODY := Lib.hid hbody; clear hbody
  have z1 := num.widI_le (r.time - first)
  have z2 := num.widI_le (r.off - base)
  have z3 := num.widI_le (bat.len r.hasKey r.key.length)
  have z4 := num.widI_le (bat.len r.hasVal r.val.length)
  have k1 := fun wx => num.size_any (r.time - first) wx (by omega) (by omega)
  have k2 := fun wx => num.size_any (r.off - base) wx (by omega) (by omega)
  have k3 := fun wx => num.size_any (bat.len r.hasKey r.key.length) wx (by omega) (by omega)
  have k4 := fun wx => num.size_any (bat.len r.hasVal r.val.length) wx (by omega) (by omega)
  have l3 := fun wx => bat.length_any r.hasKey Ak r.key.length ck wx
  have l4 := fun wx => bat.length_any r.hasVal Av r.val.length cv wx
  have e1 : num.wid (num.zig (r.time - first)).toNat = num.widI (r.time - first) := rfl
  have e2 : num.wid (num.zig (r.off - base)).toNat = num.widI (r.off - base) := rfl
  have e3 : num.wid (num.zig (bat.len r.hasKey r.key.length)).toNat = num.widI (bat.len r.hasKey r.key.length) := rfl
  have e4 : num.wid (num.zig (bat.len r.hasVal r.val.length)).toNat = num.widI (bat.len r.hasVal r.val.length) := rfl
  rw [e1] at k1; rw [e2] at k2; rw [e3] at k3; rw [e4] at k4
  clear e1 e2 e3 e4
  generalize num.widI (r.time - first) = d1 at *
  generalize num.widI (r.off - base) = d2 at *
  generalize num.widI (bat.len r.hasKey r.key.length) = d3 at *
  generalize num.widI (bat.len r.hasVal r.val.length) = d4 at *
  generalize bat.len r.hasKey r.key.length = lk at *
  generalize bat.len r.hasVal r.val.length = lv at *
  have HK1 := Lib.hid k1; clear k1
  have HK2 := Lib.hid k2; clear k2
  have HK3 := Lib.hid k3; clear k3
  have HK4 := Lib.hid k4; clear k4
  have HL3 := Lib.hid l3; clear l3
  have HL4 := Lib.hid l4; clear l4
  unfold Rec.hval
  go_enter Try.func43, Try.ntmps43
  go_wp2_with fail
  obtain ⟨w1, hw1⟩ : ∃ w1, w1 = w.alloc (.cells #[.int .i64 r.off, .int .i64 r.time, .bool r.hasKey, .slice Ak r.key.length ck, .bool r.hasVal, .slice Av r.val.length cv] 44) := ⟨_, rfl⟩
  rw [← hw1]
  have hbk : Blk w1 w.heap.size 44 #[.int .i64 r.off, .int .i64 r.time, .bool r.hasKey, .slice Ak r.key.length ck, .bool r.hasVal, .slice Av r.val.length cv] := by rw [hw1]; exact Blk.new _ _ _
  have hb1 : Below w.heap.size w w1 := by rw [hw1]; exact (Below.refl _ w).alloc (Nat.le_refl _) _
  clear hw1
  have q0 : w1.cell? ⟨w.heap.size, 0, none⟩ = some (.int .i64 r.off) := hbk.cell 0 rfl
  have q1 : w1.cell? ⟨w.heap.size, 1, none⟩ = some (.int .i64 r.time) := hbk.cell 1 rfl
  have q2 : w1.cell? ⟨w.heap.size, 2, none⟩ = some (.bool r.hasKey) := hbk.cell 2 rfl
  have q3 : w1.cell? ⟨w.heap.size, 3, none⟩ = some (.slice Ak r.key.length ck) := hbk.cell 3 rfl
  have q4 : w1.cell? ⟨w.heap.size, 4, none⟩ = some (.bool r.hasVal) := hbk.cell 4 rfl
  have q5 : w1.cell? ⟨w.heap.size, 5, none⟩ = some (.slice Av r.val.length cv) := hbk.cell 5 rfl
  have HB1 := Lib.hid hb1; clear hb1 hbk
  go_quiet (first
    | (go_at_call 65; exact Calls.quiet_of_same ((HL3.out _).mono fun _ _ h => ⟨h.1, h.2.symm⟩))
    | (go_at_call 65; exact Calls.quiet_of_same ((HL4.out _).mono fun _ _ h => ⟨h.1, h.2.symm⟩))
    | (go_at_call 64; exact Calls.quiet_of_same ((HK1.out _).mono fun _ _ h => ⟨h.1, h.2.symm⟩))
    | (go_at_call 64; exact Calls.quiet_of_same ((HK2.out _).mono fun _ _ h => ⟨h.1, h.2.symm⟩))
    | (go_at_call 64; exact Calls.quiet_of_same ((HK3.out _).mono fun _ _ h => ⟨h.1, h.2.symm⟩))
    | (go_at_call 64; exact Calls.quiet_of_same ((HK4.out _).mono fun _ _ h => ⟨h.1, h.2.symm⟩)))
  go_wp2
  go_ret
  exact ⟨by rw [HBODY.out]; rfl, bdrew HB1.out _⟩

def Bat.first (rs : List Rec) : Int := match rs with | [] => 0 | r :: _ => r.time
/-- The greatest time of the first k. -/
def Bat.mostTo (rs : List Rec) (k : Nat) : Int := (rs.take k).foldl (fun m r => max m r.time) (Bat.first rs)
def Bat.mostT (rs : List Rec) : Int := Bat.mostTo rs rs.length
theorem Bat.mostTo_succ (rs : List Rec) (k : Nat) (r : Rec) (h : rs[k]? = some r) : Bat.mostTo rs (k + 1) = max (Bat.mostTo rs k) r.time := by
  obtain ⟨hk, rfl⟩ := List.getElem?_eq_some_iff.1 h
  unfold Bat.mostTo
  rw [List.take_succ_eq_append_getElem hk, List.foldl_append]
  rfl
theorem Bat.first_zero (rs : List Rec) (r : Rec) (h : rs[0]? = some r) : Bat.first rs = r.time := by
  cases rs with
  | nil => simp at h
  | cons a l => obtain rfl : a = r := by simpa using h
                rfl

set_option maxRecDepth 20000 in
set_option maxHeartbeats 2000000 in
theorem bat.times_any (b : Bat) (A : Option Addr) (c : Nat) (w : World) (hv : RecsV w (.slice A b.recs.length c) b.recs) :
    Calls Try.prog 40 #[b.hval A b.recs.length c] w fun e w' => e = .returned (.tuple #[.int .i64 (Bat.first b.recs), .int .i64 (Bat.mostT b.recs)]) ∧ Below w.heap.size w w' := by
  have hlen : b.recs.length ≤ maxLen := by
    obtain ⟨A', c', V, h, h1, h2, -⟩ := hv
    exact Nat.le_trans h1 h2
  unfold maxLen at hlen
  have HV := Lib.hid hv; clear hv
  unfold Bat.hval
  go_enter Try.func40, Try.ntmps40
  go_wp2_with fail
  obtain ⟨w1, hw1⟩ : ∃ w1, w1 = w.alloc (.cells #[.int .i64 b.base, .int .i64 b.last, .int .i64 b.prod, .int .i64 b.epoch, .int .i64 b.seq, .slice A b.recs.length c] 42) := ⟨_, rfl⟩
  rw [← hw1]
  have hb1 : Below w.heap.size w w1 := by rw [hw1]; exact (Below.refl _ w).alloc (Nat.le_refl _) _
  clear hw1
  have HB1 := Lib.hid hb1; clear hb1
  go_loopw [2, 3, 9] (fun f m i wr => ∃ j : Nat, j ≤ b.recs.length ∧ i = .int .i64 (j : Int) ∧ ((j = 0 ∧ f = .int .i64 0 ∧ m = .int .i64 0) ∨ (0 < j ∧ f = .int .i64 (Bat.first b.recs) ∧ m = .int .i64 (Bat.mostTo b.recs j))) ∧ Below w1.heap.size w1 wr) (fun _ _ i _ => b.recs.length - (intOf i).toNat)
  case atStart => exact ⟨0, by omega, rfl, .inl ⟨rfl, rfl, rfl⟩, Below.refl _ _⟩
  case round =>
    obtain ⟨j, hj, rfl, hfm, hbw⟩ := hrel
    have HBW := Lib.hid hbw; clear hbw
    by_cases hlt : j < b.recs.length
    · obtain ⟨x, hx⟩ : ∃ x, b.recs[j]? = some x := ⟨_, List.getElem?_eq_getElem hlt⟩
      obtain ⟨p, off, c', kv, vv, hA, -, -, hp, d0, d1, d2, d3, d4, d5, hk, hvv, -, -⟩ := (HV.out.below (HB1.out.trans (HBW.out.mono HB1.out.size)) (Nat.le_refl _)).at' hx
      obtain ⟨rfl, rfl⟩ : A = some ⟨p, off, none⟩ ∧ c = c' := by simpa using hA
      obtain ⟨Ak, ck, rfl, -, -, -, -⟩ := hk
      obtain ⟨Av, cv, rfl, -, -, -, -⟩ := hvv
      have HM := Lib.hid (Bat.mostTo_succ b.recs j x hx)
      have HX := Lib.hid hx; clear hx hA
      rcases hfm with ⟨rfl, rfl, rfl⟩ | ⟨hj0, rfl, rfl⟩
      · have hF := Bat.first_zero b.recs x HX.out
        have HF := Lib.hid hF; clear hF
        have hM0 : Bat.mostTo b.recs 1 = x.time := by rw [HM.out]; unfold Bat.mostTo; rw [HF.out]; simp
        have HM0 := Lib.hid hM0; clear hM0
        rw [Nat.zero_mul] at d0 d1 d2 d3 d4 d5
        rw [Nat.add_zero] at d0 d1 d2 d3 d4 d5
        go_wp2_with fail
        go_quiet (fail)
        go_wp2
        all_goals
          go_roundw
          case rel => exact ⟨1, by omega, by go_num, .inr ⟨by omega, by rw [HF.out], by first | (rw [HM0.out]; done) | (rw [HM0.out]; refine num_eq ?_; omega)⟩, bdrew (HBW.out.alloc HBW.out.size _) _⟩
          case measure => simp [intOf]; omega
      · have hd : ((j : Int) == 0) = false := by simp; omega
        generalize Bat.mostTo b.recs j = M at *
        go_wp2
        all_goals
          go_roundw
          case rel => exact ⟨j + 1, by omega, by go_num, .inr ⟨by omega, rfl, by rw [HM.out]; refine num_eq ?_; omega⟩, HBW.out.alloc HBW.out.size _⟩
          case measure => simp [intOf]; omega
    · obtain rfl : j = b.recs.length := by omega
      rcases hfm with ⟨h0, rfl, rfl⟩ | ⟨hj0, rfl, rfl⟩
      · have hnil : b.recs = [] := List.length_eq_zero_iff.1 h0
        have hF : Bat.first b.recs = 0 := by rw [hnil]; rfl
        have hM : Bat.mostT b.recs = 0 := by rw [hnil]; rfl
        have HF := Lib.hid hF; clear hF
        have HM := Lib.hid hM; clear hM hnil
        clear h0
        go_wp2
        go_ret2
        exact ⟨by rw [HF.out, HM.out]; rfl, HB1.out.trans (HBW.out.mono HB1.out.size)⟩
      · go_wp2
        go_ret2
        exact ⟨rfl, HB1.out.trans (HBW.out.mono HB1.out.size)⟩

/-- How long a batch is whose records are these. -/
def Bat.sum (first base : Int) (rs : List Rec) : Int := (rs.map fun r => ((num.widI (r.body first base) : Nat) : Int) + r.body first base).sum
def Bat.size (b : Bat) : Int := 50 + Bat.sum (Bat.first b.recs) b.base b.recs
/-- A record that may be, in a batch that may. -/
def Rec.ok (r : Rec) : Prop := 0 ≤ r.time ∧ r.time ≤ 1125899906842624 ∧ 0 ≤ r.off ∧ r.off ≤ 4611686018427387904 ∧ r.key.length ≤ 200 ∧ r.val.length ≤ 2000
theorem Rec.body_le {r : Rec} (h : r.ok) (first base : Int) : 0 ≤ r.body first base ∧ r.body first base ≤ 2240 := by
  have z1 := num.widI_le (r.time - first)
  have z2 := num.widI_le (r.off - base)
  have z3 := num.widI_le (bat.len r.hasKey r.key.length)
  have z4 := num.widI_le (bat.len r.hasVal r.val.length)
  obtain ⟨-, -, -, -, h5, h6⟩ := h
  unfold Rec.body
  omega
theorem Bat.sum_le (first base : Int) (rs : List Rec) (h : ∀ r ∈ rs, r.ok) : 0 ≤ Bat.sum first base rs ∧ Bat.sum first base rs ≤ 2250 * rs.length := by
  unfold Bat.sum
  induction rs with
  | nil => simp
  | cons r rs ih =>
    have := ih fun x hx => h x (List.mem_cons_of_mem _ hx)
    have h1 := Rec.body_le (h r (List.mem_cons_self ..)) first base
    have h2 := num.widI_le (r.body first base)
    simp only [List.map_cons, List.sum_cons, List.length_cons]
    omega
theorem Bat.sum_succ (first base : Int) (rs : List Rec) (k : Nat) (r : Rec) (h : rs[k]? = some r) : Bat.sum first base (rs.take (k + 1)) = Bat.sum first base (rs.take k) + (num.widI (r.body first base) + r.body first base) := by
  obtain ⟨hk, rfl⟩ := List.getElem?_eq_some_iff.1 h
  unfold Bat.sum
  rw [List.take_succ_eq_append_getElem hk, List.map_append, List.sum_append]
  simp

set_option maxRecDepth 20000 in
set_option maxHeartbeats 2000000 in
theorem bat.size_any (b : Bat) (A : Option Addr) (c : Nat) (w : World) (hv : RecsV w (.slice A b.recs.length c) b.recs) (hok : ∀ r ∈ b.recs, r.ok) (hl : b.recs.length ≤ 1000000) (hb : 0 ≤ b.base ∧ b.base ≤ 4611686018427387904) :
    Calls Try.prog 60 #[b.hval A b.recs.length c] w fun e w' => e = .returned (.int .i64 b.size) ∧ Below w.heap.size w w' := by
  have hfirst : 0 ≤ Bat.first b.recs ∧ Bat.first b.recs ≤ 1125899906842624 := by
    cases hr : b.recs with
    | nil => exact ⟨Int.le_refl 0, by show (0 : Int) ≤ 1125899906842624; omega⟩
    | cons r rs =>
      have := hok r (by rw [hr]; exact List.mem_cons_self ..)
      exact ⟨this.1, this.2.1⟩
  have HOK := Lib.hid hok; clear hok
  have HV := Lib.hid hv; clear hv
  have hsz : b.size = 50 + Bat.sum (Bat.first b.recs) b.base b.recs := rfl
  have HSZ := Lib.hid hsz; clear hsz
  have htm := fun wx (h : Below w.heap.size w wx) => bat.times_any b A c wx (HV.out.below h (Nat.le_refl _))
  have HTM := Lib.hid htm; clear htm
  unfold Bat.hval at *
  go_enter Try.func60, Try.ntmps60
  go_wp2_with fail
  obtain ⟨w1, hw1⟩ : ∃ w1, w1 = w.alloc (.cells #[.int .i64 b.base, .int .i64 b.last, .int .i64 b.prod, .int .i64 b.epoch, .int .i64 b.seq, .slice A b.recs.length c] 42) := ⟨_, rfl⟩
  rw [← hw1]
  have hbk : Blk w1 w.heap.size 42 #[.int .i64 b.base, .int .i64 b.last, .int .i64 b.prod, .int .i64 b.epoch, .int .i64 b.seq, .slice A b.recs.length c] := by rw [hw1]; exact Blk.new _ _ _
  have hb1 : Below w.heap.size w w1 := by rw [hw1]; exact (Below.refl _ w).alloc (Nat.le_refl _) _
  clear hw1
  refine (HTM.out w1 hb1).mono ?_
  rintro e w2 ⟨rfl, hb2⟩
  have HBK := Lib.hid ((chg_of (P := fun _ => False) hb2).blk hbk id)
  have HB2 := Lib.hid (hb1.trans (hb2.mono hb1.size)); clear hb1 hb2 hbk
  obtain ⟨F, hF⟩ : ∃ F, F = Bat.first b.recs := ⟨_, rfl⟩
  rw [← hF] at hfirst ⊢
  have HF := Lib.hid hF; clear hF
  have c5 : w2.cell? ⟨w.heap.size, 5, none⟩ = some (.slice A b.recs.length c) := HBK.out.cell 5 rfl
  go_wp2_with fail
  go_loopw [5, 17] (fun n i wr => ∃ j : Nat, j ≤ b.recs.length ∧ i = .int .i64 (j : Int) ∧ n = .int .i64 (50 + Bat.sum F b.base (b.recs.take j)) ∧ Below w2.heap.size w2 wr) (fun _ i _ => b.recs.length - (intOf i).toNat)
  case atStart => exact ⟨0, by omega, rfl, rfl, Below.refl _ _⟩
  case round =>
    obtain ⟨j, hj, rfl, rfl, hbw⟩ := hrel
    have HBW := Lib.hid hbw; clear hbw
    have hs := Bat.sum_le F b.base (b.recs.take j) fun r hr => HOK.out r (List.mem_of_mem_take hr)
    rw [List.length_take, Nat.min_eq_left hj] at hs
    by_cases hlt : j < b.recs.length
    · obtain ⟨x, hx⟩ : ∃ x, b.recs[j]? = some x := ⟨_, List.getElem?_eq_getElem hlt⟩
      obtain ⟨p, off, c', kv, vv, hA, -, -, hp, d0, d1, d2, d3, d4, d5, hk, hvv, -, -⟩ := (HV.out.below (HB2.out.trans (HBW.out.mono HB2.out.size)) (Nat.le_refl _)).at' hx
      obtain ⟨rfl, rfl⟩ : A = some ⟨p, off, none⟩ ∧ c = c' := by simpa using hA
      obtain ⟨Ak, ck, rfl, -, -, -, -⟩ := hk
      obtain ⟨Av, cv, rfl, -, -, -, -⟩ := hvv
      have hxo := HOK.out x (List.mem_of_getElem? hx)
      have hst := Bat.sum_succ F b.base b.recs j x hx
      have hbd := Rec.body_le hxo F b.base
      have hwd := num.widI_le (x.body F b.base)
      clear hA hx
      have hcall := fun wx => bat.body_any x Ak ck Av cv F b.base wx ⟨hxo.1, hxo.2.1⟩ hfirst ⟨hxo.2.2.1, hxo.2.2.2.1⟩ hb (by have := hxo.2.2.2.2.1; omega) (by have := hxo.2.2.2.2.2; omega)
      unfold Rec.hval at hcall
      obtain ⟨Y, hY⟩ : ∃ Y, Y = x.body F b.base := ⟨_, rfl⟩
      rw [← hY] at hst hbd hwd hcall
      have hszc := fun wx => num.size_any Y wx (by omega) (by omega)
      have e1 : num.wid (num.zig Y).toNat = num.widI Y := rfl
      rw [e1] at hszc
      clear e1 hY
      obtain ⟨Z, hZ⟩ : ∃ Z, Z = num.widI Y := ⟨_, rfl⟩
      rw [← hZ] at hst hwd hszc
      clear hZ
      obtain ⟨T, hT⟩ : ∃ T, T = Bat.sum F b.base (b.recs.take j) := ⟨_, rfl⟩
      rw [← hT] at hs hst ⊢
      clear hT
      have HST := Lib.hid hst; clear hst
      have HCALL := Lib.hid hcall; clear hcall
      have HSZC := Lib.hid hszc; clear hszc
      have HXO := Lib.hid hxo; clear hxo
      have hbk2 := (chg_of (P := fun _ => False) HBW.out).blk HBK.out id
      have c0 : wr.cell? ⟨w.heap.size, 0, none⟩ = some (.int .i64 b.base) := hbk2.cell 0 rfl
      have hsz2 : w.heap.size < wr.heap.size := hbk2.lt
      clear hbk2
      go_wp2_with fail
      refine (HCALL.out _).mono ?_
      rintro e w3 ⟨rfl, hb3⟩
      have HB3 := Lib.hid ((HBW.out.alloc HBW.out.size _).trans (hb3.mono (by have := HBW.out.size; simp; omega))); clear hb3
      go_wp2_with fail
      refine (HSZC.out w3).mono ?_
      rintro e w' ⟨rfl, rfl⟩
      go_wp2
      go_roundw
      case rel => exact ⟨j + 1, by omega, by go_num, num_eq (by rw [HST.out]; omega), HB3.out⟩
      case measure => simp [intOf]; omega
    · obtain rfl : j = b.recs.length := by omega
      have hans : b.size = 50 + Bat.sum F b.base (b.recs.take b.recs.length) := by rw [HSZ.out, HF.out, List.take_length]
      have HANS := Lib.hid hans; clear hans hs
      go_wp2
      go_ret
      exact ⟨by rw [HANS.out]; rfl, HB2.out.trans (HBW.out.mono HB2.out.size)⟩

/-- The records' first error, behind an offset. -/
def bat.chks (last : Int) : Int → List Rec → Int
  | _, [] => 0
  | ahead, r :: rs => if r.off ≤ ahead ∨ last < r.off then 1 else if r.chk ≠ 0 then r.chk else bat.chks last r.off rs
theorem bat.chks_nil (last a : Int) : bat.chks last a [] = 0 := rfl
theorem bat.chks_cons (last a : Int) (r : Rec) (rs : List Rec) : bat.chks last a (r :: rs) = if r.off ≤ a ∨ last < r.off then 1 else if r.chk ≠ 0 then r.chk else bat.chks last r.off rs := rfl
/-- May a batch be? -/
def Bat.check (b : Bat) : Int :=
  if ¬ b.may then 1 else if 100 < b.recs.length then 3 else if bat.chks b.last (b.base - 1) b.recs ≠ 0 then bat.chks b.last (b.base - 1) b.recs else if 65536 < b.size then 3 else 0
theorem Rec.chk_ok {r : Rec} (h : r.chk = 0) : 0 ≤ r.time ∧ r.time ≤ 1125899906842624 ∧ r.key.length ≤ 200 ∧ r.val.length ≤ 2000 := by
  unfold Rec.chk at h
  split at h
  · cases h
  · split at h
    · cases h
    · split at h
      · cases h
      · rename_i h1 _ h3
        omega
theorem bat.chks_ok {last : Int} (hl : last ≤ 4611686018427387904) : ∀ (rs : List Rec) (ahead : Int), -1 ≤ ahead → bat.chks last ahead rs = 0 → ∀ r ∈ rs, r.ok := by
  intro rs
  induction rs with
  | nil => intro _ _ _ r hr; cases hr
  | cons x xs ih =>
    intro ahead ha h r hr
    unfold bat.chks at h
    split at h
    · cases h
    · rename_i h1
      split at h
      · rename_i h2; exact absurd h h2
      · rename_i h2
        have h3 := Rec.chk_ok (r := x) (by omega)
        rcases List.mem_cons.1 hr with rfl | hr
        · exact ⟨h3.1, h3.2.1, by omega, by omega, h3.2.2.1, h3.2.2.2⟩
        · exact ih x.off (by omega) h r hr

set_option maxRecDepth 20000 in
set_option maxHeartbeats 2000000 in
theorem bat.check_any (b : Bat) (A : Option Addr) (c : Nat) (w : World) (hv : RecsV w (.slice A b.recs.length c) b.recs) :
    Calls Try.prog 39 #[b.hval A b.recs.length c] w fun e w' => e = .returned (.int .i64 b.check) ∧ Below w.heap.size w w' := by
  have hpost : ∀ (x : Int), x = b.check → Ending.returned (.int .i64 x) = Ending.returned (.int .i64 b.check) := fun x h => by rw [h]
  have HPOST := Lib.hid hpost; clear hpost
  have hlen : b.recs.length ≤ maxLen := by
    obtain ⟨A', c', V, h, h1, h2, -⟩ := hv
    exact Nat.le_trans h1 h2
  unfold maxLen at hlen
  have HV := Lib.hid hv; clear hv
  have hhd := fun wx => bat.head_any b A b.recs.length c wx
  have HHD := Lib.hid hhd; clear hhd
  have hsz := fun wx (h : Below w.heap.size w wx) (ho : ∀ r ∈ b.recs, r.ok) (hl : b.recs.length ≤ 1000000) hb => bat.size_any b A c wx (HV.out.below h (Nat.le_refl _)) ho hl hb
  have HSZ := Lib.hid hsz; clear hsz
  unfold Bat.hval at *
  go_enter Try.func39, Try.ntmps39
  go_wp2_with fail
  obtain ⟨w1, hw1⟩ : ∃ w1, w1 = w.alloc (.cells #[.int .i64 b.base, .int .i64 b.last, .int .i64 b.prod, .int .i64 b.epoch, .int .i64 b.seq, .slice A b.recs.length c] 42) := ⟨_, rfl⟩
  rw [← hw1]
  have hbk : Blk w1 w.heap.size 42 #[.int .i64 b.base, .int .i64 b.last, .int .i64 b.prod, .int .i64 b.epoch, .int .i64 b.seq, .slice A b.recs.length c] := by rw [hw1]; exact Blk.new _ _ _
  have hb1 : Below w.heap.size w w1 := by rw [hw1]; exact (Below.refl _ w).alloc (Nat.le_refl _) _
  clear hw1
  refine (HHD.out w1).mono ?_
  rintro e w2 ⟨rfl, hb2⟩
  have HBK := Lib.hid ((chg_of (P := fun _ => False) hb2).blk hbk id)
  have HB2 := Lib.hid (hb1.trans (hb2.mono hb1.size)); clear hb1 hb2 hbk
  have c0 : w2.cell? ⟨w.heap.size, 0, none⟩ = some (.int .i64 b.base) := HBK.out.cell 0 rfl
  have c5 : w2.cell? ⟨w.heap.size, 5, none⟩ = some (.slice A b.recs.length c) := HBK.out.cell 5 rfl
  by_cases hm : b.may
  · rw [decide_eq_true hm]
    have hm' := hm
    unfold Bat.may at hm'
    obtain ⟨m0, m1, m2, m3, -⟩ := hm'
    have HM := Lib.hid hm; clear hm
    by_cases h100 : 100 < b.recs.length
    · have hans : (3 : Int) = b.check := by unfold Bat.check; rw [if_neg (fun h => h HM.out), if_pos h100]
      have HANS := Lib.hid hans; clear hans
      go_wp2
      go_ret
      exact ⟨HPOST.out 3 HANS.out, HB2.out⟩
    · go_wp2_with fail
      go_loopw [3, 20] (fun a i wr => ∃ (j : Nat) (ah : Int), j ≤ b.recs.length ∧ i = .int .i64 (j : Int) ∧ a = .int .i64 ah ∧ -1 ≤ ah ∧ ah ≤ 4611686018427387904 ∧ bat.chks b.last (b.base - 1) b.recs = bat.chks b.last ah (b.recs.drop j) ∧ Below w2.heap.size w2 wr) (fun _ i _ => b.recs.length - (intOf i).toNat)
      case atStart => exact ⟨0, b.base - 1, by omega, rfl, rfl, by omega, by omega, rfl, Below.refl _ _⟩
      case round =>
        obtain ⟨j, ah, hj, rfl, rfl, ha0, ha1, hch, hbw⟩ := hrel
        have HBW := Lib.hid hbw; clear hbw
        have HBW2 := Lib.hid (HB2.out.trans (HBW.out.mono HB2.out.size))
        have hbk2 := (chg_of (P := fun _ => False) HBW.out).blk HBK.out id
        have c1 : wr.cell? ⟨w.heap.size, 1, none⟩ = some (.int .i64 b.last) := hbk2.cell 1 rfl
        have hsz2 : w.heap.size < wr.heap.size := hbk2.lt
        have HBK2 := Lib.hid hbk2; clear hbk2
        by_cases hlt : j < b.recs.length
        · obtain ⟨x, hx⟩ : ∃ x, b.recs[j]? = some x := ⟨_, List.getElem?_eq_getElem hlt⟩
          obtain ⟨p, off, c', kv, vv, hA, -, -, hp, d0, d1, d2, d3, d4, d5, hk, hvv, -, -⟩ := (HV.out.below HBW2.out (Nat.le_refl _)).at' hx
          obtain ⟨rfl, rfl⟩ : A = some ⟨p, off, none⟩ ∧ c = c' := by simpa using hA
          obtain ⟨Ak, ck, rfl, -, -, -, -⟩ := hk
          obtain ⟨Av, cv, rfl, -, -, -, -⟩ := hvv
          have hdrop : b.recs.drop j = x :: b.recs.drop (j + 1) := by
            obtain ⟨h1, h2⟩ := List.getElem?_eq_some_iff.1 hx
            rw [← h2, List.drop_eq_getElem_cons h1]
          rw [hdrop, bat.chks_cons] at hch
          clear hdrop hA hx
          have hrc := fun wx => bat.record_any x Ak ck Av cv wx
          unfold Rec.hval at hrc
          have HRC := Lib.hid hrc; clear hrc
          have hans : ∀ z : Int, z ≠ 0 → bat.chks b.last (b.base - 1) b.recs = z → z = b.check := fun z hz h => by
            unfold Bat.check
            rw [if_neg (fun h => h HM.out), if_neg h100, h, if_pos hz]
          have HANS := Lib.hid hans; clear hans
          by_cases ho : x.off ≤ ah
          · rw [if_pos (.inl ho)] at hch
            have HCH := Lib.hid hch; clear hch
            go_wp2
            go_ret
            exact ⟨HPOST.out 1 (HANS.out 1 (by decide) HCH.out), HBW2.out.alloc HBW2.out.size _⟩
          · by_cases ho2 : b.last < x.off
            · rw [if_pos (.inr ho2)] at hch
              have HCH := Lib.hid hch; clear hch
              go_wp2
              go_ret
              exact ⟨HPOST.out 1 (HANS.out 1 (by decide) HCH.out), HBW2.out.alloc HBW2.out.size _⟩
            · rw [if_neg (by omega)] at hch
              have HCH := Lib.hid hch; clear hch
              go_wp2_with fail
              refine (HRC.out _).mono ?_
              rintro e w3 ⟨rfl, hb3⟩
              have hbx := (chg_of (P := fun _ => False) hb3).blk (Blk.new wr 44 #[.int .i64 x.off, .int .i64 x.time, .bool x.hasKey, .slice Ak x.key.length ck, .bool x.hasVal, .slice Av x.val.length cv]) id
              have hb3' : Below w2.heap.size w2 w3 := (HBW.out.alloc HBW.out.size _).trans (hb3.mono (by have := HBW.out.size; simp; omega))
              have o0 : w3.cell? ⟨wr.heap.size, 0, none⟩ = some (.int .i64 x.off) := hbx.cell 0 rfl
              have HB3 := Lib.hid hb3'; clear hb3 hb3' hbx
              by_cases hc : x.chk = 0
              · have HC := Lib.hid hc
                rw [hc]
                clear hc
                go_wp2
                go_roundw
                case rel => exact ⟨j + 1, x.off, by omega, by go_num, rfl, by omega, by omega, by rw [HCH.out, if_neg (by rw [HC.out]; decide)], HB3.out⟩
                case measure => simp [intOf]; omega
              · obtain ⟨E, hE⟩ : ∃ E, E = x.chk := ⟨_, rfl⟩
                rw [← hE] at hc ⊢
                have hd : (E != 0) = true := by simpa using hc
                have HE := Lib.hid (And.intro hE hc); clear hE hc
                go_wp2
                go_ret
                exact ⟨HPOST.out E (HANS.out E HE.out.2 (by rw [HCH.out, if_pos (by rw [← HE.out.1]; exact HE.out.2)]; exact HE.out.1.symm)), HB2.out.trans (HB3.out.mono HB2.out.size)⟩
        · obtain rfl : j = b.recs.length := by omega
          rw [List.drop_length, bat.chks_nil] at hch
          have hok := bat.chks_ok m3 b.recs (b.base - 1) (by omega) hch
          have hans : b.check = if 65536 < b.size then 3 else 0 := by
            unfold Bat.check
            rw [if_neg (fun h => h HM.out), if_neg h100, hch]
            rfl
          have HANS := Lib.hid hans; clear hans hch
          have q0 : wr.cell? ⟨w.heap.size, 0, none⟩ = some (.int .i64 b.base) := HBK2.out.cell 0 rfl
          have q2 : wr.cell? ⟨w.heap.size, 2, none⟩ = some (.int .i64 b.prod) := HBK2.out.cell 2 rfl
          have q3 : wr.cell? ⟨w.heap.size, 3, none⟩ = some (.int .i64 b.epoch) := HBK2.out.cell 3 rfl
          have q4 : wr.cell? ⟨w.heap.size, 4, none⟩ = some (.int .i64 b.seq) := HBK2.out.cell 4 rfl
          have q5 : wr.cell? ⟨w.heap.size, 5, none⟩ = some (.slice A b.recs.length c) := HBK2.out.cell 5 rfl
          have HOK := Lib.hid hok; clear hok
          go_wp2_with fail
          refine (HSZ.out wr HBW2.out HOK.out (by omega) ⟨m0, m1⟩).mono ?_
          rintro e w4 ⟨rfl, hb4⟩
          have HB4 := Lib.hid (HBW2.out.trans (hb4.mono HBW2.out.size)); clear hb4
          by_cases hbig : 65536 < b.size
          · go_wp2
            go_ret
            exact ⟨HPOST.out 3 (by rw [HANS.out, if_pos hbig]), HB4.out⟩
          · go_wp2
            go_ret
            exact ⟨HPOST.out 0 (by rw [HANS.out, if_neg (by omega)]), HB4.out⟩
  · rw [decide_eq_false hm]
    have hans : (1 : Int) = b.check := by unfold Bat.check; rw [if_pos hm]
    have HANS := Lib.hid hans; clear hans hm
    go_wp2
    go_ret
    exact ⟨HPOST.out 1 HANS.out, HB2.out⟩

theorem Bat.check_ok {b : Bat} (h : b.check = 0) : b.may ∧ b.recs.length ≤ 100 ∧ (∀ r ∈ b.recs, r.ok) ∧ b.size ≤ 65536 := by
  unfold Bat.check at h
  by_cases hm : b.may
  · rw [if_neg (fun h => h hm)] at h
    split at h
    · cases h
    · split at h
      · rename_i h2; exact absurd h h2
      · rename_i h1 h2
        split at h
        · cases h
        · exact ⟨hm, by omega, bat.chks_ok hm.2.2.2.1 b.recs (b.base - 1) (by have := hm.1; omega) (by omega), by omega⟩
  · rw [if_pos hm] at h
    cases h

/-- What Size tells. -/
def Bat.sizeof (b : Bat) : Int := if b.check = 0 then b.size else 0
end Go.Proofs.Ytahncanmfjmfnaa

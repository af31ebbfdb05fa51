/- clean.Record: does a record stay? -/
import Derived.Deep.QuietTactic
import Derived.BigQuiet
import Derived.Deep.Cut
import Derived.Test.YtnlfdhoabbbheaaKeyA
import Derived.Test.YtnlfdhoabbbheaaBats
namespace Go.Proofs.Ytnlfdhoabbbheaa
open Go.RowKit Go.Maps
set_option maxRecDepth 100000

/-- Does a record stay, by a map of last offsets? -/
def cl.stays (g : ByteArray → Option Int) (upto now grace : Int) (r : Rec) : Bool :=
  if r.hasKey = false ∨ upto ≤ r.off then true else match g (strOf r.key) with
  | none => true
  | some last => if r.off < last then false else if r.hasVal = false ∧ grace < now - r.time then false else true

set_option maxHeartbeats 1000000 in
theorem cl.older_any (t n a : Int) (w : World) (ht : 0 ≤ t) (ht' : t ≤ 9223372036854775807) (hn : 0 ≤ n) (hn' : n ≤ 9223372036854775807) (ha : 0 ≤ a) (ha' : a ≤ 9223372036854775807) :
    Calls Try.prog 37 #[.int .i64 t, .int .i64 n, .int .i64 a] w fun e w' => e = .returned (.bool (decide (a < n - t))) ∧ w = w' := by
  have h0 : ¬ a < 0 := by omega
  have h0' : decide (a < 0) = false := by simpa using h0
  by_cases hlt : n < t
  · have hd : decide (a < n - t) = false := by simp; omega
    have Hd := Lib.hid hd; clear hd
    go_enter Try.func37, Try.ntmps37
    go_wp2
    go_ret
    exact ⟨by rw [Hd.out]; rfl, rfl⟩
  · go_enter Try.func37, Try.ntmps37
    go_wp2
    go_ret
    exact ⟨rfl, rfl⟩

set_option maxHeartbeats 4000000 in
theorem cl.record_any (r : Rec) (Ak : Option Addr) (ck : Nat) (Av : Option Addr) (nv cv : Nat) (p b : Nat) (most : Int) (N : Nat) (g : ByteArray → Option Int) (upto now grace : Int) (w : World) (h : KM w p b most N g) (hl : r.key.length ≤ maxLen) (hat : At w Ak r.key.length (byteAt r.key))
    (ht : 0 ≤ r.time ∧ r.time ≤ 9223372036854775807) (hn : 0 ≤ now ∧ now ≤ 9223372036854775807) (hg : 0 ≤ grace ∧ grace ≤ 9223372036854775807) :
    Calls Try.prog 16 #[.agg #[.int .i64 r.off, .int .i64 r.time, .bool r.hasKey, .slice Ak r.key.length ck, .bool r.hasVal, .slice Av nv cv], .pointer (some ⟨p, 0, none⟩), .int .i64 upto, .int .i64 now, .int .i64 grace] w
      fun e w' => e = .returned (.bool (cl.stays g upto now grace r)) ∧ Below w.heap.size w w' := by
  obtain ⟨off, time, hk, ky, hv, val⟩ := r
  dsimp only at *
  obtain ⟨ht0, ht1⟩ := ht
  obtain ⟨hn0, hn1⟩ := hn
  obtain ⟨hg0, hg1⟩ := hg
  have hlast := fun (wx : World) (hb : Below w.heap.size w wx) => key.last_any p b most N g Ak ck ky wx (h.keep hb) hl (hat.below hb (Nat.le_refl _))
  have hold := fun wx => cl.older_any time now grace wx ht0 ht1 hn0 hn1 hg0 hg1
  obtain ⟨R, hR⟩ : ∃ R, R = cl.stays g upto now grace (⟨off, time, hk, ky, hv, val⟩ : Rec) := ⟨_, rfl⟩
  rw [← hR]
  unfold cl.stays at hR
  dsimp only at hR
  generalize g (strOf ky) = G at *
  have HR := Lib.hid hR; clear hR
  have HLAST := Lib.hid hlast; clear hlast h hat hl
  have HOLD := Lib.hid hold; clear hold
  generalize ky.length = nk at *
  obtain ⟨w1, hw1⟩ : ∃ w1, w1 = w.alloc (.cells #[.int .i64 off, .int .i64 time, .bool hk, .slice Ak nk ck, .bool hv, .slice Av nv cv] 34) := ⟨_, rfl⟩
  have hbk : Blk w1 w.heap.size 34 #[.int .i64 off, .int .i64 time, .bool hk, .slice Ak nk ck, .bool hv, .slice Av nv cv] := by rw [hw1]; exact Blk.new _ _ _
  have hb1 : Below w.heap.size w w1 := by rw [hw1]; exact (Below.refl _ w).alloc (Nat.le_refl _) _
  have hlt1 : w.heap.size < w1.heap.size := hbk.lt
  have c0 : ∀ q, (w1.drewN q).cell? ⟨w.heap.size, 0, none⟩ = some (.int .i64 off) := fun _ => hbk.cell 0 rfl
  have c1 : ∀ q, (w1.drewN q).cell? ⟨w.heap.size, 1, none⟩ = some (.int .i64 time) := fun _ => hbk.cell 1 rfl
  have c2 : ∀ q, (w1.drewN q).cell? ⟨w.heap.size, 2, none⟩ = some (.bool hk) := fun _ => hbk.cell 2 rfl
  have c3 : ∀ q, (w1.drewN q).cell? ⟨w.heap.size, 3, none⟩ = some (.slice Ak nk ck) := fun _ => hbk.cell 3 rfl
  have c4 : ∀ q, (w1.drewN q).cell? ⟨w.heap.size, 4, none⟩ = some (.bool hv) := fun _ => hbk.cell 4 rfl
  have e0 : w1.cell? ⟨w.heap.size, 0, none⟩ = some (.int .i64 off) := hbk.cell 0 rfl
  have e2 : w1.cell? ⟨w.heap.size, 2, none⟩ = some (.bool hk) := hbk.cell 2 rfl
  have e3 : w1.cell? ⟨w.heap.size, 3, none⟩ = some (.slice Ak nk ck) := hbk.cell 3 rfl
  have HB1 := Lib.hid hb1; clear hb1 hbk
  have HW1 := Lib.hid hw1; clear hw1
  go_enter Try.func16, Try.ntmps16
  go_upto_region 1 with fail
  rw [← HW1.out]
  clear HW1
  cases hk with
  | false =>
    have hr : R = true := by rw [HR.out, if_pos (Or.inl rfl)]
    subst hr
    go_wp2_with fail
    go_ret
    exact ⟨rfl, HB1.out⟩
  | true =>
    by_cases hup : upto ≤ off
    · have hr : R = true := by rw [HR.out, if_pos (Or.inr hup)]
      subst hr
      go_wp2_with fail
      go_ret
      exact ⟨rfl, HB1.out⟩
    · have hr0 := HR.out
      rw [if_neg (by rintro (h | h); cases h; exact hup h)] at hr0
      have HR0 := Lib.hid hr0; clear hr0 HR
      go_wp2_with fail
      refine (HLAST.out w1 HB1.out).mono ?_
      rintro e w2 ⟨rfl, q, rfl⟩
      have HB2 := Lib.hid (bdrew HB1.out q); clear HB1 HLAST e0 e2 e3
      cases G with
      | none =>
        have hr : R = true := HR0.out
        subst hr
        dsimp only [Option.getD, Option.isSome]
        go_wp2_with fail
        go_ret
        exact ⟨rfl, HB2.out⟩
      | some last =>
        dsimp only [Option.getD, Option.isSome]
        have hr1 : R = if off < last then false else if hv = false ∧ grace < now - time then false else true := HR0.out
        have HR1 := Lib.hid hr1; clear hr1 HR0
        by_cases hlo : off < last
        · have hr : R = false := by rw [HR1.out, if_pos hlo]
          subst hr
          go_wp2_with fail
          go_ret
          exact ⟨rfl, HB2.out⟩
        · cases hv with
          | true =>
            have hr : R = true := by rw [HR1.out, if_neg hlo, if_neg (by rintro ⟨h, -⟩; cases h)]
            subst hr
            go_wp2_with fail
            go_ret
            exact ⟨rfl, HB2.out⟩
          | false =>
            by_cases hgr : grace < now - time
            · have hr : R = false := by rw [HR1.out, if_neg hlo, if_pos ⟨rfl, hgr⟩]
              subst hr
              go_wp2_with fail
              refine (HOLD.out _).mono ?_
              rintro e w3 ⟨rfl, rfl⟩
              go_wp2_with fail
              go_ret
              exact ⟨rfl, HB2.out⟩
            · have hr : R = true := by rw [HR1.out, if_neg hlo, if_neg fun h => hgr h.2]
              subst hr
              go_wp2_with fail
              refine (HOLD.out _).mono ?_
              rintro e w3 ⟨rfl, rfl⟩
              go_wp2_with fail
              go_ret
              exact ⟨rfl, HB2.out⟩
end Go.Proofs.Ytnlfdhoabbbheaa

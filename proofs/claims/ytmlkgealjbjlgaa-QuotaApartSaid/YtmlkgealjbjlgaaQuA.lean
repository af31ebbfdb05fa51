/- Contracts of package quota: New, gained, keep, has. -/
import Derived.Test.YtmlkgealjbjlgaaMapS
import Derived.BigQuiet
namespace Go.Proofs.Ytmlkgealjbjlgaa
open Go.RowKit Go.Maps

/-- A quota at p, its map at b: rate r, burst B, most m, the time t, N clients, what they have g. -/
structure QM (w : World) (p b : Nat) (r B m t : Int) (N : Nat) (g : ByteArray → Option Int) : Prop where
  blk : Blk w p 94 #[.int .i64 r, .int .i64 B, .int .i64 m, .int .i64 t, .map (some b)]
  map : SM w b N g
/-- What is so between calls. -/
structure QOk (r B m t : Int) (g : ByteArray → Option Int) : Prop where
  r0 : 0 ≤ r
  r1 : r ≤ 1073741824
  b0 : 1 ≤ B
  b1 : B ≤ 1099511627776
  m0 : 1 ≤ m
  m1 : m ≤ 1000
  t0 : 0 ≤ t
  t1 : t ≤ 1125899906842624
  ok : ∀ s c, g s = some c → 0 ≤ c ∧ c < B
theorem QM.ne {w : World} {p b : Nat} {r B m t : Int} {N : Nat} {g : ByteArray → Option Int} (h : QM w p b r B m t N g) : p ≠ b := h.map.not_blk h.blk
theorem QM.below {w w' : World} {p b X : Nat} {r B m t : Int} {N : Nat} {g : ByteArray → Option Int} (h : QM w p b r B m t N g) (hb : Below X w w') (h1 : p < X) (h2 : b < X) : QM w' p b r B m t N g :=
  ⟨(hb.block p h1).trans h.blk, h.map.below hb h2⟩
theorem QM.keep {w w' : World} {p b : Nat} {r B m t : Int} {N : Nat} {g : ByteArray → Option Int} (h : QM w p b r B m t N g) (hb : Below w.heap.size w w') : QM w' p b r B m t N g := h.below hb h.blk.lt h.map.lt
theorem QM.drew {w : World} {p b : Nat} {r B m t : Int} {N : Nat} {g : ByteArray → Option Int} (h : QM w p b r B m t N g) (q : Nat) : QM (w.drewN q) p b r B m t N g := ⟨h.blk, h.map.drew q⟩
/-- Only the quota's two blocks may turn. -/
def quT (p b : Nat) : Nat → Prop := fun k => k = p ∨ k = b

def qu.NewPost (w : World) (r B m : Int) (e : Ending) (w' : World) : Prop :=
  (∃ p b, e = .returned (.tuple #[.pointer (some ⟨p, 0, none⟩), .int .i64 0]) ∧ QM w' p b r B m 0 0 (fun _ => none) ∧ w.heap.size ≤ p ∧ w.heap.size ≤ b) ∧ Below w.heap.size w w'
set_option maxRecDepth 20000 in
theorem qu.new_any (r B m : Int) (w : World) (hr : 0 ≤ r ∧ r ≤ 1073741824) (hB : 1 ≤ B ∧ B ≤ 1099511627776) (hm : 1 ≤ m ∧ m ≤ 1000) :
    Calls Try.prog 27 #[.int .i64 r, .int .i64 B, .int .i64 m] w (qu.NewPost w r B m) := by
  have h1 : ¬ r < 0 := by omega
  have h2 : ¬ 1073741824 < r := by omega
  have h3 : ¬ B < 1 := by omega
  have h4 : ¬ 1099511627776 < B := by omega
  have h5 : ¬ m < 1 := by omega
  have h6 : ¬ 1000 < m := by omega
  have hmm := @run_makeMap Try.prog
  go_enter Try.func27, Try.ntmps27
  go_wp2
  go_ret2
  refine ⟨⟨_, _, rfl, ⟨by simpa using Blk.new (w.alloc (.map #[] 0)) 94 #[.int .i64 r, .int .i64 B, .int .i64 m, .int .i64 0, .map (some w.heap.size)], (SM.made w).of_block ?_⟩, ?_, Nat.le_refl _⟩, ((Below.refl _ w).alloc (Nat.le_refl _) _).alloc ?_ _⟩
  · exact Below.heap_alloc _ _ _ (by simp)
  · simp
  · simp
set_option maxRecDepth 20000 in
/-- A burst of 0 is refused. -/
theorem qu.new_bad (r m : Int) (w : World) (hr : 0 ≤ r ∧ r ≤ 1073741824) :
    Calls Try.prog 27 #[.int .i64 r, .int .i64 0, .int .i64 m] w fun e w' => e = .returned (.tuple #[.pointer none, .int .i64 1]) ∧ w' = w := by
  have h1 : ¬ r < 0 := by omega
  have h2 : ¬ 1073741824 < r := by omega
  go_enter Try.func27, Try.ntmps27
  go_wp2
  go_ret2
  exact ⟨rfl, rfl⟩

/-- What is left, and what has come in ticks at a rate: never more than the burst. -/
def qu.gain (r B left ticks : Int) : Int := min B (left + ticks * r)
theorem qu.gain_more (r B left ticks : Int) (hr : 0 < r) (h : (B - left).tdiv r < ticks) (hl : 0 ≤ B - left) : qu.gain r B left ticks = B := by
  unfold qu.gain
  rw [Int.tdiv_eq_ediv_of_nonneg hl] at h
  have := Int.lt_mul_of_ediv_lt hr h
  omega
theorem qu.gain_less (r B left ticks : Int) (hr : 0 < r) (h : ¬ (B - left).tdiv r < ticks) (hl : 0 ≤ B - left) : qu.gain r B left ticks = left + ticks * r ∧ left + ticks * r ≤ B := by
  unfold qu.gain
  rw [Int.tdiv_eq_ediv_of_nonneg hl] at h
  have h1 := Int.mul_le_of_le_ediv hr (show ticks ≤ (B - left) / r by omega)
  omega

set_option maxRecDepth 20000 in
theorem qu.gained_any (p b : Nat) (r B m t : Int) (N : Nat) (g : ByteArray → Option Int) (left ticks : Int) (w : World) (h : QM w p b r B m t N g) (hr : 0 ≤ r ∧ r ≤ 1073741824) (hB : 1 ≤ B ∧ B ≤ 1099511627776) (hl : 0 ≤ left ∧ left ≤ B) (ht : 0 ≤ ticks ∧ ticks ≤ 1125899906842624) :
    Calls Try.prog 56 #[.pointer (some ⟨p, 0, none⟩), .int .i64 left, .int .i64 ticks] w fun e w' => e = .returned (.int .i64 (qu.gain r B left ticks)) ∧ ∃ q, w' = w.drewN q := by
  have c0 := h.blk.cell 0 (v := .int .i64 r) rfl
  have c1 := h.blk.cell 1 (v := .int .i64 B) rfl
  clear h
  by_cases hr0 : r = 0
  · have hg : qu.gain r B left ticks = left := by unfold qu.gain; rw [hr0, Int.mul_zero]; omega
    have HG := Lib.hid hg; clear hg
    go_enter Try.func56, Try.ntmps56
    go_wp2
    go_ret
    exact ⟨by rw [HG.out]; rfl, 0, rfl⟩
  · have hd0 : 0 ≤ (B - left).tdiv r := by rw [Int.tdiv_eq_ediv_of_nonneg (by omega)]; exact Int.ediv_nonneg (by omega) hr.1
    have hd1 : (B - left).tdiv r ≤ B - left := by rw [Int.tdiv_eq_ediv_of_nonneg (by omega)]; exact Int.ediv_le_self _ (by omega)
    by_cases hgt : (B - left).tdiv r < ticks
    · have HG := Lib.hid (qu.gain_more r B left ticks (by omega) hgt (by omega))
      go_enter Try.func56, Try.ntmps56
      go_wp2_with fail
      go_quiet (fail)
      go_wp2
      go_ret
      exact ⟨by rw [HG.out]; rfl, _, rfl⟩
    · obtain ⟨hg, hg2⟩ := qu.gain_less r B left ticks (by omega) hgt (by omega)
      have HG := Lib.hid hg; clear hg
      have hm0 : 0 ≤ ticks * r := Int.mul_nonneg ht.1 hr.1
      go_enter Try.func56, Try.ntmps56
      go_wp2_with fail
      go_quiet (fail)
      go_wp2
      go_ret
      exact ⟨by rw [HG.out]; rfl, _, rfl⟩

/-- What keep leaves. -/
def qu.set (B : Int) (g : ByteArray → Option Int) (s : ByteArray) (left : Int) : ByteArray → Option Int := fun u => if u = s then (if left = B then none else some left) else g u
def qu.cnt (B : Int) (N : Nat) (g : ByteArray → Option Int) (s : ByteArray) (left : Int) : Nat := if left = B then (if (g s).isSome then N - 1 else N) else if (g s).isSome then N else N + 1

set_option maxRecDepth 20000 in
theorem qu.keep_any (p b : Nat) (r B m t : Int) (N : Nat) (g : ByteArray → Option Int) (s : ByteArray) (left : Int) (w : World) (h : QM w p b r B m t N g) (hs : s.size ≤ maxLen) (hl : 0 ≤ left ∧ left ≤ 1099511627776) (hN : N < 1000000) :
    Calls Try.prog 45 #[.pointer (some ⟨p, 0, none⟩), .string s, .int .i64 left] w fun e w' => e = .returned (.tuple #[]) ∧ QM w' p b r B m t (qu.cnt B N g s left) (qu.set B g s left) ∧ Chg w w' (quT p b) ∧ w'.heap.size = w.heap.size := by
  have c1 := h.blk.cell 1 (v := .int .i64 B) rfl
  have c4 := h.blk.cell 4 (v := .map (some b)) rfl
  have hpb := h.ne
  by_cases e : left = B
  · obtain ⟨w2, hrun, hm, hch, hsz⟩ := h.map.drop s hs 0
    have H := Lib.hid h; clear h
    have HM := Lib.hid hm; clear hm
    go_enter Try.func45, Try.ntmps45
    go_wp2
    (try simp only [Exit.inBlock, Exit.then])
    refine bodyPost_ret (results_none rfl _ _ _) rfl ?_
    refine ⟨rfl, ⟨hch.blk H.out.blk hpb, ?_⟩, hch.mono fun _ _ h => Or.inr h, hsz⟩
    have hm := HM.out
    have e1 : qu.cnt B N g s left = if (g s).isSome = true then N - 1 else N := by unfold qu.cnt; rw [if_pos e]
    have e2 : qu.set B g s left = fun u => if u = s then none else g u := by unfold qu.set; rw [if_pos e]
    rw [e1, e2]
    exact hm
  · obtain ⟨w2, hrun, hm, hch, hsz⟩ := h.map.store s hs left (by omega) (by unfold maxLen; omega)
    have H := Lib.hid h; clear h
    have HM := Lib.hid hm; clear hm
    go_enter Try.func45, Try.ntmps45
    go_wp2
    go_end0
    refine ⟨rfl, ⟨hch.blk H.out.blk hpb, ?_⟩, hch.mono fun _ _ h => Or.inr h, hsz⟩
    have hm := HM.out
    have e1 : qu.cnt B N g s left = if (g s).isSome = true then N else N + 1 := by unfold qu.cnt; rw [if_neg e]
    have e2 : qu.set B g s left = upd g s left := by unfold qu.set upd; simp only [if_neg e]
    rw [e1, e2]
    exact hm

set_option maxRecDepth 20000 in
theorem qu.has_any (p b : Nat) (r B m t : Int) (N : Nat) (g : ByteArray → Option Int) (s : ByteArray) (w : World) (h : QM w p b r B m t N g) (hs : s.size ≤ maxLen) :
    Calls Try.prog 44 #[.pointer (some ⟨p, 0, none⟩), .string s] w fun e w' => e = .returned (.tuple #[.int .i64 ((g s).getD B), .bool (g s).isSome]) ∧ w' = w := by
  have c1 := h.blk.cell 1 (v := .int .i64 B) rfl
  have c4 := h.blk.cell 4 (v := .map (some b)) rfl
  have hlook := h.map.look s hs
  clear h
  cases hg : g s with
  | none =>
    rw [hg] at hlook
    clear hg
    simp only [Option.getD_none, Option.isSome_none] at hlook ⊢
    go_enter Try.func44, Try.ntmps44
    go_wp2
    go_ret2
    exact ⟨rfl, rfl⟩
  | some c =>
    rw [hg] at hlook
    clear hg
    simp only [Option.getD_some, Option.isSome_some] at hlook ⊢
    go_enter Try.func44, Try.ntmps44
    go_wp2
    go_ret2
    exact ⟨rfl, rfl⟩
end Go.Proofs.Ytmlkgealjbjlgaa

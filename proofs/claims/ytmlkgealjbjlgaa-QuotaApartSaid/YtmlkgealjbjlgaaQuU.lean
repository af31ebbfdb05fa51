/- Contracts of quota.Use, Left, Wait. -/
import Derived.Test.YtmlkgealjbjlgaaQuP
namespace Go.Proofs.Ytmlkgealjbjlgaa
open Go.RowKit Go.Maps

def qu.UsePost (w : World) (p b : Nat) (r B m t : Int) (N : Nat) (g : ByteArray → Option Int) (s : ByteArray) (n now : Int) (e : Ending) (w' : World) : Prop :=
  ∃ N', N' ≤ N ∧ Chg w w' (quT p b) ∧
    ((n < 0 ∧ e = .returned (.int .i64 1) ∧ QM w' p b r B m (qu.to t now) N' (qu.after r B (qu.to t now - t) g)) ∨
      (n = 0 ∧ e = .returned (.int .i64 0) ∧ QM w' p b r B m (qu.to t now) N' (qu.after r B (qu.to t now - t) g)) ∨
      (0 < n ∧ ((qu.after r B (qu.to t now - t) g s).getD B < n ∨ (qu.after r B (qu.to t now - t) g s = none ∧ m ≤ N')) ∧ e = .returned (.int .i64 15) ∧ QM w' p b r B m (qu.to t now) N' (qu.after r B (qu.to t now - t) g)) ∨
      (0 < n ∧ n ≤ (qu.after r B (qu.to t now - t) g s).getD B ∧ (qu.after r B (qu.to t now - t) g s = none → (N' : Int) < m) ∧ e = .returned (.int .i64 0) ∧
        QM w' p b r B m (qu.to t now) (qu.cnt B N' (qu.after r B (qu.to t now - t) g) s ((qu.after r B (qu.to t now - t) g s).getD B - n)) (qu.set B (qu.after r B (qu.to t now - t) g) s ((qu.after r B (qu.to t now - t) g s).getD B - n))))

set_option maxRecDepth 20000 in
set_option maxHeartbeats 2000000 in
theorem qu.use_any (p b : Nat) (r B m t : Int) (N : Nat) (g : ByteArray → Option Int) (s : ByteArray) (n now : Int) (w : World) (h : QM w p b r B m t N g) (ok : QOk r B m t g) (hN : N ≤ 1000) (hs : s.size ≤ maxLen)
    (hn : -9223372036854775808 ≤ n ∧ n ≤ 9223372036854775807) (hnow : -9223372036854775808 ≤ now ∧ now ≤ 9223372036854775807) :
    Calls Try.prog 28 #[.pointer (some ⟨p, 0, none⟩), .string s, .int .i64 n, .int .i64 now] w (qu.UsePost w p b r B m t N g s n now) := by
  have hb0 := ok.b0
  have hb1 := ok.b1
  have hm1 := ok.m1
  have OK := Lib.hid (ok.after now)
  have H := Lib.hid h
  have hp := qu.pass_any p b r B m t now N g w h ok hN hnow
  clear h ok
  unfold qu.PassPost at hp
  go_enter Try.func28, Try.ntmps28
  go_wp2_with fail
  refine hp.mono ?_
  clear hp
  rintro e w1 ⟨rfl, N', hq, hN', hch⟩
  have HPOST := Lib.hid (fun (e : Ending) (w' : World) (h : _) => (show qu.UsePost w p b r B m t N g s n now e w' from ⟨N', hN', h⟩))
  generalize qu.after r B (qu.to t now - t) g = g1 at *
  generalize qu.to t now = t1 at *
  have HCH := Lib.hid hch; clear hch
  have HQ := Lib.hid hq
  by_cases hn0 : n < 0
  · clear hq
    go_wp2_with fail
    go_ret
    exact HPOST.out _ _ ⟨HCH.out, .inl ⟨hn0, rfl, HQ.out⟩⟩
  by_cases hn1 : n = 0
  · clear hq
    go_wp2_with fail
    go_ret
    exact HPOST.out _ _ ⟨HCH.out, .inr (.inl ⟨hn1, rfl, HQ.out⟩)⟩
  have hc4 := hq.blk.cell 4 (v := .map (some b)) rfl
  have hc2 := hq.blk.cell 2 (v := .int .i64 m) rfl
  have hlen := fun q => (hq.map.drew q).len
  clear hq
  go_wp2_with fail
  refine (qu.has_any p b r B m t1 N' g1 s w1 HQ.out hs).mono ?_
  rintro e w' ⟨rfl, rfl⟩
  have hgb : 0 ≤ (g1 s).getD B ∧ (g1 s).getD B ≤ B := by
    cases hg : g1 s with
    | none => simp only [Option.getD_none]; omega
    | some c => have := OK.out.ok s c hg; simp only [Option.getD_some]; omega
  by_cases hlt : (g1 s).getD B < n
  · have HL := Lib.hid hlt
    generalize (g1 s).getD B = left at hlt hgb ⊢
    generalize (g1 s).isSome = known
    go_wp2_with fail
    go_quiet (fail)
    go_wp2
    go_ret
    exact HPOST.out _ _ ⟨HCH.out.drewN _, .inr (.inr (.inl ⟨by omega, .inl HL.out, rfl, HQ.out.drew _⟩))⟩
  cases hg : g1 s with
  | none =>
    have HG := Lib.hid hg
    rw [hg] at hlt hgb
    simp only [Option.getD_none, Option.isSome_none] at hlt hgb ⊢
    clear hg
    by_cases hfull : m ≤ (N' : Int)
    · have HF := Lib.hid hfull
      go_wp2_with fail
      go_quiet (fail)
      go_wp2
      go_ret
      exact HPOST.out _ _ ⟨HCH.out.drewN _, .inr (.inr (.inl ⟨by omega, .inr ⟨HG.out, HF.out⟩, rfl, HQ.out.drew _⟩))⟩
    · go_wp2_with fail
      go_quiet (fail)
      go_wp2_with fail
      refine (qu.keep_any p b r B m t1 N' g1 s (B - n) _ (HQ.out.drew _) hs (by omega) (by omega)).mono ?_
      rintro e w2 ⟨rfl, hq2, hch2, -⟩
      have HQ2 := Lib.hid hq2; clear hq2
      have HCH2 := Lib.hid (HCH.out.trans (((Chg.refl w' (quT p b)).drewN _).trans hch2 fun _ _ h => h) fun _ _ h => h); clear hch2
      go_wp2_with fail
      go_ret
      refine HPOST.out _ _ ⟨HCH2.out, .inr (.inr (.inr ⟨by omega, ?_, fun _ => by omega, rfl, ?_⟩))⟩
      · rw [HG.out]; simp only [Option.getD_none]; omega
      · rw [HG.out]; exact HQ2.out
  | some c =>
    have HG := Lib.hid hg
    rw [hg] at hlt hgb
    simp only [Option.getD_some, Option.isSome_some] at hlt hgb ⊢
    clear hg hlen hc4 hc2
    go_wp2_with fail
    have hd : decide (c < n) = false := decide_eq_false (by omega)
    go_quiet (fail)
    clear hd
    go_wp2_with fail
    refine (qu.keep_any p b r B m t1 N' g1 s (c - n) _ (HQ.out.drew _) hs (by omega) (by omega)).mono ?_
    rintro e w2 ⟨rfl, hq2, hch2, -⟩
    have HQ2 := Lib.hid hq2; clear hq2
    have HCH2 := Lib.hid (HCH.out.trans (((Chg.refl w' (quT p b)).drewN _).trans hch2 fun _ _ h => h) fun _ _ h => h); clear hch2
    go_wp2_with fail
    go_ret
    refine HPOST.out _ _ ⟨HCH2.out, .inr (.inr (.inr ⟨by omega, ?_, fun h => ?_, rfl, ?_⟩))⟩
    · rw [HG.out]; simp only [Option.getD_some]; omega
    · rw [HG.out] at h; cases h
    · rw [HG.out]; exact HQ2.out

def qu.LeftPost (w : World) (p b : Nat) (r B m t : Int) (N : Nat) (g : ByteArray → Option Int) (s : ByteArray) (now : Int) (e : Ending) (w' : World) : Prop :=
  e = .returned (.int .i64 ((qu.after r B (qu.to t now - t) g s).getD B)) ∧ qu.PassPost w p b r B m t now N g w'
set_option maxRecDepth 20000 in
theorem qu.left_any (p b : Nat) (r B m t : Int) (N : Nat) (g : ByteArray → Option Int) (s : ByteArray) (now : Int) (w : World) (h : QM w p b r B m t N g) (ok : QOk r B m t g) (hN : N ≤ 1000) (hs : s.size ≤ maxLen)
    (hnow : -9223372036854775808 ≤ now ∧ now ≤ 9223372036854775807) :
    Calls Try.prog 30 #[.pointer (some ⟨p, 0, none⟩), .string s, .int .i64 now] w (qu.LeftPost w p b r B m t N g s now) := by
  have hp := qu.pass_any p b r B m t now N g w h ok hN hnow
  clear h ok
  go_enter Try.func30, Try.ntmps30
  go_wp2_with fail
  refine hp.mono ?_
  clear hp
  rintro e w1 ⟨rfl, hpost⟩
  have hpo := fun (en : Ending) (w' : World) (hp : qu.PassPost w p b r B m t now N g w') (he : en = .returned (.int .i64 ((qu.after r B (qu.to t now - t) g s).getD B))) => (show qu.LeftPost w p b r B m t N g s now en w' from ⟨he, hp⟩)
  have HPO := Lib.hid hpo; clear hpo
  have HP := Lib.hid hpost
  obtain ⟨N', hq, hN', hch⟩ := hpost
  clear hch
  generalize qu.after r B (qu.to t now - t) g = g1 at *
  have HQ := Lib.hid hq; clear hq
  go_wp2_with fail
  refine (qu.has_any p b r B m _ N' g1 s w1 HQ.out hs).mono ?_
  rintro e w' ⟨rfl, rfl⟩
  go_wp2_with fail
  go_ret
  exact HPO.out _ _ HP.out rfl

/-- What Wait answers, of what is left. -/
def qu.wait (r B left n : Int) : Int × Bool := if n < 0 ∨ B < n then (0, false) else if n ≤ left then (0, true) else if r = 0 then (0, false) else ((n - left + r - 1).tdiv r, true)
def qu.WaitPost (w : World) (p b : Nat) (r B m t : Int) (N : Nat) (g : ByteArray → Option Int) (s : ByteArray) (n now : Int) (e : Ending) (w' : World) : Prop :=
  e = .returned (.tuple #[.int .i64 (qu.wait r B ((qu.after r B (qu.to t now - t) g s).getD B) n).1, .bool (qu.wait r B ((qu.after r B (qu.to t now - t) g s).getD B) n).2]) ∧ qu.PassPost w p b r B m t now N g w'
set_option maxRecDepth 20000 in
set_option maxHeartbeats 1000000 in
theorem qu.wait_any (p b : Nat) (r B m t : Int) (N : Nat) (g : ByteArray → Option Int) (s : ByteArray) (n now : Int) (w : World) (h : QM w p b r B m t N g) (ok : QOk r B m t g) (hN : N ≤ 1000) (hs : s.size ≤ maxLen)
    (hn : -9223372036854775808 ≤ n ∧ n ≤ 9223372036854775807) (hnow : -9223372036854775808 ≤ now ∧ now ≤ 9223372036854775807) :
    Calls Try.prog 29 #[.pointer (some ⟨p, 0, none⟩), .string s, .int .i64 n, .int .i64 now] w (qu.WaitPost w p b r B m t N g s n now) := by
  have hb0 := ok.b0
  have hb1 := ok.b1
  have hr0 := ok.r0
  have hr1 := ok.r1
  have OK := Lib.hid (ok.after now)
  have hp := qu.pass_any p b r B m t now N g w h ok hN hnow
  clear h ok
  go_enter Try.func29, Try.ntmps29
  go_wp2_with fail
  refine hp.mono ?_
  clear hp
  rintro e w1 ⟨rfl, hpost⟩
  have hpo := fun (en : Ending) (w' : World) (hp : qu.PassPost w p b r B m t now N g w') (he : en = .returned (.tuple #[.int .i64 (qu.wait r B ((qu.after r B (qu.to t now - t) g s).getD B) n).1, .bool (qu.wait r B ((qu.after r B (qu.to t now - t) g s).getD B) n).2])) => (show qu.WaitPost w p b r B m t N g s n now en w' from ⟨he, hp⟩)
  have HPO := Lib.hid hpo; clear hpo
  have HP := Lib.hid hpost
  obtain ⟨N', hq, hN', hch⟩ := hpost
  clear hch
  generalize qu.after r B (qu.to t now - t) g = g1 at *
  generalize qu.to t now = t1 at *
  have c0 := hq.blk.cell 0 (v := .int .i64 r) rfl
  have c1 := hq.blk.cell 1 (v := .int .i64 B) rfl
  have HQ := Lib.hid hq; clear hq
  go_wp2_with fail
  refine (qu.has_any p b r B m _ N' g1 s w1 HQ.out hs).mono ?_
  rintro e w' ⟨rfl, rfl⟩
  have hgb : 0 ≤ (g1 s).getD B ∧ (g1 s).getD B ≤ B := by
    cases hg : g1 s with
    | none => simp only [Option.getD_none]; omega
    | some c => have := OK.out.ok s c hg; simp only [Option.getD_some]; omega
  generalize (g1 s).getD B = left at *
  generalize (g1 s).isSome = known
  by_cases h1 : n < 0
  · have HW := Lib.hid (show qu.wait r B left n = (0, false) from if_pos (.inl h1))
    go_wp2_with fail
    go_ret2
    exact HPO.out _ _ HP.out (by rw [HW.out]; rfl)
  by_cases h2 : B < n
  · have HW := Lib.hid (show qu.wait r B left n = (0, false) from if_pos (.inr h2))
    go_wp2_with fail
    go_ret2
    exact HPO.out _ _ HP.out (by rw [HW.out]; rfl)
  by_cases h3 : n ≤ left
  · have HW := Lib.hid (show qu.wait r B left n = (0, true) by unfold qu.wait; rw [if_neg (by omega), if_pos h3])
    go_wp2_with fail
    go_ret2
    exact HPO.out _ _ HP.out (by rw [HW.out]; rfl)
  by_cases h4 : r = 0
  · have HW := Lib.hid (show qu.wait r B left n = (0, false) by unfold qu.wait; rw [if_neg (by omega), if_neg h3, if_pos h4])
    go_wp2_with fail
    go_ret2
    exact HPO.out _ _ HP.out (by rw [HW.out]; rfl)
  have HW := Lib.hid (show qu.wait r B left n = ((n - left + r - 1).tdiv r, true) by unfold qu.wait; rw [if_neg (by omega), if_neg h3, if_neg h4])
  have hd0 : 0 ≤ (n - left + r - 1).tdiv r := by rw [Int.tdiv_eq_ediv_of_nonneg (by omega)]; exact Int.ediv_nonneg (by omega) hr0
  have hd1 : (n - left + r - 1).tdiv r ≤ n - left + r - 1 := by rw [Int.tdiv_eq_ediv_of_nonneg (by omega)]; exact Int.ediv_le_self _ (by omega)
  have hpq : ∀ q, qu.PassPost w p b r B m t now N g (w'.drewN q) := fun q => by
    obtain ⟨N2, h1, h2, h3⟩ := HP.out
    exact ⟨N2, h1.drew q, h2, h3.drewN q⟩
  have HPQ := Lib.hid hpq; clear hpq
  go_wp2_with fail
  go_quiet (fail)
  go_wp2
  go_ret2
  exact HPO.out _ _ (HPQ.out _) (by rw [HW.out]; rfl)
end Go.Proofs.Ytmlkgealjbjlgaa

/- pick: the next pick as a number from 0 to most. -/
import Derived.Test.YthffkbcjidbdaaaDkI
namespace Go.Proofs.Ythffkbcjidbdaaa
open Go.RowKit Go.Maps
set_option maxRecDepth 100000

/-- The next pick, and the picks behind it. -/
def dk.pick (L : List Int) (most : Int) : Int × List Int := match L with
  | [] => (0, [])
  | x :: L => (if x.tmod (most + 1) < 0 then x.tmod (most + 1) + (most + 1) else x.tmod (most + 1), L)
/-- Picks, as they lie. -/
def dk.Picks (w : World) (A : Option Addr) (n c : Nat) (L : List Int) : Prop := At w A n (fun j => .int .i64 (L.getD j 0)) ∧ L.length = n ∧ n ≤ c ∧ c ≤ maxLen ∧ ∀ x ∈ L, -9223372036854775808 ≤ x ∧ x ≤ 9223372036854775807
theorem dk.Picks.chg {w w' : World} {A : Option Addr} {n c : Nat} {L : List Int} {P : Nat → Prop} (h : dk.Picks w A n c L) (hc : Chg w w' P) (hp : ∀ k, P k → w.heap.size ≤ k) : dk.Picks w' A n c L :=
  ⟨fun hn => by
    obtain ⟨b, off, e, hb, h0⟩ := h.1 hn
    exact hc.at' h.1 (fun _ b2 o2 e2 hh => by
      rw [e] at e2
      obtain rfl : b = b2 := by simpa using congrArg (fun o => o.map Addr.block) e2
      have := hp _ hh
      omega) hn, h.2⟩
theorem dk.pick_le {L : List Int} {most : Int} (h : 0 ≤ most) : 0 ≤ (dk.pick L most).1 ∧ (dk.pick L most).1 ≤ most := by
  cases L with
  | nil => exact ⟨Int.le_refl _, h⟩
  | cons x L =>
    have h1 := Int.tmod_lt_of_pos x (show 0 < most + 1 by omega)
    have h2 : -(most + 1) < x.tmod (most + 1) := Int.lt_tmod_of_pos x (by omega)
    unfold dk.pick
    dsimp only
    split <;> constructor <;> omega
set_option maxHeartbeats 2000000 in
theorem disk.pick_any (A : Option Addr) (n c : Nat) (L : List Int) (most : Int) (w : World) (h : dk.Picks w A n c L) (hm : 0 ≤ most ∧ most ≤ 4611686018427387904) : Calls Try.prog 47 #[.slice A n c, .int .i64 most] w fun e w' => ∃ A' n' c', e = .returned (.tuple #[.int .i64 (dk.pick L most).1, .slice A' n' c']) ∧ (∀ v, dk.Picks v A n c L → dk.Picks v A' n' c' (dk.pick L most).2) ∧ Chg w w' (fun _ => False) ∧ w'.heap.size = w.heap.size := by
  obtain ⟨hat, hl, hnc, hc, hx⟩ := h
  cases L with
  | nil =>
    obtain rfl : n = 0 := by simpa using hl.symm
    go_enter Try.func47, Try.ntmps47
    go_wp2_with fail
    go_ret2
    exact ⟨none, 0, 0, rfl, fun _ _ => ⟨fun h0 => absurd h0 (by omega), rfl, Nat.le_refl _, Nat.zero_le _, fun x h => by cases h⟩, Chg.refl _ _, rfl⟩
  | cons x L =>
    obtain ⟨n, rfl⟩ : ∃ k, n = k + 1 := ⟨L.length, by simpa using hl.symm⟩
    obtain ⟨b, o, rfl, hb, hcel⟩ := hat (by omega)
    have e0 : w.cell? ⟨b, o, none⟩ = some (.int .i64 x) := hcel 0 (by omega)
    have hx0 := hx x (by simp)
    have h1 := Int.tmod_lt_of_pos x (show 0 < most + 1 by omega)
    have h2 : -(most + 1) < x.tmod (most + 1) := Int.lt_tmod_of_pos x (by omega)
    have hne : ¬ (most + 1 = 0) := by omega
    have hlen : L.length = n := by simpa using hl
    have hfin : ∀ v : Value, (v = .slice (some ⟨b, o + 1, none⟩) n (c - 1) ∨ (v = .slice (some ⟨b, o, none⟩) n (c - 1) ∧ n = 0)) → ∃ A' n' c', v = .slice A' n' c' ∧ ∀ u, dk.Picks u (some ⟨b, o, none⟩) (n + 1) c (x :: L) → dk.Picks u A' n' c' L := fun v hv => by
      rcases hv with rfl | ⟨rfl, h0⟩
      · refine ⟨_, _, _, rfl, fun u hu => ⟨fun _ => ?_, hlen, by omega, by omega, fun y hy => hx y (by simp [hy])⟩⟩
        obtain ⟨b2, o2, e, hb2, hcel⟩ := hu.1 (by omega)
        have e' : b = b2 ∧ o = o2 := by simpa using e
        obtain ⟨rfl, rfl⟩ := e'
        exact ⟨b, o + 1, rfl, hb2, fun j hj => by
          have := hcel (j + 1) (by omega)
          rw [show o + (j + 1) = o + 1 + j from by omega] at this
          exact this⟩
      · exact ⟨_, _, _, rfl, fun u _ => ⟨fun hh => absurd hh (by omega), hlen, by omega, by omega, fun y hy => hx y (by simp [hy])⟩⟩
    have HFIN := Lib.hid hfin; clear hfin hlen hx hat hcel hl
    unfold maxLen at hc
    have hcc : (c = 1 ∧ n = 0) ∨ 2 ≤ c := by omega
    by_cases hr : x.tmod (most + 1) < 0
    · have hd : decide (x.tmod (most + 1) < 0) = true := decide_eq_true hr
      have hp : dk.pick (x :: L) most = (x.tmod (most + 1) + (most + 1), L) := by unfold dk.pick; dsimp only; rw [if_pos hr]
      have HPK := Lib.hid hp; clear hp
      rcases hcc with ⟨rfl, rfl⟩ | hcc
      · go_enter Try.func47, Try.ntmps47
        go_wp2_with fail
        go_quiet (fail)
        go_wp2_with fail
        go_ret2
        obtain ⟨A', n', c', e, hpk⟩ := HFIN.out _ (.inr ⟨rfl, by trivial⟩)
        exact ⟨A', n', c', by rw [HPK.out, ← e]; rfl, by rw [HPK.out]; exact hpk, (Chg.refl _ _).drewN _, rfl⟩
      · have hc2 : ¬ c = 1 := by omega
        go_enter Try.func47, Try.ntmps47
        go_wp2_with fail
        go_quiet (fail)
        go_wp2_with fail
        go_ret2
        obtain ⟨A', n', c', e, hpk⟩ := HFIN.out _ (.inl rfl)
        exact ⟨A', n', c', by rw [HPK.out, ← e]; rfl, by rw [HPK.out]; exact hpk, (Chg.refl _ _).drewN _, rfl⟩
    · have hd : decide (x.tmod (most + 1) < 0) = false := decide_eq_false hr
      have hp : dk.pick (x :: L) most = (x.tmod (most + 1), L) := by unfold dk.pick; dsimp only; rw [if_neg hr]
      have HPK := Lib.hid hp; clear hp
      rcases hcc with ⟨rfl, rfl⟩ | hcc
      · go_enter Try.func47, Try.ntmps47
        go_wp2_with fail
        go_quiet (fail)
        go_wp2_with fail
        go_ret2
        obtain ⟨A', n', c', e, hpk⟩ := HFIN.out _ (.inr ⟨rfl, by trivial⟩)
        exact ⟨A', n', c', by rw [HPK.out, ← e]; rfl, by rw [HPK.out]; exact hpk, (Chg.refl _ _).drewN _, rfl⟩
      · have hc2 : ¬ c = 1 := by omega
        go_enter Try.func47, Try.ntmps47
        go_wp2_with fail
        go_quiet (fail)
        go_wp2_with fail
        go_ret2
        obtain ⟨A', n', c', e, hpk⟩ := HFIN.out _ (.inl rfl)
        exact ⟨A', n', c', by rw [HPK.out, ← e]; rfl, by rw [HPK.out]; exact hpk, (Chg.refl _ _).drewN _, rfl⟩
end Go.Proofs.Ythffkbcjidbdaaa

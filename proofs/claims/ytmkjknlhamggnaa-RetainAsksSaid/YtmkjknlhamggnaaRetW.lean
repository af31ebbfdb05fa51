/- The law's own 'awake' (cordwainlaw11): it answers true. -/
import Derived.Test.YtmkjknlhamggnaaRetC
namespace Go.Proofs.Ytmkjknlhamggnaa
open Go.RowKit

def ret.awf (_ j : Nat) : Int := if j = 2 then 6 else 0
theorem ret.aw_front (k : Nat) (h : ret.FrontIs ret.awf 3 10 0 0 k) : k = 2 := by
  obtain ⟨h1, h2, h3⟩ := h
  have g0 : ret.goes ret.awf 3 10 0 0 0 = true := by decide +kernel
  have g1 : ret.goes ret.awf 3 10 0 0 1 = true := by decide +kernel
  rcases Nat.lt_or_ge k 2 with hk | hk
  · exfalso
    have := h3 (by omega)
    rcases Nat.lt_or_ge k 1 with hk1 | hk1
    · obtain rfl : k = 0 := by omega
      rw [g0] at this; cases this
    · obtain rfl : k = 1 := by omega
      rw [g1] at this; cases this
  · omega
theorem ret.aw_total : ret.total (ret.awf · 2) 3 = 18 := by decide +kernel
theorem ret.aw_rolls : ret.rolls 90 0 100 0 0 11 = true := by decide +kernel

set_option maxHeartbeats 800000 in
theorem ret.awake_any (w : World) :
    Calls Try.prog 22 #[] w fun e w' => e = .returned (.bool true) ∧ Below w.heap.size w w' := by
  go_enter Try.func22, Try.ntmps22
  go_wp2_with fail
  refine (ret.front_any _ 3 3 ret.awf _ _ _ _ _ _ _ _ _ _ _ _ (by omega) (At.new w _ _ rfl) ?_ ?_ (by omega) (by omega) (by omega)).mono ?_
  · intro i j hi hj
    have hi' : i = 0 ∨ i = 1 ∨ i = 2 := by omega
    have hj' : j = 0 ∨ j = 1 ∨ j = 2 ∨ j = 3 ∨ j = 4 := by omega
    rcases hi' with rfl | rfl | rfl <;> rcases hj' with rfl | rfl | rfl | rfl | rfl <;> rfl
  · intro i hi
    simp [ret.awf]
  rintro e w1 ⟨⟨k, rfl, hk⟩, hb1⟩
  obtain rfl := ret.aw_front k hk
  go_wp2_with fail
  refine (ret.sum_any _ 3 3 _ (ret.awf · 2) w1 (by omega) ((At.new w _ _ rfl).below hb1 (by simp)) ?_).mono ?_
  · intro i hi
    have hi' : i = 0 ∨ i = 1 ∨ i = 2 := by omega
    rcases hi' with rfl | rfl | rfl <;> rfl
  rintro e w2 ⟨rfl, hb2⟩
  rw [ret.aw_total]
  go_wp2_with fail
  refine (ret.rolls_any _ _ _ _ _ _ _ _ _ _ _ _ _ _ _ _ w2 (by omega) (by omega) (by omega) (by omega) (by omega) (by omega) (by omega) (by omega) (by omega) (by omega) (by omega)).mono ?_
  rintro e w3 ⟨rfl, hb3⟩
  rw [ret.aw_rolls]
  go_wp2
  go_ret
  refine ⟨rfl, ?_⟩
  have hz1 := hb1.size
  have hz2 := hb2.size
  simp only [World.size_alloc] at hb1 hz1
  exact (((Below.refl _ _).alloc (Nat.le_refl _) _).trans (hb1.mono (by omega))).trans ((hb2.mono (by omega)).trans (hb3.mono (by omega)))
end Go.Proofs.Ytmkjknlhamggnaa

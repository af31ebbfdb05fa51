/- batch: contracts of Same, the document's and the program's. -/
import Derived.Test.YtndingohckcmdaaBsB
namespace Go.Proofs.Ytndingohckcmdaa
open Go.RowKit

def Bat.heads (a b : Bat) : Prop := a.base = b.base ∧ a.last = b.last ∧ a.prod = b.prod ∧ a.epoch = b.epoch ∧ a.seq = b.seq
instance (a b : Bat) : Decidable (a.heads b) := by unfold Bat.heads; infer_instance
def Bat.same (a b : Bat) : Bool := decide (a.heads b) && recsSame a.recs b.recs
theorem Bat.same_comm (a b : Bat) : a.same b = b.same a := by
  unfold Bat.same
  rw [recsSame_comm a.recs b.recs, show decide (a.heads b) = decide (b.heads a) from decide_eq_decide.2 ⟨fun ⟨h1, h2, h3, h4, h5⟩ => ⟨h1.symm, h2.symm, h3.symm, h4.symm, h5.symm⟩, fun ⟨h1, h2, h3, h4, h5⟩ => ⟨h1.symm, h2.symm, h3.symm, h4.symm, h5.symm⟩⟩]

set_option maxRecDepth 20000 in
set_option maxHeartbeats 4000000 in
theorem bat.same_any (a b : Bat) (A : Option Addr) (c : Nat) (B : Option Addr) (d : Nat) (w : World) (hv : RecsV w (.slice A a.recs.length c) a.recs) (hu : RecsV w (.slice B b.recs.length d) b.recs) :
    Calls Try.prog 20 #[a.hval A a.recs.length c, b.hval B b.recs.length d] w fun e w' => e = .returned (.bool (a.same b)) ∧ Below w.heap.size w w' := by
  have hcall := fun wx (h : Below w.heap.size w wx) => bat.equalfunc_any a.recs b.recs A c B d wx (hv.below h (Nat.le_refl _)) (hu.below h (Nat.le_refl _))
  have HCALL := Lib.hid hcall; clear hcall hv hu
  have hno : ¬ a.heads b → Ending.returned (.bool false) = Ending.returned (.bool (a.same b)) := fun h => by unfold Bat.same; rw [decide_eq_false h, Bool.false_and]
  have hyes : a.heads b → Ending.returned (.bool (recsSame a.recs b.recs)) = Ending.returned (.bool (a.same b)) := fun h => by unfold Bat.same; rw [decide_eq_true h, Bool.true_and]
  obtain ⟨D, hD⟩ : ∃ D : Bool, D = a.same b := ⟨_, rfl⟩
  rw [← hD] at hno hyes ⊢
  clear hD
  have HNO := Lib.hid hno; clear hno
  have HYES := Lib.hid hyes; clear hyes
  obtain ⟨a0, a1, a2, a3, a4, ar⟩ := a
  obtain ⟨b0, b1, b2, b3, b4, br⟩ := b
  unfold Bat.hval at *
  dsimp only at *
  obtain ⟨n, hn⟩ : ∃ n, n = ar.length := ⟨_, rfl⟩
  obtain ⟨m, hm⟩ : ∃ m, m = br.length := ⟨_, rfl⟩
  obtain ⟨R, hR⟩ : ∃ R, R = recsSame ar br := ⟨_, rfl⟩
  rw [← hn, ← hm, ← hR] at HCALL
  rw [← hR] at HYES
  rw [← hn, ← hm]
  clear hn hm hR
  unfold Bat.heads at HNO HYES
  dsimp only at HNO HYES
  go_enter Try.func20, Try.ntmps20
  by_cases e0 : a0 = b0
  · by_cases e1 : a1 = b1
    · by_cases e2 : a2 = b2
      · by_cases e3 : a3 = b3
        · by_cases e4 : a4 = b4
          · subst e0 e1 e2 e3 e4
            go_wp2_with fail
            refine (HCALL.out _ (two_boxes _ _)).mono ?_
            rintro e wb ⟨rfl, hbb⟩
            have HB := Lib.hid ((two_boxes _ _).trans (hbb.mono (two_boxes _ _).size)); clear hbb
            cases R
            · go_wp2
              go_ret
              exact ⟨HYES.out (by simp), HB.out⟩
            · go_wp2
              go_ret
              exact ⟨HYES.out (by simp), HB.out⟩
          · go_wp2
            go_ret
            exact ⟨HNO.out fun h => e4 h.2.2.2.2, two_boxes _ _⟩
        · go_wp2
          go_ret
          exact ⟨HNO.out fun h => e3 h.2.2.2.1, two_boxes _ _⟩
      · go_wp2
        go_ret
        exact ⟨HNO.out fun h => e2 h.2.2.1, two_boxes _ _⟩
    · go_wp2
      go_ret
      exact ⟨HNO.out fun h => e1 h.2.1, two_boxes _ _⟩
  · go_wp2
    go_ret
    exact ⟨HNO.out fun h => e0 h.1, two_boxes _ _⟩

set_option maxRecDepth 20000 in
set_option maxHeartbeats 4000000 in
theorem ref.same_any (a b : Bat) (A : Option Addr) (c : Nat) (B : Option Addr) (d : Nat) (w : World) (hv : RecsV w (.slice A a.recs.length c) a.recs) (hu : RecsV w (.slice B b.recs.length d) b.recs) :
    Calls Try.prog 25 #[a.hval A a.recs.length c, b.hval B b.recs.length d] w fun e w' => e = .returned (.bool (a.same b)) ∧ Below w.heap.size w w' := by
  have hcall := fun wx (h : Below w.heap.size w wx) => ref.samerecs_any a.recs b.recs A c B d wx (hv.below h (Nat.le_refl _)) (hu.below h (Nat.le_refl _))
  have HCALL := Lib.hid hcall; clear hcall hv hu
  have hno : ¬ a.heads b → Ending.returned (.bool false) = Ending.returned (.bool (a.same b)) := fun h => by unfold Bat.same; rw [decide_eq_false h, Bool.false_and]
  have hyes : a.heads b → Ending.returned (.bool (recsSame a.recs b.recs)) = Ending.returned (.bool (a.same b)) := fun h => by unfold Bat.same; rw [decide_eq_true h, Bool.true_and]
  obtain ⟨D, hD⟩ : ∃ D : Bool, D = a.same b := ⟨_, rfl⟩
  rw [← hD] at hno hyes ⊢
  clear hD
  have HNO := Lib.hid hno; clear hno
  have HYES := Lib.hid hyes; clear hyes
  obtain ⟨a0, a1, a2, a3, a4, ar⟩ := a
  obtain ⟨b0, b1, b2, b3, b4, br⟩ := b
  unfold Bat.hval at *
  dsimp only at *
  obtain ⟨n, hn⟩ : ∃ n, n = ar.length := ⟨_, rfl⟩
  obtain ⟨m, hm⟩ : ∃ m, m = br.length := ⟨_, rfl⟩
  obtain ⟨R, hR⟩ : ∃ R, R = recsSame ar br := ⟨_, rfl⟩
  rw [← hn, ← hm, ← hR] at HCALL
  rw [← hR] at HYES
  rw [← hn, ← hm]
  clear hn hm hR
  unfold Bat.heads at HNO HYES
  dsimp only at HNO HYES
  go_enter Try.func25, Try.ntmps25
  by_cases e0 : a0 = b0
  · by_cases e1 : a1 = b1
    · by_cases e2 : a2 = b2
      · by_cases e3 : a3 = b3
        · by_cases e4 : a4 = b4
          · subst e0 e1 e2 e3 e4
            go_wp2_with fail
            refine (HCALL.out _ (two_boxes _ _)).mono ?_
            rintro e wb ⟨rfl, hbb⟩
            have HB := Lib.hid ((two_boxes _ _).trans (hbb.mono (two_boxes _ _).size)); clear hbb
            cases R
            · go_wp2
              go_ret
              exact ⟨HYES.out (by simp), HB.out⟩
            · go_wp2
              go_ret
              exact ⟨HYES.out (by simp), HB.out⟩
          · go_wp2
            go_ret
            exact ⟨HNO.out fun h => e4 h.2.2.2.2, two_boxes _ _⟩
        · go_wp2
          go_ret
          exact ⟨HNO.out fun h => e3 h.2.2.2.1, two_boxes _ _⟩
      · go_wp2
        go_ret
        exact ⟨HNO.out fun h => e2 h.2.2.1, two_boxes _ _⟩
    · go_wp2
      go_ret
      exact ⟨HNO.out fun h => e1 h.2.1, two_boxes _ _⟩
  · go_wp2
    go_ret
    exact ⟨HNO.out fun h => e0 h.1, two_boxes _ _⟩
end Go.Proofs.Ytndingohckcmdaa

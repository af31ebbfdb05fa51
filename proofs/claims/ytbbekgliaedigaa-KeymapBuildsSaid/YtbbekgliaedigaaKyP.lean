/- keymap: what no map answers. -/
import Derived.Test.YtbbekgliaedigaaKyO
namespace Go.Proofs.Ytbbekgliaedigaa
open Go.RowKit Go.Maps
set_option maxRecDepth 20000

theorem key.offer_nil (X : Value) (o : Int) (w : World) :
    Calls Try.prog 18 #[.pointer none, X, .int .i64 o] w fun e w' => e = .returned (.bool false) ∧ w' = w := by
  go_enter Try.func18, Try.ntmps18
  go_wp2
  go_ret
  exact ⟨rfl, rfl⟩
theorem key.last_nil (X : Value) (w : World) :
    Calls Try.prog 21 #[.pointer none, X] w fun e w' => e = .returned (.tuple #[.int .i64 0, .bool false]) ∧ w' = w := by
  go_enter Try.func21, Try.ntmps21
  go_wp2
  go_ret2
  exact ⟨rfl, rfl⟩
theorem key.len_nil (w : World) :
    Calls Try.prog 20 #[.pointer none] w fun e w' => e = .returned (.int .i64 0) ∧ w' = w := by
  go_enter Try.func20, Try.ntmps20
  go_wp2
  go_ret
  exact ⟨rfl, rfl⟩
theorem key.all1_nil (n l Bp : Nat) (W : World) (hb : Blk W Bp 28 #[.pointer none]) :
    CallsIn Fence.wide n Try.prog 93 #[.func (.yield l) #[] #[], .pointer (some ⟨Bp, 0, none⟩)] W fun e V => (∃ v, e = .returned v) ∧ V = W := by
  refine callsIn_of_wp Try.func93 rfl trivial ?_ rfl
  simp only [Try.ntmps93, List.size_toArray, List.length_cons, List.length_nil, Nat.reduceAdd, Nat.reduceSub, Array.replicate_succ, Array.replicate_zero, List.push_toArray, List.append_toArray, List.nil_append, List.cons_append]
  have c0 := hb.cell 0 rfl
  clear hb
  gi_wp2
  refine bodyPost_ret (results_none rfl _ _ _) rfl ?_
  exact ⟨⟨_, rfl⟩, rfl⟩
theorem law12.keys_nil (n : Int) (w : World) (hn : 0 ≤ n) (hw : 0 < w.heap.size) :
    Calls Try.prog 23 #[.pointer none, .int .i64 n] w fun e w' => ∃ v, e = .returned v ∧ w'.ownsRow w.heap.size 122 3 v 0 [] ∧ Below w.heap.size w w' := by
  refine (law12.keys_of none 0 [] n w (by simp) (fun y hy => absurd hy (by simp)) hn hw fun w' hb => ?_).mono ?_
  · intro l J Jx W hW hJ _ hY h0
    refine (key.all1_nil 4 l w'.heap.size W ((KKp.below (b := 0) hW).2.1 _ _ _ _ (Blk.new w' _ _) (.inl rfl))).mono ?_
    rintro e V ⟨hv, rfl⟩
    exact ⟨hv, .inl ⟨[], rfl, h0⟩⟩
  · rintro e w' ⟨v, l, rfl, h1, -, ⟨k, -, h3⟩, h4⟩
    have hl : l = [] := by
      have := congrArg List.length h3
      simpa using this
    subst hl
    exact ⟨v, rfl, h1, h4⟩
end Go.Proofs.Ytbbekgliaedigaa

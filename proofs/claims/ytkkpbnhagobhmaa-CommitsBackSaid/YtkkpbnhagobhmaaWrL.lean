/- A writer that a function made for itself: what its calls leave. -/
import Derived.Test.YtkkpbnhagobhmaaWr
import Derived.Test.YtkkpbnhagobhmaaWrD
import Derived.Test.YtkkpbnhagobhmaaWrX
namespace Go.Proofs.Ytkkpbnhagobhmaa
open Go.RowKit

/-- The writer at p has L; since w3 nothing below B has turned. -/
def WrL (w3 : World) (B p : Nat) (L : List Nat) (w : World) : Prop := (∃ v, Wr w B p v L false) ∧ Chg w3 w (fun k => B ≤ k) ∧ B ≤ w3.heap.size
theorem WrL.keep {w3 w w' : World} {B p : Nat} {L : List Nat} (h : WrL w3 B p L w) (hb : Below w.heap.size w w') : WrL w3 B p L w' := by
  obtain ⟨⟨v, h1⟩, h2, h3⟩ := h
  exact ⟨⟨v, h1.keep hb⟩, h2.trans (chg_of (P := fun _ => False) hb) fun _ _ q => q.elim, h3⟩
theorem WrL.start {w : World} (T : TypeId) (hT : T = 96) : WrL (w.alloc (.cells #[.slice none 0 0, .bool false] T)) w.heap.size w.heap.size [] (w.alloc (.cells #[.slice none 0 0, .bool false] T)) := by
  subst hT
  exact ⟨⟨_, Wr.new w⟩, Chg.refl _ _, by simp⟩
theorem WrL.post {w3 w : World} {B p : Nat} {v : Value} {L L' : List Nat} (h : Wr w B p v L false) (hc : Chg w3 w (fun k => B ≤ k)) (hB : B ≤ w3.heap.size) {w' : World} (hd : WrDone w B p v L' false w') : WrL w3 B p L' w' := by
  obtain ⟨v', h1, h2, -⟩ := hd
  refine ⟨⟨v', h1⟩, hc.trans h2 fun k hk hw => ?_, hB⟩
  rcases hw with hh | hh
  · have := h.le; omega
  · exact (h.row.lt k hh).1
theorem WrL.num {w3 w : World} {B p : Nat} {L : List Nat} (h : WrL w3 B p L w) (hL : L.length ≤ 70368744177000) (n : Int) (h1 : -9223372036854775808 ≤ n) (h2 : n ≤ 9223372036854775807) :
    Calls Try.prog 65 #[.pointer (some ⟨p, 0, none⟩), .int .i64 n] w fun e w' => e = .returned (.pointer (some ⟨p, 0, none⟩)) ∧ WrL w3 B p (L ++ num.put n) w' := by
  obtain ⟨⟨v, q1⟩, q2, q3⟩ := h
  refine (wire.num_any B p v L false n w q1 (by omega) h1 h2).mono ?_
  rintro e w' ⟨rfl, hd⟩
  exact ⟨rfl, WrL.post q1 q2 q3 hd⟩
theorem WrL.done {w3 w : World} {B p : Nat} {L : List Nat} (h : WrL w3 B p L w) (hL : L.length ≤ 70368744177000) :
    Calls Try.prog 49 #[.pointer (some ⟨p, 0, none⟩)] w fun e w' => (∃ u, e = .returned (.tuple #[u, .bool true]) ∧ w'.ownsRow w.heap.size 5 1 u L.length (u8s L)) ∧ Below w.heap.size w w' := by
  obtain ⟨⟨v, q1⟩, q2, q3⟩ := h
  exact wire.done_any B p v L w q1 (by omega)

/-- As WrL, and what is in N (all of it there at w9) has not turned. -/
def WrN (w9 : World) (B p : Nat) (N : Nat → Prop) (L : List Nat) (w : World) : Prop := (∃ v, Wr w B p v L false ∧ ∀ k, v.ownBlock = some k → ¬ N k) ∧ ¬ N p ∧ (∀ k, N k → k < w9.heap.size) ∧ Chg w9 w (fun k => B ≤ k ∧ ¬ N k) ∧ B ≤ w9.heap.size
theorem WrL.alloc {w3 w : World} {B p : Nat} {L : List Nat} (h : WrL w3 B p L w) (o : Obj) : WrN (w.alloc o) B p (fun k => k = w.heap.size) L (w.alloc o) := by
  obtain ⟨⟨v, h1⟩, h2, h3⟩ := h
  refine ⟨⟨v, h1.alloc o, fun k hk e => ?_⟩, fun e => ?_, fun k hk => ?_, Chg.refl _ _, ?_⟩
  · have := (h1.row.lt k hk).2
    have e : k = w.heap.size := e
    omega
  · have := h1.blk.lt
    have e : p = w.heap.size := e
    omega
  · have e : k = w.heap.size := hk
    simp
    omega
  · have := h2.size
    simp
    omega
theorem WrN.back {w3 w9 w : World} {B p : Nat} {N : Nat → Prop} {L : List Nat} (h : WrN w9 B p N L w) (hc : Chg w3 w9 (fun k => B ≤ k)) (hB : B ≤ w3.heap.size) : WrL w3 B p L w := by
  obtain ⟨⟨v, h1, _⟩, _, _, h4, _⟩ := h
  exact ⟨⟨v, h1⟩, hc.trans h4 fun _ _ q => q.1, hB⟩
theorem WrN.keep {w9 w w' : World} {B p : Nat} {N : Nat → Prop} {L : List Nat} (h : WrN w9 B p N L w) (hb : Below w.heap.size w w') : WrN w9 B p N L w' := by
  obtain ⟨⟨v, h1, h2⟩, h3, h4, h5, h6⟩ := h
  exact ⟨⟨v, h1.keep hb, h2⟩, h3, h4, h5.trans (chg_of (P := fun _ => False) hb) fun _ _ q => q.elim, h6⟩
theorem WrN.post {w9 w w' : World} {B p : Nat} {N : Nat → Prop} {v : Value} {L L' : List Nat} (h1 : Wr w B p v L false) (h2 : ∀ k, v.ownBlock = some k → ¬ N k) (h3 : ¬ N p) (h4 : ∀ k, N k → k < w9.heap.size) (h5 : Chg w9 w (fun k => B ≤ k ∧ ¬ N k)) (h6 : B ≤ w9.heap.size) (hd : WrDone w B p v L' false w') : WrN w9 B p N L' w' := by
  obtain ⟨v', q1, q2, q3⟩ := hd
  refine ⟨⟨v', q1, fun k hk hn => ?_⟩, h3, h4, h5.trans q2 fun k hk hw => ?_, h6⟩
  · rcases q3 with q | ⟨g, e1, e2⟩
    · exact h2 k (by rw [← q]; exact hk) hn
    · rw [e1] at hk
      obtain rfl : g = k := by simpa using hk
      have := h4 g hn
      have := h5.size
      omega
  · rcases hw with hh | hh
    · subst hh
      exact ⟨h1.le, h3⟩
    · exact ⟨(h1.row.lt k hh).1, h2 k hh⟩
theorem WrN.num {w9 w : World} {B p : Nat} {N : Nat → Prop} {L : List Nat} (h : WrN w9 B p N L w) (hL : L.length ≤ 70368744177000) (n : Int) (h1 : -9223372036854775808 ≤ n) (h2 : n ≤ 9223372036854775807) :
    Calls Try.prog 65 #[.pointer (some ⟨p, 0, none⟩), .int .i64 n] w fun e w' => e = .returned (.pointer (some ⟨p, 0, none⟩)) ∧ WrN w9 B p N (L ++ num.put n) w' := by
  obtain ⟨⟨v, q1, q2⟩, q3, q4, q5, q6⟩ := h
  refine (wire.num_any B p v L false n w q1 (by omega) h1 h2).mono ?_
  rintro e w' ⟨rfl, hd⟩
  exact ⟨rfl, WrN.post q1 q2 q3 q4 q5 q6 hd⟩
end Go.Proofs.Ytkkpbnhagobhmaa

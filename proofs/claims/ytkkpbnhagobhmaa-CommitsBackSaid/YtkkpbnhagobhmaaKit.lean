/- What lies in memory, said by the index of a cell; and what stays of it. No function of the program is named. -/
import Derived.WalkKit
import Derived.Handy
import Derived.Deep.OwnRows
import Derived.Deep.Draws
import Derived.Deep.QuietTactic
import Derived.BigQuiet
import Derived.Lib.Hide
namespace Go.Proofs.Ytkkpbnhagobhmaa
open Go.RowKit

/-- A slice's cells: 'V j' is cell j, counted from the slice's first one. -/
def At (w : World) (A : Option Addr) (cells : Nat) (V : Nat → Value) : Prop :=
  0 < cells → ∃ b off, A = some ⟨b, off, none⟩ ∧ b < w.heap.size ∧ ∀ j, j < cells → w.cell? ⟨b, off + j, none⟩ = some (V j)

theorem At.keep {w w' : World} {A : Option Addr} {n : Nat} {V : Nat → Value} (h : At w A n V) (hs : w.heap.size ≤ w'.heap.size) (hk : ∀ p : Addr, p.block < w.heap.size → w'.cell? p = w.cell? p) : At w' A n V := fun hn => by
  obtain ⟨b, off, hA, hb, hc⟩ := h hn
  exact ⟨b, off, hA, by omega, fun j hj => (hk _ hb).trans (hc j hj)⟩
theorem At.below {w w' : World} {A : Option Addr} {n B : Nat} {V : Nat → Value} (h : At w A n V) (hb : Below B w w') (hB : w.heap.size ≤ B) : At w' A n V := h.keep hb.size fun _ hp => hb.cell (by omega)
theorem At.alloc {w : World} {A : Option Addr} {n : Nat} {V : Nat → Value} (h : At w A n V) (o : Obj) : At (w.alloc o) A n V := h.keep (by simp) fun p hp => World.cell?_alloc_lt w o p (by omega)
theorem At.congr {w : World} {A : Option Addr} {n : Nat} {V V' : Nat → Value} (h : At w A n V) (e : ∀ j, j < n → V j = V' j) : At w A n V' := fun hn => by
  obtain ⟨b, off, hA, hb, hc⟩ := h hn
  exact ⟨b, off, hA, hb, fun j hj => (hc j hj).trans (by rw [e j hj])⟩
theorem At.drew {w : World} {A : Option Addr} {n : Nat} {V : Nat → Value} (h : At w A n V) (k : Nat) : At (w.drewN k) A n V := h
theorem At.new (w : World) (C : Array Value) (t : TypeId) {fr : Nat × Nat} {n : Nat} (hn : C.size = n) : At (w.alloc (.cells C t fr)) (some ⟨w.heap.size, 0, none⟩) n (fun j => C.getD j undef) := fun _ =>
  ⟨w.heap.size, 0, rfl, by simp, fun j hj => by
    have h : (w.alloc (.cells C t fr)).heap[w.heap.size]? = some (.cells C t fr) := Go.Deep.blk_alloc_new w _
    rw [Nat.zero_add]
    simp only [World.cell?, h]
    simp [show j < C.size by omega]⟩
theorem At.one (w : World) (v : Value) (t : TypeId) : At (w.alloc (.cells #[v] t)) (some ⟨w.heap.size, 0, none⟩) 1 (fun _ => v) :=
  (At.new w #[v] t (n := 1) rfl).congr fun j hj => by
    obtain rfl : j = 0 := by omega
    rfl
theorem At.row {w : World} {b : Nat} {t : TypeId} {n : Nat} {f : Nat → Value} (h : w.rowIs b t n f) : At w (some ⟨b, 0, none⟩) n f := fun _ => ⟨b, 0, rfl, h.lt, fun j hj => by rw [Nat.zero_add]; exact h.cell hj⟩
theorem add_none (b off i : Nat) : (⟨b, off, none⟩ : Addr).add i = ⟨b, off + i, none⟩ := by
  unfold Addr.add
  by_cases h : i = 0
  · subst h; simp
  · simp [h]

theorem own_at {w : World} {base : Nat} {e : TypeId} {size : Nat} {v : Value} {n : Nat} {xs : List Value} (h : w.ownsRow base e size v n xs) :
    ∃ A c, v = .slice A n c ∧ n ≤ c ∧ At w A (n * size) (fun j => xs.getD j undef) := by
  have hl : xs.length = n * size := h.1
  have h0 := h
  rcases h.2 with ⟨rfl, rfl⟩ | ⟨g, cap, cur, rfl, _, _, hnc, _⟩
  · exact ⟨none, 0, rfl, Nat.le_refl _, fun hh => absurd hh (by simp)⟩
  · refine ⟨_, cap, rfl, hnc, fun _ => ⟨g, 0, rfl, (h0.lt g rfl).2, fun j hj => ?_⟩⟩
    have hj' : xs[j]? = some (xs.getD j undef) := by simp [List.getD, List.getElem?_eq_getElem (show j < xs.length by omega)]
    have := h0.cells (g := g) rfl j _ hj'
    rw [add_none] at this
    exact this
theorem rowIs_below {w w' : World} {b : Nat} {t : TypeId} {n B : Nat} {f : Nat → Value} (h : w.rowIs b t n f) (hb : Below B w w') (hB : b < B) : w'.rowIs b t n f := h.of_block (hb.block b hB)
/-- An own row stays where nothing is turned below the heap's end. -/
theorem own_below {w w' : World} {base : Nat} {e : TypeId} {size : Nat} {v : Value} {n : Nat} {xs : List Value} (h : w.ownsRow base e size v n xs) (hb : Below w.heap.size w w') : w'.ownsRow base e size v n xs := by
  refine ⟨h.1, ?_⟩
  rcases h.2 with h2 | ⟨g, cap, cur, h1, h3, h4, h5⟩
  · exact .inl h2
  · exact .inr ⟨g, cap, cur, h1, h3, (hb.block g (Array.getElem?_eq_some_iff.1 h4).1).trans h4, h5⟩
theorem own_cap {w : World} {base : Nat} {e : TypeId} {size : Nat} {A : Option Addr} {c n k : Nat} {xs : List Value} (h : w.ownsRow base e size (.slice A k c) n xs) : c ≤ maxLen := by
  rcases h.2 with ⟨h1, _⟩ | ⟨g, cap, cur, h1, _, _, _, hm, _⟩
  · cases h1; exact Nat.zero_le _
  · cases h1; exact hm
theorem bdrew {B : Nat} {a w : World} (h : Below B a w) (n : Nat) : Below B a (w.drewN n) := ⟨h.os, h.tape, h.output, h.size, h.block⟩
theorem num_eq {k : IntKind} {a b : Int} (h : a = b) : Value.int k a = Value.int k b := by rw [h]
theorem ret_num {k : IntKind} {a b : Int} (h : a = b) : Ending.returned (.int k a) = .returned (.int k b) := by rw [h]
theorem ret_bool {a b : Bool} (h : a = b) : Ending.returned (.bool a) = .returned (.bool b) := by rw [h]
end Go.Proofs.Ytkkpbnhagobhmaa

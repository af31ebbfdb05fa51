/- The conversion of a row of bytes to its own type marks its block: what it answers, and what it leaves. No function of the program is named. -/
import Derived.Test.YthffkbcjidbdaaaBlk
namespace Go.Proofs.Ythffkbcjidbdaaa
open Go.RowKit

theorem alloc_freeze (w : World) (C : Array Value) (e : TypeId) (n : Nat) : (w.alloc (.cells C e)).freeze ⟨w.heap.size, n, none⟩ 1 = w.alloc (.cells C e (n, n + 1)) := by
  simp [World.freeze, World.alloc, -World.alloc_eq]
  refine Array.ext (by simp) fun i h1 h2 => ?_
  rw [Array.getElem_modify]
  by_cases hi : i = w.heap.size
  · subst hi
    simp
  · have : i < w.heap.size := by simp at h2; omega
    simp [Ne.symm hi, Array.getElem_push, this]
/-- `[]byte` of a row of bytes just laid. -/
theorem conv_mark {P : Program} (T e : TypeId) (hT : P.underlying T = some (.slice e)) (he : P.underlying e = some (.int .u8)) (w : World) (cs : Array Value) (n c p : Nat) (hp : p = w.heap.size) :
    (convert T T (.slice (some ⟨p, 0, none⟩) n c)).run P (w.alloc (.cells cs e)) = .ok (.slice (some ⟨p, 0, none⟩) n c) (w.alloc (.cells cs e (cs.size, cs.size + 1))) := by
  subst hp
  have hs : (w.alloc (.cells cs e)).shape? w.heap.size = some (e, cs.size) := by unfold World.shape?; rw [World.alloc_heap_new]
  simp [convert, run_underlying hT, run_underlying he, markStringish, hs, Result.andThen, alloc_freeze]
theorem cell_old_new (w : World) (cs : Array Value) (e : TypeId) (f : Nat × Nat) (o : Obj) (p j : Nat) (hp : p = w.heap.size) : ((w.alloc (.cells cs e f)).alloc o).cell? ⟨p, j, none⟩ = cs[j]? := by
  subst hp
  have h1 : ((w.alloc (.cells cs e f)).alloc o).heap[w.heap.size]? = some (.cells cs e f) := by
    show ((w.heap.push _).push o)[w.heap.size]? = _
    rw [Array.getElem?_push, if_neg (by simp), Array.getElem?_push, if_pos rfl]
  unfold World.cell?
  rw [h1]
  rfl
end Go.Proofs.Ythffkbcjidbdaaa

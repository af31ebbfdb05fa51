/- Words for the law NumAsks: bytes as a string. -/
import Derived.Test.YtfblfgnnnbcplaaRefG
import Derived.Test.YtfblfgnnnbcplaaNumW
import Derived.Test.YtfblfgnnnbcplaaApp
import Derived.Deep.RegionHeld
import Derived.Laws.BytesArg
namespace Go.Proofs.Ytfblfgnnnbcplaa
open Go.RowKit

theorem Below.next1 {a b c : World} (h : Below a.heap.size a b) (hb : Below b.heap.size b c) : Below a.heap.size a c := h.trans (hb.mono h.size)

/-- 'string(b)' of bytes that lie so. -/
theorem conv_at {w : World} {A : Option Addr} {n c : Nat} (L : List Nat) (hl : L.length = n) (hn : 0 < n) (h : At w A n (byteAt L)) :
    (convert 23 9 (.slice A n c)).run Try.prog w = .ok (.string (strOfNums (L.map Int.ofNat))) w := by
  obtain ⟨b, off, rfl, hbb, hc⟩ := h hn
  refine run_convert_bytes_arg (P := Try.prog) w 23 5 Try.underlying23 Try.underlying5 b off n c (L.map Int.ofNat) (by simpa using hl) (fun i hi => ?_) 9 Try.underlying9
  rw [hc i hi]
  unfold byteAt
  congr 2
  simp only [List.getD, List.getElem?_map, List.getElem?_eq_getElem (show i < L.length by omega), Option.map_some, Option.getD_some]
  rfl

theorem num.gt_pos (bs : Nat → Nat) (n : Nat) (a b : Nat) : ∀ k i u, num.gt bs n k i u = some (a, b) → 1 ≤ b := by
  intro k
  induction k with
  | zero => intro i u h; simp [num.gt] at h
  | succ k ih =>
    intro i u h
    rw [num.gt] at h
    split at h
    · cases h
    split at h
    · cases h
    split at h
    · exact ih _ _ h
    split at h
    · cases h
    simp only [Option.some.injEq, Prod.mk.injEq] at h
    omega

end Go.Proofs.Ytfblfgnnnbcplaa

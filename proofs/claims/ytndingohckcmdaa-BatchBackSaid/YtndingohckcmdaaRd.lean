/- Contracts of wire.Reader: Num. -/
import Derived.Test.YtndingohckcmdaaRdA
import Derived.Test.YtndingohckcmdaaNumC
import Derived.Test.YtndingohckcmdaaNumP
namespace Go.Proofs.Ytndingohckcmdaa
open Go.RowKit

/-- What Num answers, what is left, the error. -/
def rd.num (L : List Nat) (e : Int) : Int × List Nat × Int :=
  if e ≠ 0 then (0, L, e) else match num.getL L with
    | none => (0, [], 2)
    | some (u, k) => (num.zag u, L.drop k, 0)
theorem rd.num_err {L : List Nat} {e : Int} (h : e ≠ 0) : rd.num L e = (0, L, e) := if_pos h
theorem num.getL_le {L : List Nat} {u k : Nat} (h : num.getL L = some (u, k)) : k ≤ L.length ∧ 1 ≤ k := by
  have : ∀ (bs : Nat → Nat) (n : Nat), ∀ q i x, num.gt bs n q i x = some (u, k) → k ≤ n ∧ 1 ≤ k := by
    intro bs n q
    induction q with
    | zero => intro i x h; simp [num.gt] at h
    | succ q ih =>
      intro i x h
      rw [num.gt] at h
      split at h
      · cases h
      split at h
      · cases h
      split at h
      · exact ih _ _ h
      split at h
      · cases h
      simp only [Option.some.injEq, Prod.mk.injEq] at h
      omega
  exact this _ _ _ _ _ h

end Go.Proofs.Ytndingohckcmdaa

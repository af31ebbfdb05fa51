/- Contract of the document's Fixed (cordwainref1). -/
import Derived.Test.YtkkpbnhagobhmaaByte
import Derived.Test.YtkkpbnhagobhmaaWrX
import Derived.OwnWalk
namespace Go.Proofs.Ytkkpbnhagobhmaa
open Go.RowKit

theorem wire.be_get (n : Nat) : ∀ (k i : Nat), i < k → (wire.be n k)[i]? = some (n / 256 ^ (k - 1 - i) % 256)
  | 0, i, h => by omega
  | k + 1, 0, _ => by simp [wire.be]
  | k + 1, i + 1, h => by
    simp only [wire.be, List.getElem?_cons_succ]
    rw [wire.be_get n k i (by omega)]
    congr 4
    omega

end Go.Proofs.Ytkkpbnhagobhmaa

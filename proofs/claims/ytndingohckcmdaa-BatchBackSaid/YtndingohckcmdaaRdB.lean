/- Contracts of wire.Reader: piece, Bytes, Text; NewReader, Borrow. -/
import Derived.Test.YtndingohckcmdaaRd
import Derived.Test.YtndingohckcmdaaRdK
import Derived.Test.YtndingohckcmdaaClone
import Derived.Test.YtndingohckcmdaaConv
namespace Go.Proofs.Ytndingohckcmdaa
open Go.RowKit

/-- What piece answers, what is left, the error. -/
def rd.cut (n : Int) (L : List Nat) (e most : Int) : List Nat × List Nat × Int :=
  if e ≠ 0 then ([], L, e) else if n < 0 ∨ (L.length : Int) < n then ([], [], 2) else if most < n then ([], [], 3) else (L.take n.toNat, L.drop n.toNat, 0)
def rd.piece (L : List Nat) (e most : Int) : List Nat × List Nat × Int := rd.cut (rd.num L e).1 (rd.num L e).2.1 (rd.num L e).2.2 most

theorem rd.num_le (L : List Nat) (e : Int) : (rd.num L e).2.1.length ≤ L.length := by
  unfold rd.num
  split
  · exact Nat.le_refl _
  · split
    · exact Nat.zero_le _
    · rw [List.length_drop]; omega
theorem rd.piece_le (L : List Nat) (e most : Int) : (rd.piece L e most).1.length ≤ L.length := by
  have h := rd.num_le L e
  unfold rd.piece rd.cut
  split
  · exact Nat.zero_le _
  split
  · exact Nat.zero_le _
  split
  · exact Nat.zero_le _
  · rw [List.length_take]; omega
def PiecePost (w : World) (r : Nat) (P L : List Nat) (e : Int) (en : Ending) (w' : World) : Prop :=
  (∃ A c, en = .returned (.slice A P.length c) ∧ At w' A P.length (byteAt P) ∧ P.length ≤ maxLen ∧ ∀ x ∈ P, x < 256) ∧ RdIs w' r L e ∧ Chg w w' (rdT r)

/-- Bytes: a copy of the piece. -/
def BytesPost (w : World) (r : Nat) (P L : List Nat) (e : Int) (en : Ending) (w' : World) : Prop :=
  (∃ v, en = .returned v ∧ w'.ownsRow w.heap.size 5 1 v P.length (u8s P)) ∧ RdIs w' r L e ∧ Chg w w' (rdT r)
def TextPost (w : World) (r : Nat) (P L : List Nat) (e : Int) (en : Ending) (w' : World) : Prop :=
  en = .returned (.string (strOf P)) ∧ RdIs w' r L e ∧ Chg w w' (rdT r)
end Go.Proofs.Ytndingohckcmdaa

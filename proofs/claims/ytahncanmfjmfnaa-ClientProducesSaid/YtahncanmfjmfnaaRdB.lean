/- Contracts of wire.Reader: piece, Bytes, Text; NewReader, Borrow. -/
import Derived.Test.YtahncanmfjmfnaaRdA
import Derived.Test.YtahncanmfjmfnaaNumP
import Derived.Test.YtahncanmfjmfnaaClone
import Derived.Test.YtahncanmfjmfnaaConv
namespace Go.Proofs.Ytahncanmfjmfnaa
open Go.RowKit

/-- What Num answers, what is left, the error. -/
def rd.num (L : List Nat) (e : Int) : Int × List Nat × Int :=
  if e ≠ 0 then (0, L, e) else match num.getL L with
    | none => (0, [], 2)
    | some (u, k) => (num.zag u, L.drop k, 0)
theorem rd.num_err {L : List Nat} {e : Int} (h : e ≠ 0) : rd.num L e = (0, L, e) := if_pos h
theorem num.getL_le {L : List Nat} {u k : Nat} (h : num.getL L = some (u, k)) : k ≤ L.length ∧ 1 ≤ k := by
  have : ∀ (bs : Nat → Nat) (n : Nat), ∀ q i x, num.gt bs n q i x = some (u, k) → k ≤ n ∧ 1 ≤ k := by
    intro bs n q
    induction q with
    | zero => intro i x h; simp [num.gt] at h
    | succ q ih =>
      intro i x h
      rw [num.gt] at h
      split at h
      · cases h
      split at h
      · cases h
      split at h
      · exact ih _ _ h
      split at h
      · cases h
      simp only [Option.some.injEq, Prod.mk.injEq] at h
      omega
  exact this _ _ _ _ _ h

theorem RdIs.keep {w w' : World} {r : Nat} {L : List Nat} {e : Int} (h : RdIs w r L e) (hb : Below w.heap.size w w') : RdIs w' r L e := by
  obtain ⟨A, c, h⟩ := h
  exact ⟨A, c, (chg_of (P := fun _ => False) hb).blk h.blk id, h.lie.below hb (Nat.le_refl _), h.len, h.cap, h.byte⟩

/-- Another Reader stays as it was. -/
theorem RdIs.other {w w' : World} {r s : Nat} {L M : List Nat} {e f : Int} (hr : RdIs w r L e) (hs : RdIs w s M f) (hc : Chg w w' (rdT r)) (hne : s ≠ r) : RdIs w' s M f := by
  obtain ⟨A, c, hr⟩ := hr
  obtain ⟨B, d, hs⟩ := hs
  exact ⟨B, d, hc.blk hs.blk hne, hc.at' hs.lie fun hm b off hb => hr.apart hs.lie hm b off hb, hs.len, hs.cap, hs.byte⟩
/-- A Reader of a copy, in blocks of its own. -/
def NewPost (w : World) (L : List Nat) (en : Ending) (w' : World) : Prop := ∃ r, en = .returned (.pointer (some ⟨r, 0, none⟩)) ∧ RdIs w' r L 0 ∧ w.heap.size ≤ r ∧ Below w.heap.size w w'
theorem wire.borrow_at (A : Option Addr) (c : Nat) (L : List Nat) (w : World) (hat : At w A L.length (byteAt L)) (h1 : L.length ≤ c) (h2 : c ≤ maxLen) (hb : ∀ x ∈ L, x < 256) :
    Calls Try.prog 71 #[.slice A L.length c] w fun en w' => ∃ r, en = .returned (.pointer (some ⟨r, 0, none⟩)) ∧ Rd w' r A c L 0 ∧ w.heap.size ≤ r ∧ Below w.heap.size w w' := by
  have HAT := Lib.hid hat; clear hat
  go_enter Try.func71, Try.ntmps71
  go_wp2
  go_ret
  exact ⟨w.heap.size, rfl, ⟨Blk.new w _ _, HAT.out.alloc _, h1, h2, hb⟩, Nat.le_refl _, (Below.refl _ _).alloc (Nat.le_refl _) _⟩
theorem wire.borrow_any (A : Option Addr) (c : Nat) (L : List Nat) (w : World) (hat : At w A L.length (byteAt L)) (h1 : L.length ≤ c) (h2 : c ≤ maxLen) (hb : ∀ x ∈ L, x < 256) :
    Calls Try.prog 71 #[.slice A L.length c] w (NewPost w L) :=
  (wire.borrow_at A c L w hat h1 h2 hb).mono fun _ _ ⟨r, h1, h2, h3, h4⟩ => ⟨r, h1, ⟨A, c, h2⟩, h3, h4⟩

/-- What piece answers, what is left, the error. -/
def rd.cut (n : Int) (L : List Nat) (e most : Int) : List Nat × List Nat × Int :=
  if e ≠ 0 then ([], L, e) else if n < 0 ∨ (L.length : Int) < n then ([], [], 2) else if most < n then ([], [], 3) else (L.take n.toNat, L.drop n.toNat, 0)
def rd.piece (L : List Nat) (e most : Int) : List Nat × List Nat × Int := rd.cut (rd.num L e).1 (rd.num L e).2.1 (rd.num L e).2.2 most

theorem rd.num_le (L : List Nat) (e : Int) : (rd.num L e).2.1.length ≤ L.length := by
  unfold rd.num
  split
  · exact Nat.le_refl _
  · split
    · exact Nat.zero_le _
    · rw [List.length_drop]; omega
theorem rd.piece_le (L : List Nat) (e most : Int) : (rd.piece L e most).1.length ≤ L.length := by
  have h := rd.num_le L e
  unfold rd.piece rd.cut
  split
  · exact Nat.zero_le _
  split
  · exact Nat.zero_le _
  split
  · exact Nat.zero_le _
  · rw [List.length_take]; omega
def PiecePost (w : World) (r : Nat) (P L : List Nat) (e : Int) (en : Ending) (w' : World) : Prop :=
  (∃ A c, en = .returned (.slice A P.length c) ∧ At w' A P.length (byteAt P) ∧ P.length ≤ maxLen ∧ ∀ x ∈ P, x < 256) ∧ RdIs w' r L e ∧ Chg w w' (rdT r)

/-- Bytes: a copy of the piece. -/
def BytesPost (w : World) (r : Nat) (P L : List Nat) (e : Int) (en : Ending) (w' : World) : Prop :=
  (∃ v, en = .returned v ∧ w'.ownsRow w.heap.size 5 1 v P.length (u8s P)) ∧ RdIs w' r L e ∧ Chg w w' (rdT r)
def TextPost (w : World) (r : Nat) (P L : List Nat) (e : Int) (en : Ending) (w' : World) : Prop :=
  en = .returned (.string (strOf P)) ∧ RdIs w' r L e ∧ Chg w w' (rdT r)
end Go.Proofs.Ytahncanmfjmfnaa

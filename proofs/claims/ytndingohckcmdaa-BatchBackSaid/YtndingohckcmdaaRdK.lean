/- A wire.Reader that is left alone; Borrow. -/
import Derived.Test.YtndingohckcmdaaRdA
namespace Go.Proofs.Ytndingohckcmdaa
open Go.RowKit

theorem RdIs.keep {w w' : World} {r : Nat} {L : List Nat} {e : Int} (h : RdIs w r L e) (hb : Below w.heap.size w w') : RdIs w' r L e := by
  obtain ⟨A, c, h⟩ := h
  exact ⟨A, c, (chg_of (P := fun _ => False) hb).blk h.blk id, h.lie.below hb (Nat.le_refl _), h.len, h.cap, h.byte⟩

/-- Another Reader stays as it was. -/
theorem RdIs.other {w w' : World} {r s : Nat} {L M : List Nat} {e f : Int} (hr : RdIs w r L e) (hs : RdIs w s M f) (hc : Chg w w' (rdT r)) (hne : s ≠ r) : RdIs w' s M f := by
  obtain ⟨A, c, hr⟩ := hr
  obtain ⟨B, d, hs⟩ := hs
  exact ⟨B, d, hc.blk hs.blk hne, hc.at' hs.lie fun hm b off hb => hr.apart hs.lie hm b off hb, hs.len, hs.cap, hs.byte⟩
/-- A Reader of a copy, in blocks of its own. -/
def NewPost (w : World) (L : List Nat) (en : Ending) (w' : World) : Prop := ∃ r, en = .returned (.pointer (some ⟨r, 0, none⟩)) ∧ RdIs w' r L 0 ∧ w.heap.size ≤ r ∧ Below w.heap.size w w'
theorem wire.borrow_at (A : Option Addr) (c : Nat) (L : List Nat) (w : World) (hat : At w A L.length (byteAt L)) (h1 : L.length ≤ c) (h2 : c ≤ maxLen) (hb : ∀ x ∈ L, x < 256) :
    Calls Try.prog 48 #[.slice A L.length c] w fun en w' => ∃ r, en = .returned (.pointer (some ⟨r, 0, none⟩)) ∧ Rd w' r A c L 0 ∧ w.heap.size ≤ r ∧ Below w.heap.size w w' := by
  have HAT := Lib.hid hat; clear hat
  go_enter Try.func48, Try.ntmps48
  go_wp2
  go_ret
  exact ⟨w.heap.size, rfl, ⟨Blk.new w _ _, HAT.out.alloc _, h1, h2, hb⟩, Nat.le_refl _, (Below.refl _ _).alloc (Nat.le_refl _) _⟩
theorem wire.borrow_any (A : Option Addr) (c : Nat) (L : List Nat) (w : World) (hat : At w A L.length (byteAt L)) (h1 : L.length ≤ c) (h2 : c ≤ maxLen) (hb : ∀ x ∈ L, x < 256) :
    Calls Try.prog 48 #[.slice A L.length c] w (NewPost w L) :=
  (wire.borrow_at A c L w hat h1 h2 hb).mono fun _ _ ⟨r, h1, h2, h3, h4⟩ => ⟨r, h1, ⟨A, c, h2⟩, h3, h4⟩
end Go.Proofs.Ytndingohckcmdaa

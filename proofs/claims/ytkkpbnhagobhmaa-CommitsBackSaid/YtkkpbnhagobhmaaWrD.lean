/- Contracts of wire.Writer: Done. -/
import Derived.Test.YtkkpbnhagobhmaaWrA
import Derived.Test.YtkkpbnhagobhmaaClone
namespace Go.Proofs.Ytkkpbnhagobhmaa
open Go.RowKit

/-- Done of a Writer that is not spoilt: a copy. -/
theorem wire.done_any (B p : Nat) (v : Value) (L : List Nat) (w : World) (h : Wr w B p v L false) (hL : L.length ≤ 70368744177664) :
    Calls Try.prog 49 #[.pointer (some ⟨p, 0, none⟩)] w fun e w' => (∃ u, e = .returned (.tuple #[u, .bool true]) ∧ w'.ownsRow w.heap.size 5 1 u L.length (u8s L)) ∧ Below w.heap.size w w' := by
  have hc0 := h.blk.cell 0 (v := v) rfl
  have hc1 := h.blk.cell 1 (v := .bool false) rfl
  obtain ⟨A, c, rfl, hc, _, hat⟩ := own_bytes h.row
  have HAT := Lib.hid hat; clear hat
  clear h
  go_enter Try.func49, Try.ntmps49
  go_wp2_with fail
  refine (clone_any A L.length c L w rfl (by omega) HAT.out).mono ?_
  rintro e w1 ⟨⟨u, rfl, hown⟩, hb⟩
  have HO := Lib.hid hown; clear hown
  have HB := Lib.hid hb; clear hb
  go_wp2
  go_ret2
  exact ⟨⟨_, rfl, HO.out⟩, HB.out⟩
theorem wire.done_bad (B p : Nat) (v : Value) (L : List Nat) (w : World) (h : Wr w B p v L true) :
    Calls Try.prog 49 #[.pointer (some ⟨p, 0, none⟩)] w fun e w' => e = .returned (.tuple #[.slice none 0 0, .bool false]) ∧ w = w' := by
  have hc0 := h.blk.cell 0 (v := v) rfl
  have hc1 := h.blk.cell 1 (v := .bool true) rfl
  clear h
  go_enter Try.func49, Try.ntmps49
  go_wp2
  go_ret2
  exact ⟨rfl, rfl⟩
end Go.Proofs.Ytkkpbnhagobhmaa

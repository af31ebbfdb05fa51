/- Contract of slices.Clone over bytes. -/
import Derived.Test.YtkkpbnhagobhmaaByte
import Derived.WalkSpells
namespace Go.Proofs.Ytkkpbnhagobhmaa
open Go.RowKit

set_option maxHeartbeats 800000 in
theorem clone_any (X : Option Addr) (m c : Nat) (L : List Nat) (w : World) (hl : L.length = m) (hm : m ≤ 140737488351232) (hat : At w X m (byteAt L)) :
    Calls Try.prog 67 #[.slice X m c] w fun e w' => (∃ v, e = .returned v ∧ w'.ownsRow w.heap.size 5 1 v m (u8s L)) ∧ Below w.heap.size w w' := by
  obtain ⟨i0, hi, hz0, hz1, hz2⟩ := info_parts infoByte
  cases X with
  | none =>
    have hm0 : m = 0 := by
      rcases Nat.eq_zero_or_pos m with h | h
      · exact h
      · obtain ⟨b, off, h1, _⟩ := hat h; cases h1
    subst hm0
    obtain rfl : L = [] := List.length_eq_zero_iff.1 hl
    go_enter Try.func67, Try.ntmps67
    have hn := Lib.run_eql_slice_nil (P := Try.prog) w 35 5 none 0 c 0 0 Try.underlying35
    go_wp2
    go_ret
    exact ⟨⟨_, rfl, World.ownsRow_nil _ _ _ _⟩, Below.refl _ _⟩
  | some a =>
    go_enter Try.func67, Try.ntmps67
    have hn := Lib.run_eql_slice_nil (P := Try.prog) w 35 5 (some a) m c 0 0 Try.underlying35
    have h0 : (w.alloc (.cells #[] 5)).ownsRow w.heap.size 5 1 (.slice (some ⟨w.heap.size, 0, none⟩) 0 0) 0 [] := World.ownsRow_made w #[] 0 (Nat.le_refl _) (by unfold maxLen; omega) (by simp)
    have H0 := Lib.hid h0; clear h0
    have HAT := Lib.hid hat; clear hat
    have HL := Lib.hid hl; clear hl
    go_wp2_with (at_builtin; refine wpList_app _ rfl (.tmp 5) (.tmp 6) 35 rfl w.heap.size 5 i0 _ 1 1 Try.underlying35 hi hz0 hz1 hz2 rfl (by decide) _ 0 [] rfl H0.out (some a) m c (byteAt L) rfl (by rw [Nat.mul_one]; exact HAT.out.alloc _) (fun j _ => byteAt_one L j) (by unfold maxLen; omega) (by omega) (by simp) ?_; intro v' w2 hown2 hg2)
    have hb2 : Below w.heap.size w w2 := ((Below.refl _ w).alloc (Nat.le_refl _) _).grown hg2 (by simp) (fun g hg => by cases hg; exact Nat.le_refl _)
    rw [List.nil_append, byteAt_cells_n L m HL.out, Nat.zero_add] at hown2
    have HB2 := Lib.hid hb2; clear hb2
    have HOWN2 := Lib.hid hown2; clear hown2
    clear hg2
    go_wp2
    go_ret
    exact ⟨⟨_, rfl, HOWN2.out⟩, HB2.out⟩
end Go.Proofs.Ytkkpbnhagobhmaa

/- Contract of wire.Reader's Fixed, whatever is left. -/
import Derived.Test.YtndingohckcmdaaRdX
namespace Go.Proofs.Ytndingohckcmdaa
open Go.RowKit

set_option maxRecDepth 20000 in
set_option maxHeartbeats 1600000 in
theorem wire.rfixed_bad (r : Nat) (A : Option Addr) (c : Nat) (L : List Nat) (size : Int) (w : World) (h : Rd w r A c L 0) (hbad : rd.fbad L size) :
    Calls Try.prog 49 #[.pointer (some ⟨r, 0, none⟩), .int .i64 size] w (RdPost w r (.int .i64 0) [] 2) := by
  have hc0 := h.blk.cell 0 (v := .slice A L.length c) rfl
  have H := Lib.hid h; clear h
  have hcase : size < 1 ∨ (¬ size < 1 ∧ 8 < size) ∨ (¬ size < 1 ∧ ¬ 8 < size ∧ (L.length : Int) < size) ∨ (size = 8 ∧ ¬ (L.length : Int) < size ∧ 128 ≤ L.getD 0 0) := by unfold rd.fbad at hbad; omega
  clear hbad
  rcases hcase with n1 | ⟨n1, n2⟩ | ⟨n1, n2, n3⟩ | ⟨n1, n3, n4⟩
  · go_enter Try.func49, Try.ntmps49
    go_wp2_with fail
    refine (wire.err_any r A c L 0 w H.out).mono ?_
    rintro en w' ⟨rfl, rfl⟩
    go_wp2_with fail
    refine (wire.fail_any r A c L 0 2 w H.out).mono ?_
    rintro en w1 ⟨rfl, hrd, hch⟩
    have HRD := Lib.hid hrd; clear hrd
    have HCH := Lib.hid hch; clear hch
    go_wp2
    go_ret
    exact ⟨rfl, HRD.out, HCH.out⟩
  · go_enter Try.func49, Try.ntmps49
    go_wp2_with fail
    refine (wire.err_any r A c L 0 w H.out).mono ?_
    rintro en w' ⟨rfl, rfl⟩
    go_wp2_with fail
    refine (wire.fail_any r A c L 0 2 w H.out).mono ?_
    rintro en w1 ⟨rfl, hrd, hch⟩
    have HRD := Lib.hid hrd; clear hrd
    have HCH := Lib.hid hch; clear hch
    go_wp2
    go_ret
    exact ⟨rfl, HRD.out, HCH.out⟩
  · go_enter Try.func49, Try.ntmps49
    go_wp2_with fail
    refine (wire.err_any r A c L 0 w H.out).mono ?_
    rintro en w' ⟨rfl, rfl⟩
    go_wp2_with fail
    refine (wire.fail_any r A c L 0 2 w H.out).mono ?_
    rintro en w1 ⟨rfl, hrd, hch⟩
    have HRD := Lib.hid hrd; clear hrd
    have HCH := Lib.hid hch; clear hch
    go_wp2
    go_ret
    exact ⟨rfl, HRD.out, HCH.out⟩
  · subst n1
    obtain ⟨b, off, rfl, hbb, hc⟩ := H.out.lie (by omega)
    obtain ⟨y, hy2⟩ : ∃ y, y = L.getD 0 0 := ⟨_, rfl⟩
    have hy : w.cell? ⟨b, off, none⟩ = some (.int .u8 (y : Int)) := by rw [hy2]; exact hc 0 (by omega)
    have hyb : (128 : Int) ≤ y := by omega
    have n3' : ¬ (L.length < 8) := by omega
    clear hc hy2 n4
    go_enter Try.func49, Try.ntmps49
    go_wp2_with fail
    refine (wire.err_any r _ c L 0 w H.out).mono ?_
    rintro en w' ⟨rfl, rfl⟩
    go_wp2_with fail
    refine (wire.fail_any r _ c L 0 2 w H.out).mono ?_
    rintro en w1 ⟨rfl, hrd, hch⟩
    have HRD := Lib.hid hrd; clear hrd
    have HCH := Lib.hid hch; clear hch
    go_wp2
    go_ret
    exact ⟨rfl, HRD.out, HCH.out⟩

set_option maxHeartbeats 800000 in
theorem wire.rfixed_any (r : Nat) (A : Option Addr) (c : Nat) (L : List Nat) (e size : Int) (w : World) (h : Rd w r A c L e) :
    Calls Try.prog 49 #[.pointer (some ⟨r, 0, none⟩), .int .i64 size] w (RdPost w r (.int .i64 (rd.fixed L e size).1) (rd.fixed L e size).2.1 (rd.fixed L e size).2.2) := by
  unfold rd.fixed
  by_cases he : e = 0
  · subst he
    rw [if_neg (by simp)]
    by_cases hbad : rd.fbad L size
    · rw [if_pos hbad]
      exact wire.rfixed_bad r A c L size w h hbad
    · rw [if_neg hbad]
      obtain ⟨n, rfl⟩ := Int.eq_ofNat_of_zero_le (show 0 ≤ size by unfold rd.fbad at hbad; omega)
      exact wire.rfixed_ok r A c L n w h hbad
  · rw [if_pos he]
    have he' : (e == 0) = false := by simpa using he
    have H := Lib.hid h; clear h he
    go_enter Try.func49, Try.ntmps49
    go_wp2_with fail
    refine (wire.err_any r A c L e w H.out).mono ?_
    rintro en w' ⟨rfl, rfl⟩
    go_wp2
    go_ret
    exact ⟨rfl, ⟨A, c, H.out⟩, Chg.refl _ _⟩
end Go.Proofs.Ytndingohckcmdaa

/- The law package's awake (cordwainlaw3): it answers true. -/
import Derived.Test.YtgkocnnkknodhaaRdK
import Derived.Test.YtgkocnnkknodhaaWrD
import Derived.Test.YtgkocnnkknodhaaRdB
import Derived.Test.YtgkocnnkknodhaaRdY
import Derived.Test.YtgkocnnkknodhaaWrX
namespace Go.Proofs.Ytgkocnnkknodhaa
open Go.RowKit

/-- A new Writer. -/
theorem wire.be258 : wire.be 258 2 = [1, 2] := by decide
theorem rd.f258 : rd.fixed [1, 2, 3] 0 2 = (258, [3], 0) := by decide
theorem rd.n3 : rd.num [3] 0 = (-2, [], 0) := by decide
theorem rd.n0 : rd.num [] 0 = (0, [], 2) := by decide

set_option maxRecDepth 20000 in
set_option maxHeartbeats 2000000 in
theorem wire.awake_any (w : World) : Calls Try.prog 15 #[] w fun e w' => e = .returned (.bool true) ∧ Below w.heap.size w w' := by
  go_enter Try.func15, Try.ntmps15
  go_wp2_with fail
  refine (wire.fixed_any w.heap.size w.heap.size _ [] false 258 2 _ (Wr.new w) (by simp) (by omega) (by omega) (by decide) (by omega)).mono ?_
  rintro e w1 ⟨rfl, v1, hw1, hc1, hl1⟩
  have hb1 : Below w.heap.size w w1 := ((Below.refl _ w).alloc (Nat.le_refl _) _).trans ((Wr.new w).below hc1)
  rw [List.nil_append, wire.be258] at hw1
  have HW1 := Lib.hid hw1; clear hw1
  have HB1 := Lib.hid hb1; clear hb1 hc1 hl1
  go_wp2_with fail
  refine (wire.done_any w.heap.size w.heap.size v1 [1, 2] w1 HW1.out (by simp)).mono ?_
  rintro e w2 ⟨⟨u, rfl, hown⟩, hb2⟩
  obtain ⟨A, c, rfl, _, -, hat⟩ := own_bytes hown
  obtain ⟨b, off, rfl, hbb, hc⟩ := hat (by decide)
  have hc0 : w2.cell? ⟨b, off, none⟩ = some (.int .u8 1) := hc 0 (by decide)
  have hc1 : w2.cell? ⟨b, off + 1, none⟩ = some (.int .u8 2) := hc 1 (by decide)
  have HB2 := Lib.hid (HB1.out.trans (hb2.mono HB1.out.size))
  clear hb2 hc hat hown HB1 HW1
  go_wp2_with fail
  refine (wire.new_any (some ⟨w2.heap.size, 0, none⟩) 3 [1, 2, 3] _ ((At.new w2 #[.int .u8 1, .int .u8 2, .int .u8 3] 5 (n := 3) rfl).congr fun j hj => by
    rcases j with _ | _ | _ | j
    · rfl
    · rfl
    · rfl
    · omega) (by simp) (by simp)).mono ?_
  rintro e w3 ⟨r, rfl, ⟨A3, c3, hrd⟩, hr, hb3⟩
  have hb3' : Below w2.heap.size w2 w3 := ((Below.refl _ w2).alloc (Nat.le_refl _) _).trans (hb3.mono (by simp))
  have hd0 : w3.cell? ⟨b, off, none⟩ = some (.int .u8 1) := (hb3'.cell (p := ⟨b, off, none⟩) hbb).trans hc0
  have hd1 : w3.cell? ⟨b, off + 1, none⟩ = some (.int .u8 2) := (hb3'.cell (p := ⟨b, off + 1, none⟩) hbb).trans hc1
  have HB3 := Lib.hid (HB2.out.trans (hb3'.mono HB2.out.size))
  have hwr : w.heap.size ≤ r := by have := HB2.out.size; simp at hr; omega
  have HRD := Lib.hid hrd; clear hrd hb3 hb3' hc0 hc1 HB2 hr hbb
  go_wp2_with fail
  have h4 := wire.rfixed_any r A3 c3 [1, 2, 3] 0 2 w3 HRD.out
  rw [rd.f258] at h4
  refine h4.mono ?_
  clear h4
  rintro e w4 ⟨rfl, ⟨A4, c4, hrd4⟩, hch4⟩
  have HB4 := Lib.hid (HB3.out.trans (hch4.below (B := w.heap.size) HB3.out.size fun k hk => by cases hk; exact hwr))
  have HRD4 := Lib.hid hrd4; clear hrd4 hch4 HB3 HRD
  go_wp2_with fail
  refine (wire.left_any r A4 c4 [3] 0 w4 HRD4.out).mono ?_
  rintro e w' ⟨rfl, rfl⟩
  go_wp2_with fail
  have h5 := wire.rnum_any r A4 c4 [3] 0 w4 HRD4.out
  rw [rd.n3] at h5
  refine h5.mono ?_
  clear h5
  rintro e w5 ⟨rfl, ⟨A5, c5, hrd5⟩, hch5⟩
  have HB5 := Lib.hid (HB4.out.trans (hch5.below (B := w.heap.size) HB4.out.size fun k hk => by cases hk; exact hwr))
  have HRD5 := Lib.hid hrd5; clear hrd5 hch5 HB4 HRD4
  go_wp2_with fail
  refine (wire.err_any r A5 c5 [] 0 w5 HRD5.out).mono ?_
  rintro e w' ⟨rfl, rfl⟩
  go_wp2_with fail
  have h6 := wire.rnum_any r A5 c5 [] 0 w5 HRD5.out
  rw [rd.n0] at h6
  refine h6.mono ?_
  clear h6
  rintro e w6 ⟨rfl, ⟨A6, c6, hrd6⟩, hch6⟩
  have HB6 := Lib.hid (HB5.out.trans (hch6.below (B := w.heap.size) HB5.out.size fun k hk => by cases hk; exact hwr))
  have HRD6 := Lib.hid hrd6; clear hrd6 hch6 HB5 HRD5
  go_wp2_with fail
  refine (wire.err_any r A6 c6 [] 2 w6 HRD6.out).mono ?_
  rintro e w' ⟨rfl, rfl⟩
  go_wp2
  go_ret
  exact ⟨rfl, HB6.out⟩
end Go.Proofs.Ytgkocnnkknodhaa

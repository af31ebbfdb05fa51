/- proto: requests compared by the document. -/
import Derived.Test.YtimcpbbcealkiaaPqS
namespace Go.Proofs.Ytimcpbbcealkiaa
open Go.RowKit

set_option maxRecDepth 20000 in
set_option maxHeartbeats 8000000 in
theorem pq.refsame_any (a b : PReq) (Aan : Option Addr) (can : Nat) (Aad : Option Addr) (cad : Nat) (Abn : Option Addr) (cbn : Nat) (Abd : Option Addr) (cbd : Nat) (w : World) (ha : ReqV w Aan can Aad cad a) (hb : ReqV w Abn cbn Abd cbd b) :
    Calls Try.prog 14 #[.agg (a.cells Aan can Aad cad), .agg (b.cells Abn cbn Abd cbd)] w fun e w' => e = .returned (.bool (decide (a.Same b))) ∧ Below w.heap.size w w' := by
  obtain ⟨D, hD⟩ : ∃ D : Bool, D = decide (a.Same b) := ⟨_, rfl⟩
  rw [← hD]
  have hno : ¬ a.Same b → Ending.returned (.bool false) = Ending.returned (.bool D) := fun h => by rw [hD, decide_eq_false h]
  have hyes : a.Same b → Ending.returned (.bool true) = Ending.returned (.bool D) := fun h => by rw [hD, decide_eq_true h]
  unfold PReq.Same at hno hyes
  have hnm : ∀ wx, Below w.heap.size w wx → Calls Try.prog 46 #[.slice Aan a.names.length can, .slice Abn b.names.length cbn] wx fun e w' => e = .returned (.bool (decide (a.names = b.names))) ∧ Below wx.heap.size wx w' := fun wx h => by
    obtain ⟨A1, c1, e1, h1, h2, h3, -⟩ := ha.2.1.below h (Nat.le_refl _)
    obtain ⟨A2, c2, e2, h4, h5, h6, -⟩ := hb.2.1.below h (Nat.le_refl _)
    obtain ⟨rfl, rfl⟩ : Aan = A1 ∧ can = c1 := by injection e1 with q1 q2 q3; exact ⟨q1, q3⟩
    obtain ⟨rfl, rfl⟩ : Abn = A2 ∧ cbn = c2 := by injection e2 with q1 q2 q3; exact ⟨q1, q3⟩
    exact pq.texts_any _ _ _ _ _ _ wx h1 (Nat.le_trans h2 h3) h4 (Nat.le_trans h5 h6)
  have hat1 : ∀ wx, Below w.heap.size w wx → At wx Aad a.data.length (byteAt a.data) := fun wx h => by
    obtain ⟨A1, c1, e1, h1, -⟩ := ha.2.2.below h (Nat.le_refl _)
    obtain ⟨rfl, rfl⟩ : Aad = A1 ∧ cad = c1 := by injection e1 with q1 q2 q3; exact ⟨q1, q3⟩
    exact h1
  have hat2 : ∀ wx, Below w.heap.size w wx → At wx Abd b.data.length (byteAt b.data) := fun wx h => by
    obtain ⟨A1, c1, e1, h1, -⟩ := hb.2.2.below h (Nat.le_refl _)
    obtain ⟨rfl, rfl⟩ : Abd = A1 ∧ cbd = c1 := by injection e1 with q1 q2 q3; exact ⟨q1, q3⟩
    exact h1
  have hcv1 := fun wx h => conv_any (P := Try.prog) (c := cad) Try.underlying23 Try.underlying5 Try.underlying9 a.data rfl (hat1 wx h)
  have hcv2 := fun wx h => conv_any (P := Try.prog) (c := cbd) Try.underlying23 Try.underlying5 Try.underlying9 b.data rfl (hat2 wx h)
  clear hat1 hat2 ha hb hD
  obtain ⟨a0, a1, a2, a3, a4, a5, a6, a7, a8, a9, a10, a11, a12⟩ := a
  obtain ⟨b0, b1, b2, b3, b4, b5, b6, b7, b8, b9, b10, b11, b12⟩ := b
  unfold PReq.cells
  dsimp only at *
  obtain ⟨na, hna⟩ : ∃ n, n = a12.length := ⟨_, rfl⟩
  obtain ⟨nb, hnb⟩ : ∃ n, n = b12.length := ⟨_, rfl⟩
  obtain ⟨sa, hsa⟩ : ∃ s, s = strOf a12 := ⟨_, rfl⟩
  obtain ⟨sb, hsb⟩ : ∃ s, s = strOf b12 := ⟨_, rfl⟩
  rw [← hsa, ← hsb] at hno hyes
  rw [← hsa, ← hna] at hcv1
  rw [← hsb, ← hnb] at hcv2
  rw [← hna, ← hnb]
  obtain ⟨ma, hma⟩ : ∃ n, n = a11.length := ⟨_, rfl⟩
  obtain ⟨mb, hmb⟩ : ∃ n, n = b11.length := ⟨_, rfl⟩
  rw [← hma, ← hmb] at hnm
  rw [← hma, ← hmb]
  have H := Lib.hid (And.intro hno (And.intro hyes (And.intro hnm (And.intro hcv1 hcv2)))); clear hno hyes hnm hcv1 hcv2 hna hnb hsa hsb hma hmb
  have hw2 := pq.two (w := w) (.cells #[.int .i64 a0, .int .i64 a1, .string a2, .string a3, .int .i64 a4, .int .i64 a5, .int .i64 a6, .int .i64 a7, .string a8, .string a9, .int .i64 a10, .slice Aan ma can, .slice Aad na cad] 25) (.cells #[.int .i64 b0, .int .i64 b1, .string b2, .string b3, .int .i64 b4, .int .i64 b5, .int .i64 b6, .int .i64 b7, .string b8, .string b9, .int .i64 b10, .slice Abn mb cbn, .slice Abd nb cbd] 25)
  have HW2 := Lib.hid hw2; clear hw2
  have hza : ∀ wz, Below ((w.alloc (.cells #[.int .i64 a0, .int .i64 a1, .string a2, .string a3, .int .i64 a4, .int .i64 a5, .int .i64 a6, .int .i64 a7, .string a8, .string a9, .int .i64 a10, .slice Aan ma can, .slice Aad na cad] 25)).alloc (.cells #[.int .i64 b0, .int .i64 b1, .string b2, .string b3, .int .i64 b4, .int .i64 b5, .int .i64 b6, .int .i64 b7, .string b8, .string b9, .int .i64 b10, .slice Abn mb cbn, .slice Abd nb cbd] 25)).heap.size ((w.alloc (.cells #[.int .i64 a0, .int .i64 a1, .string a2, .string a3, .int .i64 a4, .int .i64 a5, .int .i64 a6, .int .i64 a7, .string a8, .string a9, .int .i64 a10, .slice Aan ma can, .slice Aad na cad] 25)).alloc (.cells #[.int .i64 b0, .int .i64 b1, .string b2, .string b3, .int .i64 b4, .int .i64 b5, .int .i64 b6, .int .i64 b7, .string b8, .string b9, .int .i64 b10, .slice Abn mb cbn, .slice Abd nb cbd] 25)) wz → Blk wz w.heap.size 25 #[.int .i64 a0, .int .i64 a1, .string a2, .string a3, .int .i64 a4, .int .i64 a5, .int .i64 a6, .int .i64 a7, .string a8, .string a9, .int .i64 a10, .slice Aan ma can, .slice Aad na cad] := fun wz h =>
    (chg_of (P := fun _ => False) h).blk ((Chg.alloc _ _ (fun _ => False)).blk (Blk.new w _ _) fun q => q) fun q => q
  have hzb : ∀ wz, Below ((w.alloc (.cells #[.int .i64 a0, .int .i64 a1, .string a2, .string a3, .int .i64 a4, .int .i64 a5, .int .i64 a6, .int .i64 a7, .string a8, .string a9, .int .i64 a10, .slice Aan ma can, .slice Aad na cad] 25)).alloc (.cells #[.int .i64 b0, .int .i64 b1, .string b2, .string b3, .int .i64 b4, .int .i64 b5, .int .i64 b6, .int .i64 b7, .string b8, .string b9, .int .i64 b10, .slice Abn mb cbn, .slice Abd nb cbd] 25)).heap.size ((w.alloc (.cells #[.int .i64 a0, .int .i64 a1, .string a2, .string a3, .int .i64 a4, .int .i64 a5, .int .i64 a6, .int .i64 a7, .string a8, .string a9, .int .i64 a10, .slice Aan ma can, .slice Aad na cad] 25)).alloc (.cells #[.int .i64 b0, .int .i64 b1, .string b2, .string b3, .int .i64 b4, .int .i64 b5, .int .i64 b6, .int .i64 b7, .string b8, .string b9, .int .i64 b10, .slice Abn mb cbn, .slice Abd nb cbd] 25)) wz → Blk wz (w.heap.size + 1) 25 #[.int .i64 b0, .int .i64 b1, .string b2, .string b3, .int .i64 b4, .int .i64 b5, .int .i64 b6, .int .i64 b7, .string b8, .string b9, .int .i64 b10, .slice Abn mb cbn, .slice Abd nb cbd] := fun wz h => by
    have h1 := (chg_of (P := fun _ => False) h).blk (Blk.new (w.alloc (.cells #[.int .i64 a0, .int .i64 a1, .string a2, .string a3, .int .i64 a4, .int .i64 a5, .int .i64 a6, .int .i64 a7, .string a8, .string a9, .int .i64 a10, .slice Aan ma can, .slice Aad na cad] 25)) 25 #[.int .i64 b0, .int .i64 b1, .string b2, .string b3, .int .i64 b4, .int .i64 b5, .int .i64 b6, .int .i64 b7, .string b8, .string b9, .int .i64 b10, .slice Abn mb cbn, .slice Abd nb cbd]) fun q => q
    rw [World.size_alloc] at h1
    exact h1
  have HZ := Lib.hid (And.intro hza hzb); clear hza hzb
  go_enter Try.func14, Try.ntmps14
  go_wp2_with fail
  all_goals (first
    | (go_ret; exact ⟨H.out.1 (by intro h; first | exact absurd h.1 ‹¬ a0 = b0› | exact absurd h.2.1 ‹¬ a1 = b1› | exact absurd (congrArg ByteArray.toList h.2.2.1) ‹¬ a2.toList = b2.toList› | exact absurd (congrArg ByteArray.toList h.2.2.2.1) ‹¬ a3.toList = b3.toList› | exact absurd h.2.2.2.2.1 ‹¬ a4 = b4› | exact absurd h.2.2.2.2.2.1 ‹¬ a5 = b5› | exact absurd h.2.2.2.2.2.2.1 ‹¬ a6 = b6› | exact absurd h.2.2.2.2.2.2.2.1 ‹¬ a7 = b7› | exact absurd (congrArg ByteArray.toList h.2.2.2.2.2.2.2.2.1) ‹¬ a8.toList = b8.toList› | exact absurd (congrArg ByteArray.toList h.2.2.2.2.2.2.2.2.2.1) ‹¬ a9.toList = b9.toList› | exact absurd h.2.2.2.2.2.2.2.2.2.2.1 ‹¬ a10 = b10›), pq.two _ _⟩)
    | skip)
  obtain rfl : a0 = b0 := ‹a0 = b0›
  obtain rfl : a1 = b1 := ‹a1 = b1›
  obtain rfl : a2 = b2 := pq.toList_inj ‹a2.toList = b2.toList›
  obtain rfl : a3 = b3 := pq.toList_inj ‹a3.toList = b3.toList›
  obtain rfl : a4 = b4 := ‹a4 = b4›
  obtain rfl : a5 = b5 := ‹a5 = b5›
  obtain rfl : a6 = b6 := ‹a6 = b6›
  obtain rfl : a7 = b7 := ‹a7 = b7›
  obtain rfl : a8 = b8 := pq.toList_inj ‹a8.toList = b8.toList›
  obtain rfl : a9 = b9 := pq.toList_inj ‹a9.toList = b9.toList›
  obtain rfl : a10 = b10 := ‹a10 = b10›
  have q11 := H.out.2.2.1 _ HW2.out
  by_cases e11 : a11 = b11
  · rw [decide_eq_true e11] at q11
    have E11 := Lib.hid e11; clear e11
    refine q11.mono ?_
    rintro e wz11 ⟨rfl, hz⟩
    have hzz11 := hz
    have B11 := Lib.hid (HW2.out.trans (hz.mono HW2.out.size)); clear hz
    clear q11
    have hz11 := hzz11; clear hzz11
    have ka11 := HZ.out.1 wz11 hz11
    have kb11 := HZ.out.2 wz11 hz11
    have xa11 : wz11.cell? ⟨w.heap.size, 12, none⟩ = some (.slice Aad na cad) := ka11.cell 12 rfl
    have xb11 : wz11.cell? ⟨w.heap.size + 1, 12, none⟩ = some (.slice Abd nb cbd) := kb11.cell 12 rfl
    have la11 := ka11.lt
    have lb11 := kb11.lt
    have HZ11 := Lib.hid hz11; clear hz11 ka11 kb11
    have cv1 := H.out.2.2.2.1 wz11 B11.out
    have cv2 := H.out.2.2.2.2 wz11 B11.out
    by_cases e12 : sa = sb
    · subst e12
      go_wp2_with fail
      go_ret
      exact ⟨H.out.2.1 ⟨(by first | rfl | trivial), (by first | rfl | trivial), (by first | rfl | trivial), (by first | rfl | trivial), (by first | rfl | trivial), (by first | rfl | trivial), (by first | rfl | trivial), (by first | rfl | trivial), (by first | rfl | trivial), (by first | rfl | trivial), (by first | rfl | trivial), E11.out, (by first | rfl | trivial)⟩, B11.out⟩
    · have n12 := pq.text_ne e12
      go_wp2_with fail
      go_ret
      exact ⟨H.out.1 fun h => e12 h.2.2.2.2.2.2.2.2.2.2.2.2, B11.out⟩
  · rw [decide_eq_false e11] at q11
    have E11 := Lib.hid e11; clear e11
    refine q11.mono ?_
    rintro e wz11 ⟨rfl, hz⟩
    have hzz11 := hz
    have B11 := Lib.hid (HW2.out.trans (hz.mono HW2.out.size)); clear hz hzz11
    clear q11
    go_wp2_with fail
    go_ret
    exact ⟨H.out.1 fun h => E11.out h.2.2.2.2.2.2.2.2.2.2.2.1, B11.out⟩
end Go.Proofs.Ytimcpbbcealkiaa

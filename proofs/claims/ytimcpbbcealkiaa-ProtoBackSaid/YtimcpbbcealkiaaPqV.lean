/- proto: answers compared by the program. -/
import Derived.Test.YtimcpbbcealkiaaPqS
namespace Go.Proofs.Ytimcpbbcealkiaa
open Go.RowKit

set_option maxRecDepth 20000 in
set_option maxHeartbeats 8000000 in
theorem pq.alike_any (a b : PAns) (Aan : Option Addr) (can : Nat) (Aam : Option Addr) (cam : Nat) (Aad : Option Addr) (cad : Nat) (Abn : Option Addr) (cbn : Nat) (Abm : Option Addr) (cbm : Nat) (Abd : Option Addr) (cbd : Nat) (w : World) (ha : AnsV w Aan can Aam cam Aad cad a) (hb : AnsV w Abn cbn Abm cbm Abd cbd b) :
    Calls Try.prog 20 #[.agg (a.cells Aan can Aam cam Aad cad), .agg (b.cells Abn cbn Abm cbm Abd cbd)] w fun e w' => e = .returned (.bool (decide (a.Same b))) ∧ Below w.heap.size w w' := by
  obtain ⟨D, hD⟩ : ∃ D : Bool, D = decide (a.Same b) := ⟨_, rfl⟩
  rw [← hD]
  have hno : ¬ a.Same b → Ending.returned (.bool false) = Ending.returned (.bool D) := fun h => by rw [hD, decide_eq_false h]
  have hyes : a.Same b → Ending.returned (.bool true) = Ending.returned (.bool D) := fun h => by rw [hD, decide_eq_true h]
  unfold PAns.Same at hno hyes
  have hnm : ∀ wx, Below w.heap.size w wx → Calls Try.prog 47 #[.slice Aan a.names.length can, .slice Abn b.names.length cbn] wx fun e w' => e = .returned (.bool (decide (a.names = b.names))) ∧ Below wx.heap.size wx w' := fun wx h => by
    obtain ⟨A1, c1, e1, h1, h2, h3, -⟩ := ha.2.1.below h (Nat.le_refl _)
    obtain ⟨A2, c2, e2, h4, h5, h6, -⟩ := hb.2.1.below h (Nat.le_refl _)
    obtain ⟨rfl, rfl⟩ : Aan = A1 ∧ can = c1 := by injection e1 with q1 q2 q3; exact ⟨q1, q3⟩
    obtain ⟨rfl, rfl⟩ : Abn = A2 ∧ cbn = c2 := by injection e2 with q1 q2 q3; exact ⟨q1, q3⟩
    exact pq.eqs_any _ _ _ _ _ _ wx h1 (Nat.le_trans h2 h3) h4 (Nat.le_trans h5 h6)
  have hni : ∀ wx, Below w.heap.size w wx → Calls Try.prog 50 #[.slice Aam a.nums.length cam, .slice Abm b.nums.length cbm] wx fun e w' => e = .returned (.bool (decide (a.nums = b.nums))) ∧ Below wx.heap.size wx w' := fun wx h => by
    obtain ⟨A1, c1, e1, h1, h2, h3, -⟩ := ha.2.2.1.below h (Nat.le_refl _)
    obtain ⟨A2, c2, e2, h4, h5, h6, -⟩ := hb.2.2.1.below h (Nat.le_refl _)
    obtain ⟨rfl, rfl⟩ : Aam = A1 ∧ cam = c1 := by injection e1 with q1 q2 q3; exact ⟨q1, q3⟩
    obtain ⟨rfl, rfl⟩ : Abm = A2 ∧ cbm = c2 := by injection e2 with q1 q2 q3; exact ⟨q1, q3⟩
    exact pq.eqi_any _ _ _ _ _ _ wx h1 (Nat.le_trans h2 h3) h4 (Nat.le_trans h5 h6)
  have hat1 : ∀ wx, Below w.heap.size w wx → At wx Aad a.data.length (byteAt a.data) := fun wx h => by
    obtain ⟨A1, c1, e1, h1, -⟩ := ha.2.2.2.below h (Nat.le_refl _)
    obtain ⟨rfl, rfl⟩ : Aad = A1 ∧ cad = c1 := by injection e1 with q1 q2 q3; exact ⟨q1, q3⟩
    exact h1
  have hat2 : ∀ wx, Below w.heap.size w wx → At wx Abd b.data.length (byteAt b.data) := fun wx h => by
    obtain ⟨A1, c1, e1, h1, -⟩ := hb.2.2.2.below h (Nat.le_refl _)
    obtain ⟨rfl, rfl⟩ : Abd = A1 ∧ cbd = c1 := by injection e1 with q1 q2 q3; exact ⟨q1, q3⟩
    exact h1
  have heq := fun wx h => pq.equal_any Aad cad a.data Abd cbd b.data wx (hat1 wx h) (hat2 wx h)
  clear hat1 hat2 ha hb hD
  obtain ⟨a0, a1, a2, a3, a4, a5, a6, a7, a8, a9⟩ := a
  obtain ⟨b0, b1, b2, b3, b4, b5, b6, b7, b8, b9⟩ := b
  unfold PAns.cells
  dsimp only at *
  obtain ⟨na, hna⟩ : ∃ n, n = a9.length := ⟨_, rfl⟩
  obtain ⟨nb, hnb⟩ : ∃ n, n = b9.length := ⟨_, rfl⟩
  obtain ⟨sa, hsa⟩ : ∃ s, s = strOf a9 := ⟨_, rfl⟩
  obtain ⟨sb, hsb⟩ : ∃ s, s = strOf b9 := ⟨_, rfl⟩
  rw [← hsa, ← hsb] at hno hyes
  rw [← hsa, ← hsb, ← hna, ← hnb] at heq
  rw [← hna, ← hnb]
  obtain ⟨ma, hma⟩ : ∃ n, n = a7.length := ⟨_, rfl⟩
  obtain ⟨mb, hmb⟩ : ∃ n, n = b7.length := ⟨_, rfl⟩
  rw [← hma, ← hmb] at hnm
  rw [← hma, ← hmb]
  obtain ⟨ka, hka⟩ : ∃ n, n = a8.length := ⟨_, rfl⟩
  obtain ⟨kb, hkb⟩ : ∃ n, n = b8.length := ⟨_, rfl⟩
  rw [← hka, ← hkb] at hni
  rw [← hka, ← hkb]
  have H := Lib.hid (And.intro hno (And.intro hyes (And.intro hnm (And.intro hni heq)))); clear hno hyes hnm hni heq hna hnb hsa hsb hma hmb hka hkb
  have hw2 := pq.two (w := w) (.cells #[.int .i64 a0, .int .i64 a1, .int .i64 a2, .int .i64 a3, .int .i64 a4, .string a5, .string a6, .slice Aan ma can, .slice Aam ka cam, .slice Aad na cad] 41) (.cells #[.int .i64 b0, .int .i64 b1, .int .i64 b2, .int .i64 b3, .int .i64 b4, .string b5, .string b6, .slice Abn mb cbn, .slice Abm kb cbm, .slice Abd nb cbd] 41)
  have HW2 := Lib.hid hw2; clear hw2
  have hza : ∀ wz, Below ((w.alloc (.cells #[.int .i64 a0, .int .i64 a1, .int .i64 a2, .int .i64 a3, .int .i64 a4, .string a5, .string a6, .slice Aan ma can, .slice Aam ka cam, .slice Aad na cad] 41)).alloc (.cells #[.int .i64 b0, .int .i64 b1, .int .i64 b2, .int .i64 b3, .int .i64 b4, .string b5, .string b6, .slice Abn mb cbn, .slice Abm kb cbm, .slice Abd nb cbd] 41)).heap.size ((w.alloc (.cells #[.int .i64 a0, .int .i64 a1, .int .i64 a2, .int .i64 a3, .int .i64 a4, .string a5, .string a6, .slice Aan ma can, .slice Aam ka cam, .slice Aad na cad] 41)).alloc (.cells #[.int .i64 b0, .int .i64 b1, .int .i64 b2, .int .i64 b3, .int .i64 b4, .string b5, .string b6, .slice Abn mb cbn, .slice Abm kb cbm, .slice Abd nb cbd] 41)) wz → Blk wz w.heap.size 41 #[.int .i64 a0, .int .i64 a1, .int .i64 a2, .int .i64 a3, .int .i64 a4, .string a5, .string a6, .slice Aan ma can, .slice Aam ka cam, .slice Aad na cad] := fun wz h =>
    (chg_of (P := fun _ => False) h).blk ((Chg.alloc _ _ (fun _ => False)).blk (Blk.new w _ _) fun q => q) fun q => q
  have hzb : ∀ wz, Below ((w.alloc (.cells #[.int .i64 a0, .int .i64 a1, .int .i64 a2, .int .i64 a3, .int .i64 a4, .string a5, .string a6, .slice Aan ma can, .slice Aam ka cam, .slice Aad na cad] 41)).alloc (.cells #[.int .i64 b0, .int .i64 b1, .int .i64 b2, .int .i64 b3, .int .i64 b4, .string b5, .string b6, .slice Abn mb cbn, .slice Abm kb cbm, .slice Abd nb cbd] 41)).heap.size ((w.alloc (.cells #[.int .i64 a0, .int .i64 a1, .int .i64 a2, .int .i64 a3, .int .i64 a4, .string a5, .string a6, .slice Aan ma can, .slice Aam ka cam, .slice Aad na cad] 41)).alloc (.cells #[.int .i64 b0, .int .i64 b1, .int .i64 b2, .int .i64 b3, .int .i64 b4, .string b5, .string b6, .slice Abn mb cbn, .slice Abm kb cbm, .slice Abd nb cbd] 41)) wz → Blk wz (w.heap.size + 1) 41 #[.int .i64 b0, .int .i64 b1, .int .i64 b2, .int .i64 b3, .int .i64 b4, .string b5, .string b6, .slice Abn mb cbn, .slice Abm kb cbm, .slice Abd nb cbd] := fun wz h => by
    have h1 := (chg_of (P := fun _ => False) h).blk (Blk.new (w.alloc (.cells #[.int .i64 a0, .int .i64 a1, .int .i64 a2, .int .i64 a3, .int .i64 a4, .string a5, .string a6, .slice Aan ma can, .slice Aam ka cam, .slice Aad na cad] 41)) 41 #[.int .i64 b0, .int .i64 b1, .int .i64 b2, .int .i64 b3, .int .i64 b4, .string b5, .string b6, .slice Abn mb cbn, .slice Abm kb cbm, .slice Abd nb cbd]) fun q => q
    rw [World.size_alloc] at h1
    exact h1
  have HZ := Lib.hid (And.intro hza hzb); clear hza hzb
  go_enter Try.func20, Try.ntmps20
  go_wp2_with fail
  all_goals (first
    | (go_ret; exact ⟨H.out.1 (by intro h; first | exact absurd h.1 ‹¬ a0 = b0› | exact absurd h.2.1 ‹¬ a1 = b1› | exact absurd h.2.2.1 ‹¬ a2 = b2› | exact absurd h.2.2.2.1 ‹¬ a3 = b3› | exact absurd h.2.2.2.2.1 ‹¬ a4 = b4› | exact absurd (congrArg ByteArray.toList h.2.2.2.2.2.1) ‹¬ a5.toList = b5.toList› | exact absurd (congrArg ByteArray.toList h.2.2.2.2.2.2.1) ‹¬ a6.toList = b6.toList›), pq.two _ _⟩)
    | skip)
  obtain rfl : a0 = b0 := ‹a0 = b0›
  obtain rfl : a1 = b1 := ‹a1 = b1›
  obtain rfl : a2 = b2 := ‹a2 = b2›
  obtain rfl : a3 = b3 := ‹a3 = b3›
  obtain rfl : a4 = b4 := ‹a4 = b4›
  obtain rfl : a5 = b5 := pq.toList_inj ‹a5.toList = b5.toList›
  obtain rfl : a6 = b6 := pq.toList_inj ‹a6.toList = b6.toList›
  have q7 := H.out.2.2.1 _ HW2.out
  by_cases e7 : a7 = b7
  · rw [decide_eq_true e7] at q7
    have E7 := Lib.hid e7; clear e7
    refine q7.mono ?_
    rintro e wz7 ⟨rfl, hz⟩
    have hzz7 := hz
    have B7 := Lib.hid (HW2.out.trans (hz.mono HW2.out.size)); clear hz
    clear q7
    have hz7 := hzz7; clear hzz7
    have ka7 := HZ.out.1 wz7 hz7
    have kb7 := HZ.out.2 wz7 hz7
    have xa7 : wz7.cell? ⟨w.heap.size, 8, none⟩ = some (.slice Aam ka cam) := ka7.cell 8 rfl
    have xb7 : wz7.cell? ⟨w.heap.size + 1, 8, none⟩ = some (.slice Abm kb cbm) := kb7.cell 8 rfl
    have la7 := ka7.lt
    have lb7 := kb7.lt
    have HZ7 := Lib.hid hz7; clear hz7 ka7 kb7
    go_wp2_with fail
    have q8 := H.out.2.2.2.1 _ B7.out
    by_cases e8 : a8 = b8
    · rw [decide_eq_true e8] at q8
      have E8 := Lib.hid e8; clear e8
      refine q8.mono ?_
      rintro e wz8 ⟨rfl, hz⟩
      have hzz8 := HZ7.out.trans (hz.mono HZ7.out.size)
      have B8 := Lib.hid (B7.out.trans (hz.mono B7.out.size)); clear hz
      clear q8
      have hz8 := hzz8; clear hzz8
      have ka8 := HZ.out.1 wz8 hz8
      have kb8 := HZ.out.2 wz8 hz8
      have xa8 : wz8.cell? ⟨w.heap.size, 9, none⟩ = some (.slice Aad na cad) := ka8.cell 9 rfl
      have xb8 : wz8.cell? ⟨w.heap.size + 1, 9, none⟩ = some (.slice Abd nb cbd) := kb8.cell 9 rfl
      have la8 := ka8.lt
      have lb8 := kb8.lt
      have HZ8 := Lib.hid hz8; clear hz8 ka8 kb8
      go_wp2_with fail
      have q9 := H.out.2.2.2.2 _ B8.out
      by_cases e9 : sa = sb
      · rw [decide_eq_true e9] at q9
        have E9 := Lib.hid e9; clear e9
        refine q9.mono ?_
        rintro e wz9 ⟨rfl, hz⟩
        subst hz
        clear q9
        go_wp2_with fail
        go_ret
        exact ⟨H.out.2.1 ⟨(by first | rfl | trivial), (by first | rfl | trivial), (by first | rfl | trivial), (by first | rfl | trivial), (by first | rfl | trivial), (by first | rfl | trivial), (by first | rfl | trivial), E7.out, E8.out, E9.out⟩, B8.out⟩
      · rw [decide_eq_false e9] at q9
        have E9 := Lib.hid e9; clear e9
        refine q9.mono ?_
        rintro e wz9 ⟨rfl, hz⟩
        subst hz
        clear q9
        go_wp2_with fail
        go_ret
        exact ⟨H.out.1 fun h => E9.out h.2.2.2.2.2.2.2.2.2, B8.out⟩
    · rw [decide_eq_false e8] at q8
      have E8 := Lib.hid e8; clear e8
      refine q8.mono ?_
      rintro e wz8 ⟨rfl, hz⟩
      have hzz8 := HZ7.out.trans (hz.mono HZ7.out.size)
      have B8 := Lib.hid (B7.out.trans (hz.mono B7.out.size)); clear hz hzz8
      clear q8
      go_wp2_with fail
      go_ret
      exact ⟨H.out.1 fun h => E8.out h.2.2.2.2.2.2.2.2.1, B8.out⟩
  · rw [decide_eq_false e7] at q7
    have E7 := Lib.hid e7; clear e7
    refine q7.mono ?_
    rintro e wz7 ⟨rfl, hz⟩
    have hzz7 := hz
    have B7 := Lib.hid (HW2.out.trans (hz.mono HW2.out.size)); clear hz hzz7
    clear q7
    go_wp2_with fail
    go_ret
    exact ⟨H.out.1 fun h => E7.out h.2.2.2.2.2.2.2.1, B7.out⟩
end Go.Proofs.Ytimcpbbcealkiaa

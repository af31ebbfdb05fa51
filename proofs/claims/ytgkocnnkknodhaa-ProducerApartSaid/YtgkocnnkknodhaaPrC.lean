/- producer: contracts of New, Next and slices.Clone over what came. -/
import Derived.Test.YtgkocnnkknodhaaPrB
import Derived.Test.YtgkocnnkknodhaaClone
namespace Go.Proofs.Ytgkocnnkknodhaa
open Go.RowKit

theorem infoSent : (Try.prog.info? 143).map (fun i => (i.zero, i.size, i.bytes)) = some (some (.agg #[.int .i64 0, .int .i64 0, .int .i64 0]), 3, 24) := by kernel_rfl
theorem sentAt_one (l : List Sent) (j : Nat) (hj : j < l.length * 3) : (sentAt l j).oneCell' = true := by
  obtain ⟨k, r, hr, rfl⟩ : ∃ k r, r < 3 ∧ j = k * 3 + r := ⟨j / 3, j % 3, Nat.mod_lt _ (by omega), by omega⟩
  have hk : k < l.length := by omega
  obtain ⟨h0, h1, h2⟩ := sentAt_at (List.getElem?_eq_getElem hk)
  match r, hr with
  | 0, _ => rw [Nat.add_zero, h0]; rfl
  | 1, _ => rw [h1]; rfl
  | 2, _ => rw [h2]; rfl
theorem sentAt_cells (l : List Sent) : cellsOf (l.length * 3) (sentAt l) = sentCells l := by
  apply List.ext_getElem?
  intro i
  have hl := sentCells_length l
  by_cases hi : i < l.length * 3
  · simp [cellsOf, hi, sentAt, List.getD, List.getElem?_eq_getElem (show i < (sentCells l).length by omega)]
  · rw [List.getElem?_eq_none (by simp [cellsOf]; omega), List.getElem?_eq_none (by omega)]

set_option maxHeartbeats 800000 in
theorem clone_sent (X : Option Addr) (m c : Nat) (L : List Sent) (w : World) (hl : L.length = m) (hm : m ≤ 1000000) (hat : At w X (m * 3) (sentAt L)) :
    Calls Try.prog 83 #[.slice X m c] w fun e w' => (∃ v, e = .returned v ∧ w'.ownsRow w.heap.size 143 3 v m (sentCells L)) ∧ Below w.heap.size w w' := by
  obtain ⟨i0, hi, hz0, hz1, hz2⟩ := info_parts infoSent
  cases X with
  | none =>
    have hm0 : m = 0 := by
      rcases Nat.eq_zero_or_pos m with h | h
      · exact h
      · obtain ⟨b, off, h1, _⟩ := hat (by omega); cases h1
    subst hm0
    obtain rfl : L = [] := List.length_eq_zero_iff.1 hl
    go_enter Try.func83, Try.ntmps83
    have hn := Lib.run_eql_slice_nil (P := Try.prog) w 137 143 none 0 c 0 0 Try.underlying137
    go_wp2
    go_ret
    exact ⟨⟨_, rfl, World.ownsRow_nil _ _ _ _⟩, Below.refl _ _⟩
  | some a =>
    go_enter Try.func83, Try.ntmps83
    have hn := Lib.run_eql_slice_nil (P := Try.prog) w 137 143 (some a) m c 0 0 Try.underlying137
    have h0 : (w.alloc (.cells #[] 143)).ownsRow w.heap.size 143 3 (.slice (some ⟨w.heap.size, 0, none⟩) 0 0) 0 [] := World.ownsRow_made w #[] 0 (Nat.le_refl _) (by unfold maxLen; omega) (by simp)
    have H0 := Lib.hid h0; clear h0
    have HAT := Lib.hid hat; clear hat
    have HL := Lib.hid hl; clear hl
    go_wp2_with (at_builtin; refine wpList_app _ rfl (.tmp 5) (.tmp 6) 137 rfl w.heap.size 143 i0 _ 3 24 Try.underlying137 hi hz0 hz1 hz2 rfl (by decide) _ 0 [] rfl H0.out (some a) m c (sentAt L) rfl (HAT.out.alloc _) (fun j hj => sentAt_one L j (by rw [HL.out]; exact hj)) (by unfold maxLen; omega) (by omega) (by simp) ?_; intro v' w2 hown2 hg2)
    have hb2 : Below w.heap.size w w2 := ((Below.refl _ w).alloc (Nat.le_refl _) _).grown hg2 (by simp) (fun g hg => by cases hg; exact Nat.le_refl _)
    rw [List.nil_append, ← HL.out, sentAt_cells, Nat.zero_add, HL.out] at hown2
    have HB2 := Lib.hid hb2; clear hb2
    have HOWN2 := Lib.hid hown2; clear hown2
    clear hg2
    go_wp2
    go_ret
    exact ⟨⟨_, rfl, HOWN2.out⟩, HB2.out⟩

theorem PTab.made {w w' : World} {b t : Nat} (h1 : Blk w' t 136 #[.map (some b)]) (h2 : GM intKey w' b 0 (fun _ => none)) (hb : w.heap.size ≤ b) (ht : w.heap.size ≤ t) : PTab w' t 0 (fun _ => none) (fun k => w.heap.size ≤ k) :=
  ⟨b, fun _ => none, h1, h2, ⟨fun _ _ => by simp, fun _ _ _ q => (nomatch q), fun _ _ _ _ _ _ _ _ _ q => (nomatch q)⟩, ht, hb⟩

theorem prod.new_any (w : World) :
    Calls Try.prog 30 #[] w fun e w' => (∃ t, e = .returned (.pointer (some ⟨t, 0, none⟩)) ∧ PTab w' t 0 (fun _ => none) (fun k => w.heap.size ≤ k)) ∧ Below w.heap.size w w' := by
  have hmm := @run_makeMap Try.prog
  go_enter Try.func30, Try.ntmps30
  go_wp2
  go_ret
  refine ⟨⟨_, rfl, PTab.made (by have := Blk.new (w.alloc (.map #[] 0)) 136 #[.map (some w.heap.size)]; simpa using this) ((GM.made intKey w).chg (Chg.alloc _ _ (fun _ => False)) id) (Nat.le_refl _) (by simp)⟩, ?_⟩
  go_grown

/-- What Next answers, of the producer's row. -/
def prod.nx (r : Option PRow) : Ending := match r with | none => .returned (.tuple #[.int .i64 0, .int .i64 0, .bool false]) | some r => .returned (.tuple #[.int .i64 r.epoch, .int .i64 r.next, .bool true])
set_option maxRecDepth 20000 in
set_option maxHeartbeats 2000000 in
theorem prod.tnext_any (p : Option Addr) (N : Nat) (g : Int → Option PRow) (Bs : Nat → Prop) (P : Int) (w : World) (hT : PTabN w p N g Bs) (hP : intOk P) :
    Calls Try.prog 33 #[.pointer p, .int .i64 P] w fun e w' => e = prod.nx (g P) ∧ Below w.heap.size w w' := by
  obtain ⟨mb, ⟨gv, hm, hr⟩, hmb⟩ := hT.map
  have hall := prod.all_any p mb w hmb
  have hlk : (Instr.lookup 134 (.map mb) (.int .i64 P) true).run Try.prog w = _ := hm.look Try.underlying134 (zero_row w) P hP
  have HALL := Lib.hid hall; clear hall
  have HR := Lib.hid hr; clear hr
  clear hm hmb hT
  rcases HR.out.look hP with ⟨h1, h2⟩ | ⟨r, A', c', h1, h2, h3, h4, -⟩
  · rw [h2] at hlk
    have HG := Lib.hid h1; clear h1
    simp only [Option.getD_none, Option.isSome_none] at hlk
    go_enter Try.func33, Try.ntmps33
    go_wp2_with fail
    refine HALL.out.mono ?_
    rintro e w' ⟨rfl, rfl⟩
    go_wp2
    go_ret3
    refine ⟨by rw [HG.out]; rfl, ?_⟩
    go_grown
  · rw [h3] at hlk
    have HG := Lib.hid h1; clear h1 h3
    obtain ⟨xl, hxl, hxf, hnx⟩ := h2.last
    have hfive := h2.five
    have HAT := Lib.hid h4; clear h4
    have HXL := Lib.hid hxl; clear hxl
    have HXF := Lib.hid hxf; clear hxf
    have HNX := Lib.hid hnx; clear hnx
    have HFIVE := Lib.hid hfive; clear hfive h2
    simp only [Option.getD_some, Option.isSome_some] at hlk
    go_enter Try.func33, Try.ntmps33
    go_wp2_with fail
    refine HALL.out.mono ?_
    rintro e w' ⟨rfl, rfl⟩
    go_wp2_with fail
    obtain ⟨w1, hw1⟩ : ∃ w1, w1 = w.alloc (.cells #[.int .i64 r.epoch, .slice A' r.last.length c'] 139) := ⟨_, rfl⟩
    rw [← hw1]
    have hbr : Blk w1 w.heap.size 139 #[.int .i64 r.epoch, .slice A' r.last.length c'] := by rw [hw1]; exact Blk.new _ _ _
    have hb1 : Below w.heap.size w w1 := by rw [hw1]; exact (Below.refl _ w).alloc (Nat.le_refl _) _
    clear hw1
    have HB1 := Lib.hid hb1; clear hb1
    have HBR := Lib.hid hbr; clear hbr
    have r0 : w1.cell? ⟨w.heap.size, 0, none⟩ = some (.int .i64 r.epoch) := HBR.out.cell 0 rfl
    have r1 : w1.cell? ⟨w.heap.size, 1, none⟩ = some (.slice A' r.last.length c') := HBR.out.cell 1 rfl
    have hS0 : later w1 (fun _ => False) w1.drew := later_of ((Chg.refl _ _).drew)
    have r0x : ∀ x : Later w1 (fun _ => False), x.1.cell? ⟨w.heap.size, 0, none⟩ = some (.int .i64 r.epoch) := fun x => (x.2.blk HBR.out id).cell 0 rfl
    refine wp_plan (S := fun w0 => ∃ x : Later w1 (fun _ => False), w0 = x.1) (by kernel_rfl) hS0 ?_
    intro hS K hK
    have HS := Lib.hid hS; clear hS hS0
    refine plan_group [true, true] [0, 1] 5 (by dsimp only [sel]) (by rfl) rfl (by kernel_rfl) (by kernel_rfl) HS.out ?_
    (repeat go_big_quiet_step (fail)); refine wpQuiet_nil ?_
    refine plan_one [false, false, true] 2 4 (by dsimp only [sel]) (by rfl) rfl (by kernel_rfl) ?_; intro K1 hK1; go_wp2_with fail
    refine ⟨HS.out, ?_⟩
    refine plan_one [false, false, false, true] 3 3 (by dsimp only [sel]) (by rfl) rfl (by kernel_rfl) ?_; intro K1 hK1; go_wp2_with fail
    refine (prod.next_any r.epoch A' c' r.last xl _ HXL.out ((HAT.out.below HB1.out (Nat.le_refl _)).drew 1) HXF.out (by have := HFIVE.out; omega)).mono ?_
    rintro e w9 ⟨rfl, hb9⟩
    have HB9 := Lib.hid (show Below w1.heap.size w1 w9 from (bdrew (Below.refl _ w1) 1).trans hb9); clear hb9
    go_wp2_with fail
    refine ⟨later_of (chg_of HB9.out), ?_⟩
    have HS9 := Lib.hid (later_of (chg_of (P := fun _ => False) HB9.out))
    refine plan_group [false, false, false, false, true, true, true] [4, 5, 6] 0 (by dsimp only [sel]) (by rfl) rfl (by kernel_rfl) (by kernel_rfl) HS9.out ?_
    (repeat go_big_quiet_step (fail)); refine wpQuiet_nil ?_
    refine wp_plan_end (by kernel_rfl) ?_
    go_wp2
    go_ret3
    have hans : prod.nx (g P) = .returned (.tuple #[.int .i64 r.epoch, .int .i64 xl.next, .bool true]) := by rw [HG.out, ← HNX.out]; rfl
    exact ⟨Eq.trans rfl hans.symm, HB1.out.trans (HB9.out.mono HB1.out.size)⟩
end Go.Proofs.Ytgkocnnkknodhaa

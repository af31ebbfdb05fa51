/- producer: contract of Check. -/
import Derived.Test.YtgkocnnkknodhaaPlanC
import Derived.Test.YtgkocnnkknodhaaPrA
namespace Go.Proofs.Ytgkocnnkknodhaa
open Go.RowKit

def PRow.next (r : PRow) : Int := match r.last.getLast? with | some x => x.next | none => 0
def prod.hit (seq n : Int) (x : Sent) : Bool := x.seq == seq && x.count == n
/-- What Check answers, of the producer's row. -/
def prod.chk (r : Option PRow) (P ep seq n : Int) : Int × Bool × Int :=
  if P ≤ 0 then (0, false, 0) else
  match r with
  | none => if seq = 0 then (0, false, 0) else (0, false, 10)
  | some r =>
    if ep < r.epoch then (0, false, 11) else
    if r.epoch < ep then (if seq = 0 then (0, false, 0) else (0, false, 10)) else
    if seq = r.next then (0, false, 0) else
    match r.last.find? (prod.hit seq n) with
    | some x => (x.base, true, 0)
    | none => if seq < r.next then (0, false, 9) else (0, false, 10)
def prod.tup (x : Int × Bool × Int) : Ending := .returned (.tuple #[.int .i64 x.1, .bool x.2.1, .int .i64 x.2.2])

theorem infoRow : (Try.prog.info? 139).map (fun i => (i.zero, i.size, i.bytes)) = some (some (.agg #[.int .i64 0, .slice none 0 0]), 2, 32) := by kernel_rfl
theorem zero_row (w : World) : (zeroValue 139).run Try.prog w = .ok (.agg #[.int .i64 0, .slice none 0 0]) w := by
  obtain ⟨i, h1, h2, _⟩ := info_parts infoRow
  simp [zeroValue, typeInfo, h1, h2]
theorem PRow.fit.last {r : PRow} (h : r.fit) : ∃ x, r.last.getLast? = some x ∧ x.fit ∧ r.next = x.next := by
  have h1 := h.one
  cases hl : r.last.getLast? with
  | none => rw [List.getLast?_eq_none_iff.1 hl] at h1; simp at h1
  | some x => exact ⟨x, rfl, h.each x (List.mem_of_getLast? hl), by unfold PRow.next; rw [hl]⟩

/-- What stands in the map for P. -/
theorem RowsAt.look {w : World} {gv : Int → Option Value} {g : Int → Option PRow} {Bs : Nat → Prop} (h : RowsAt w gv g Bs) {P : Int} (hP : intOk P) :
    (g P = none ∧ gv P = none) ∨ ∃ r A c, g P = some r ∧ r.fit ∧ gv P = some (.agg #[.int .i64 r.epoch, .slice A r.last.length c]) ∧ At w A (r.last.length * 3) (sentAt r.last) ∧ w.ownsRow 0 143 3 (.slice A r.last.length c) r.last.length (sentCells r.last) := by
  cases hg : g P with
  | none => exact .inl ⟨rfl, (h.none' P hP).2 hg⟩
  | some r =>
    obtain ⟨h1, v, h2, h3, -⟩ := h.row P r hP hg
    obtain ⟨A, c, rfl, -, h4⟩ := own_at h3
    exact .inr ⟨r, A, c, rfl, h1, h2, h4, h3⟩

set_option maxRecDepth 20000 in
theorem prod.check_low (p : Option Addr) (b0 b1 P ep seq : Int) (A : Option Addr) (n c : Nat) (w : World) (hP : P ≤ 0) :
    Calls Try.prog 31 #[.pointer p, .agg #[.int .i64 b0, .int .i64 b1, .int .i64 P, .int .i64 ep, .int .i64 seq, .slice A n c]] w fun e w' => e = prod.tup (0, false, 0) ∧ Below w.heap.size w w' := by
  go_enter Try.func31, Try.ntmps31
  go_wp2
  go_ret3
  refine ⟨rfl, ?_⟩
  go_grown

set_option maxRecDepth 20000 in
set_option maxHeartbeats 2000000 in
theorem prod.check_any (p : Option Addr) (N : Nat) (g : Int → Option PRow) (Bs : Nat → Prop) (b0 b1 P ep seq : Int) (A : Option Addr) (n c : Nat) (w : World) (hT : PTabN w p N g Bs) (hP : intOk P) (hP0 : 0 < P) :
    Calls Try.prog 31 #[.pointer p, .agg #[.int .i64 b0, .int .i64 b1, .int .i64 P, .int .i64 ep, .int .i64 seq, .slice A n c]] w fun e w' => e = prod.tup (prod.chk (g P) P ep seq n) ∧ Below w.heap.size w w' := by
  obtain ⟨mb, ⟨gv, hm, hr⟩, hmb⟩ := hT.map
  have hnP : ¬ P ≤ 0 := by omega
  have hall := fun wx (hb : Below w.heap.size w wx) => prod.all_any p mb wx (hmb.imp id fun ⟨t, h1, h2⟩ => ⟨t, h1, (chg_of (P := fun _ => False) hb).blk h2 id⟩)
  have hlk := fun wx (hb : Below w.heap.size w wx) => (hm.chg (chg_of (P := fun _ => False) hb) fun _ _ => id).look Try.underlying134 (zero_row wx) P hP
  have HALL := Lib.hid hall; clear hall
  have HLK := Lib.hid hlk; clear hlk
  have HR := Lib.hid hr; clear hr
  clear hm hmb hT
  go_enter Try.func31, Try.ntmps31
  go_wp2_with fail
  obtain ⟨w1, hw1⟩ : ∃ w1, w1 = w.alloc (.cells #[.int .i64 b0, .int .i64 b1, .int .i64 P, .int .i64 ep, .int .i64 seq, .slice A n c] 46) := ⟨_, rfl⟩
  rw [← hw1]
  have hbk : Blk w1 w.heap.size 46 #[.int .i64 b0, .int .i64 b1, .int .i64 P, .int .i64 ep, .int .i64 seq, .slice A n c] := by rw [hw1]; exact Blk.new _ _ _
  have hb1 : Below w.heap.size w w1 := by rw [hw1]; exact (Below.refl _ w).alloc (Nat.le_refl _) _
  clear hw1
  obtain ⟨E, A', n', c', known, hlk, hkn⟩ : ∃ (E : Int) (A' : Option Addr) (n' c' : Nat) (known : Bool), (∀ wx, Below w.heap.size w wx → (Instr.lookup 134 (.map mb) (.int .i64 P) true).run Try.prog wx = .ok (.tuple #[.agg #[.int .i64 E, .slice A' n' c'], .bool known]) wx) ∧
      ((known = false ∧ g P = none) ∨ (known = true ∧ ∃ r, g P = some r ∧ r.fit ∧ E = r.epoch ∧ n' = r.last.length ∧ At w A' (r.last.length * 3) (sentAt r.last))) := by
    rcases HR.out.look hP with ⟨h1, h2⟩ | ⟨r, A', c', h1, h2, h3, h4, -⟩
    · exact ⟨0, none, 0, 0, false, fun wx hb => by rw [show Value.int .i64 P = intKey.val P from rfl, HLK.out wx hb, h2]; rfl, .inl ⟨rfl, h1⟩⟩
    · exact ⟨r.epoch, A', r.last.length, c', true, fun wx hb => by rw [show Value.int .i64 P = intKey.val P from rfl, HLK.out wx hb, h3]; rfl, .inr ⟨rfl, r, h1, h2, rfl, rfl, h4⟩⟩
  have hlkx : ∀ x : Later w1 (fun _ => False), (Instr.lookup 134 (.map mb) (.int .i64 P) true).run Try.prog x.1 = .ok (.tuple #[.agg #[.int .i64 E, .slice A' n' c'], .bool known]) x.1 := fun x => hlk _ (hb1.trans (x.2.below hb1.size fun _ q => q.elim))
  have hPx : ∀ x : Later w1 (fun _ => False), x.1.cell? ⟨w.heap.size, 2, none⟩ = some (.int .i64 P) := fun x => (x.2.blk hbk id).cell 2 rfl
  have HKN := Lib.hid hkn; clear hkn hlk HLK HR
  have HBK := Lib.hid hbk; clear hbk
  have HB1 := Lib.hid hb1; clear hb1
  have hallx : ∀ w0, (∃ x : Later w1 (fun _ => False), w0 = x.1) → Calls Try.prog 81 #[.pointer p] w0 fun e w' => e = .returned (.map mb) ∧ w' = w0 := by
    rintro _ ⟨x, rfl⟩
    exact (HALL.out _ (HB1.out.trans (x.2.below HB1.out.size fun _ q => q.elim))).mono fun _ _ h => ⟨h.1, h.2.symm⟩
  have HALLX := Lib.hid hallx; clear hallx HALL
  have hS0 : later w1 (fun _ => False) w1.drew := later_of ((Chg.refl _ _).drew)
  refine wp_plan (S := fun w0 => ∃ x : Later w1 (fun _ => False), w0 = x.1) (by kernel_rfl) hS0 ?_
  intro hS K hK
  have HS := Lib.hid hS; clear hS hS0
  refine plan_group [true, false, true] [0, 2] 9 (by dsimp only [sel]) (by rfl) rfl (by kernel_rfl) (by kernel_rfl) HS.out ?_
  (repeat go_big_quiet_step (fail)); refine wpQuiet_nil ?_
  refine plan_pure [false, true] 1 (some 16) 8 (.map mb) (by dsimp only [sel]) (by rfl) rfl (by rfl) (by rfl) (Go.Proofs.enters_of Try.func81 (by kernel_rfl) rfl) (by rfl) (by kernel_rfl) (by kernel_rfl) HS.out (by exact HALLX.out) ?_
  go_big_quiet_step (fail); refine wpQuiet_nil ?_
  refine plan_group [false, false, false, true, true, true, true, true] [3, 4, 5, 6, 7] 3 (by dsimp only [sel]) (by rfl) rfl (by kernel_rfl) (by kernel_rfl) HS.out ?_
  (repeat go_big_quiet_step (fail)); refine wpQuiet_nil ?_
  refine plan_one [false, false, false, false, false, false, false, false, true] 8 2 (by dsimp only [sel]) (by rfl) rfl (by kernel_rfl) ?_; intro K1 hK1; go_wp2_with fail
  obtain ⟨w7, hw7⟩ : ∃ w7, w7 = (w1.alloc (.cells #[.int .i64 0, .slice none 0 0] 139)).drew := ⟨_, rfl⟩
  rw [← hw7]
  have hbr : Blk w7 w1.heap.size 139 #[.int .i64 0, .slice none 0 0] := by rw [hw7]; exact (Blk.new w1 _ _).drew 1
  have hb7 : Below w1.heap.size w1 w7 := by rw [hw7]; exact bdrew ((Below.refl _ w1).alloc (Nat.le_refl _) _) 1
  clear hw7
  have HBR := Lib.hid hbr
  have hc0 := hbr.cell 0 rfl
  have hc1 := hbr.cell 1 rfl
  have hfr := fun j => hbr.frozen j
  clear hbr
  have HB7 := Lib.hid hb7; clear hb7
  refine ⟨later_of (chg_of HB7.out), ?_⟩
  refine plan_one [false, false, false, false, false, false, false, false, false, true] 9 1 (by dsimp only [sel]) (by rfl) rfl (by kernel_rfl) ?_; intro K1 hK1; go_wp2_with fail
  clear hc0 hc1 hfr
  obtain ⟨w8, hw8⟩ : ∃ w8, w8 = (w7.setCell ⟨w1.heap.size, 0, none⟩ (.int .i64 E)).setCell ⟨w1.heap.size, 1, none⟩ (.slice A' n' c') := ⟨_, rfl⟩
  rw [← hw8]
  have hbr : Blk w8 w1.heap.size 139 #[.int .i64 E, .slice A' n' c'] := by rw [hw8]; exact (HBR.out.set 0 _).set 1 _
  have hb8 : Below w1.heap.size w1 w8 := by
    rw [hw8]
    exact ((chg_of (P := fun _ => False) HB7.out).trans ((Chg.setCell w7 _ 0 _).trans (Chg.setCell _ _ 1 _) (fun _ _ h => h)) (fun k hk h => by have e : k = w1.heap.size := h; omega)).below (Nat.le_refl _) (fun _ h => h.elim)
  clear hw8 HBR HB7
  have HB8 := Lib.hid hb8; clear hb8
  have HBR := Lib.hid hbr; clear hbr
  refine ⟨later_of (chg_of HB8.out), ?_⟩
  have HS8 := Lib.hid (later_of (chg_of (P := fun _ => False) HB8.out))
  refine plan_group [false, false, false, false, false, false, false, false, false, false, true] [10] 0 (by dsimp only [sel]) (by rfl) rfl (by kernel_rfl) (by kernel_rfl) HS8.out ?_
  (repeat go_big_quiet_step (fail)); refine wpQuiet_nil ?_
  refine wp_plan_end (by kernel_rfl) ?_
  clear hlkx hPx HALLX HS HS8
  have HBW := Lib.hid (HB1.out.trans (HB8.out.mono HB1.out.size))
  have HBK8 := Lib.hid ((chg_of (P := fun _ => False) HB8.out).blk HBK.out id)
  have c3 : w8.cell? ⟨w.heap.size, 3, none⟩ = some (.int .i64 ep) := HBK8.out.cell 3 rfl
  have c4 : w8.cell? ⟨w.heap.size, 4, none⟩ = some (.int .i64 seq) := HBK8.out.cell 4 rfl
  have c5 : w8.cell? ⟨w.heap.size, 5, none⟩ = some (.slice A n c) := HBK8.out.cell 5 rfl
  have r0 : w8.cell? ⟨w1.heap.size, 0, none⟩ = some (.int .i64 E) := HBR.out.cell 0 rfl
  have r1 : w8.cell? ⟨w1.heap.size, 1, none⟩ = some (.slice A' n' c') := HBR.out.cell 1 rfl
  rcases HKN.out with ⟨rfl, hg⟩ | ⟨rfl, r, hg, hfit, rfl, rfl, hat⟩
  · rcases Decidable.em (seq = 0) with rfl | hs
    · have hans : prod.chk (g P) P ep 0 n = (0, false, 0) := by unfold prod.chk; rw [if_neg (by omega), hg]; exact if_pos rfl
      have HANS := Lib.hid hans; clear hans hg
      go_wp2
      go_ret3
      exact ⟨Eq.trans rfl (congrArg prod.tup HANS.out).symm, HBW.out⟩
    · have hans : prod.chk (g P) P ep seq n = (0, false, 10) := by unfold prod.chk; rw [if_neg (by omega), hg]; exact if_neg hs
      have HANS := Lib.hid hans; clear hans hg
      go_wp2
      go_ret3
      exact ⟨Eq.trans rfl (congrArg prod.tup HANS.out).symm, HBW.out⟩
  · rcases Decidable.em (ep < r.epoch) with h1 | h1
    · have hans : prod.chk (g P) P ep seq n = (0, false, 11) := by unfold prod.chk; rw [if_neg (by omega), hg]; exact if_pos h1
      have HANS := Lib.hid hans; clear hans hg hat hfit
      go_wp2
      go_ret3
      exact ⟨Eq.trans rfl (congrArg prod.tup HANS.out).symm, HBW.out⟩
    rcases Decidable.em (r.epoch < ep) with h2 | h2
    · rcases Decidable.em (seq = 0) with rfl | hs
      · have hans : prod.chk (g P) P ep 0 n = (0, false, 0) := by unfold prod.chk; rw [if_neg (by omega), hg]; dsimp only; rw [if_neg h1, if_pos h2, if_pos rfl]
        have HANS := Lib.hid hans; clear hans hg hat hfit
        go_wp2
        go_ret3
        exact ⟨Eq.trans rfl (congrArg prod.tup HANS.out).symm, HBW.out⟩
      · have hans : prod.chk (g P) P ep seq n = (0, false, 10) := by unfold prod.chk; rw [if_neg (by omega), hg]; dsimp only; rw [if_neg h1, if_pos h2, if_neg hs]
        have HANS := Lib.hid hans; clear hans hg hat hfit
        go_wp2
        go_ret3
        exact ⟨Eq.trans rfl (congrArg prod.tup HANS.out).symm, HBW.out⟩
    obtain ⟨xl, hxl, hxf, hnx⟩ := hfit.last
    have hfive := hfit.five
    have HAT := Lib.hid (hat.below (HB1.out.trans (HB8.out.mono HB1.out.size)) (Nat.le_refl _))
    clear hat
    have HXL := Lib.hid hxl; clear hxl
    have HXF := Lib.hid hxf; clear hxf
    have HFIT := Lib.hid hfit; clear hfit
    have HG := Lib.hid hg; clear hg
    have HNX := Lib.hid hnx; clear hnx
    have HFIVE := Lib.hid hfive; clear hfive
    have hpost : ∀ (x : Int × Bool × Int) (_ : World), x = (if seq = xl.next then ((0, false, 0) : Int × Bool × Int) else match r.last.find? (prod.hit seq n) with | some x => (x.base, true, 0) | none => if seq < xl.next then (0, false, 9) else (0, false, 10)) → prod.tup x = prod.tup (prod.chk (g P) P ep seq n) := fun x wz hx => by
      rw [hx]
      unfold prod.chk
      rw [if_neg (show ¬ P ≤ 0 by omega), HG.out]
      dsimp only
      rw [if_neg h1, if_neg h2, HNX.out]
    have HPOST := Lib.hid hpost; clear hpost
    rcases Decidable.em (seq = xl.next) with hs | hs
    · have hd : (seq == xl.next) = true := by simpa using hs
      have HSQ := Lib.hid hs; clear hs
      go_wp2_with fail
      have hS0 : later w8 (fun _ => False) w8.drew := later_of ((Chg.refl _ _).drew)
      have c4x : ∀ x : Later w8 (fun _ => False), x.1.cell? ⟨w.heap.size, 4, none⟩ = some (.int .i64 seq) := fun x => (x.2.blk HBK8.out id).cell 4 rfl
      refine wp_plan (S := fun w0 => ∃ x : Later w8 (fun _ => False), w0 = x.1) (by kernel_rfl) hS0 ?_
      intro hS K hK
      have HS := Lib.hid hS; clear hS hS0
      refine plan_group [true, true] [0, 1] 4 (by dsimp only [sel]) (by rfl) rfl (by kernel_rfl) (by kernel_rfl) HS.out ?_
      (repeat go_big_quiet_step (fail)); refine wpQuiet_nil ?_
      refine plan_one [false, false, true] 2 3 (by dsimp only [sel]) (by rfl) rfl (by kernel_rfl) ?_; intro K1 hK1; go_wp2_with fail
      refine ⟨HS.out, ?_⟩
      refine plan_one [false, false, false, true] 3 2 (by dsimp only [sel]) (by rfl) rfl (by kernel_rfl) ?_; intro K1 hK1; go_wp2_with fail
      refine (prod.next_any r.epoch A' c' r.last xl _ HXL.out (HAT.out.drew 1) HXF.out (by have := HFIVE.out; omega)).mono ?_
      rintro e w9 ⟨rfl, hb9⟩
      have HB9 := Lib.hid (show Below w8.heap.size w8 w9 from (bdrew (Below.refl _ w8) 1).trans hb9); clear hb9
      go_wp2_with fail
      refine ⟨later_of (chg_of HB9.out), ?_⟩
      have HS9 := Lib.hid (later_of (chg_of (P := fun _ => False) HB9.out))
      refine plan_group [false, false, false, false, true, true] [4, 5] 0 (by dsimp only [sel]) (by rfl) rfl (by kernel_rfl) (by kernel_rfl) HS9.out ?_
      (repeat go_big_quiet_step (fail)); refine wpQuiet_nil ?_
      refine wp_plan_end (by kernel_rfl) ?_
      go_wp2
      go_ret3
      exact ⟨Eq.trans rfl (HPOST.out (0, false, 0) w (by rw [if_pos HSQ.out])), HBW.out.trans (HB9.out.mono HBW.out.size)⟩
    · have hd : (seq == xl.next) = false := by simpa using hs
      have HSQ := Lib.hid hs; clear hs
      go_wp2_with fail
      have hS0 : later w8 (fun _ => False) w8.drew := later_of ((Chg.refl _ _).drew)
      have c4x : ∀ x : Later w8 (fun _ => False), x.1.cell? ⟨w.heap.size, 4, none⟩ = some (.int .i64 seq) := fun x => (x.2.blk HBK8.out id).cell 4 rfl
      refine wp_plan (S := fun w0 => ∃ x : Later w8 (fun _ => False), w0 = x.1) (by kernel_rfl) hS0 ?_
      intro hS K hK
      have HS := Lib.hid hS; clear hS hS0
      refine plan_group [true, true] [0, 1] 4 (by dsimp only [sel]) (by rfl) rfl (by kernel_rfl) (by kernel_rfl) HS.out ?_
      (repeat go_big_quiet_step (fail)); refine wpQuiet_nil ?_
      refine plan_one [false, false, true] 2 3 (by dsimp only [sel]) (by rfl) rfl (by kernel_rfl) ?_; intro K1 hK1; go_wp2_with fail
      refine ⟨HS.out, ?_⟩
      refine plan_one [false, false, false, true] 3 2 (by dsimp only [sel]) (by rfl) rfl (by kernel_rfl) ?_; intro K1 hK1; go_wp2_with fail
      refine (prod.next_any r.epoch A' c' r.last xl _ HXL.out (HAT.out.drew 1) HXF.out (by have := HFIVE.out; omega)).mono ?_
      rintro e w9 ⟨rfl, hb9⟩
      have HB9 := Lib.hid (show Below w8.heap.size w8 w9 from (bdrew (Below.refl _ w8) 1).trans hb9); clear hb9
      go_wp2_with fail
      refine ⟨later_of (chg_of HB9.out), ?_⟩
      have HS9 := Lib.hid (later_of (chg_of (P := fun _ => False) HB9.out))
      refine plan_group [false, false, false, false, true, true] [4, 5] 0 (by dsimp only [sel]) (by rfl) rfl (by kernel_rfl) (by kernel_rfl) HS9.out ?_
      (repeat go_big_quiet_step (fail)); refine wpQuiet_nil ?_
      refine wp_plan_end (by kernel_rfl) ?_
      clear c4x HS HS9 c3 c4 c5 r0 r1
      have r1 : w9.cell? ⟨w1.heap.size, 1, none⟩ = some (.slice A' r.last.length c') := ((chg_of (P := fun _ => False) HB9.out).blk HBR.out id).cell 1 rfl
      go_wp2_with fail
      go_loopw [53] (fun i wr => ∃ j : Nat, j ≤ r.last.length ∧ i = .int .i64 (j : Int) ∧ (∀ k s, k < j → r.last[k]? = some s → prod.hit seq n s = false) ∧ Below w8.heap.size w8 wr) (fun i _ => r.last.length - (intOf i).toNat)
      case atStart => exact ⟨0, by omega, rfl, fun k s hk => absurd hk (by omega), HB9.out⟩
      case round =>
        obtain ⟨j, hj, rfl, hno, hbw⟩ := hrel
        have HNO := Lib.hid hno; clear hno
        have HBR2 := Lib.hid hbw; clear hbw
        have HBK9 := Lib.hid ((chg_of (P := fun _ => False) HBR2.out).blk HBK8.out id)
        have HBRR := Lib.hid ((chg_of (P := fun _ => False) HBR2.out).blk HBR.out id)
        by_cases hlt : j < r.last.length
        · obtain ⟨x, hx⟩ : ∃ x, r.last[j]? = some x := ⟨_, List.getElem?_eq_getElem hlt⟩
          obtain ⟨b, off, rfl, hbb, d0, d1, d2⟩ := (HAT.out.below HBR2.out (Nat.le_refl _)).sent hx
          have HX := Lib.hid hx; clear hx
          have c4 : wr.cell? ⟨w.heap.size, 4, none⟩ = some (.int .i64 seq) := HBK9.out.cell 4 rfl
          have c5 : wr.cell? ⟨w.heap.size, 5, none⟩ = some (.slice A n c) := HBK9.out.cell 5 rfl
          have hj5 : j < 5 := by have := HFIVE.out; omega
          have hsz : w.heap.size < wr.heap.size := HBK9.out.lt
          have hf : prod.hit seq n x = (x.seq == seq && x.count == (n : Int)) := rfl
          have HF := Lib.hid hf; clear hf
          obtain ⟨sq, ct, bs⟩ := x
          dsimp only at d0 d1 d2
          have hend : ∀ wz, Below wr.heap.size wr wz → Below w8.heap.size w8 wz := fun wz h => HBR2.out.trans (h.mono HBR2.out.size)
          have HEND := Lib.hid hend; clear hend
          rcases hb1 : sq == seq with _ | _
          · go_wp2
            go_roundw
            case rel =>
              refine ⟨j + 1, by omega, by go_num, fun k s hk hs => ?_, HEND.out _ ?_⟩
              · rcases Nat.lt_or_eq_of_le (Nat.le_of_lt_succ hk) with h | rfl
                · exact HNO.out k s h hs
                · obtain rfl := Option.some.inj (HX.out.symm.trans hs)
                  rw [HF.out, hb1]; rfl
              · go_grown
            case measure => simp [intOf]; omega
          · rcases hb2 : ct == (n : Int) with _ | _
            · go_wp2
              go_roundw
              case rel =>
                refine ⟨j + 1, by omega, by go_num, fun k s hk hs => ?_, HEND.out _ ?_⟩
                · rcases Nat.lt_or_eq_of_le (Nat.le_of_lt_succ hk) with h | rfl
                  · exact HNO.out k s h hs
                  · obtain rfl := Option.some.inj (HX.out.symm.trans hs)
                    rw [HF.out, hb2]; simp
                · go_grown
              case measure => simp [intOf]; omega
            · have hfind : r.last.find? (prod.hit seq n) = some ⟨sq, ct, bs⟩ := by
                rw [List.find?_eq_some_iff_getElem]
                refine ⟨by rw [HF.out, hb1, hb2]; rfl, j, hlt, ?_, fun k hk => ?_⟩
                · exact (List.getElem?_eq_some_iff.1 HX.out).2
                · rw [HNO.out k _ hk (List.getElem?_eq_getElem (by omega))]; rfl
              have HANS := Lib.hid (HPOST.out (bs, true, 0) w (by rw [if_neg HSQ.out, hfind])); clear hfind
              go_wp2
              go_ret3
              refine ⟨Eq.trans rfl HANS.out, HBW.out.trans (Below.mono (HEND.out _ ?_) HBW.out.size)⟩
              go_grown
        · obtain rfl : j = r.last.length := by omega
          have hfind : r.last.find? (prod.hit seq n) = none := by
            rw [List.find?_eq_none]
            intro s hs
            obtain ⟨k, hk, rfl⟩ := List.getElem_of_mem hs
            rw [HNO.out k _ hk (List.getElem?_eq_getElem hk)]; simp
          have hpost2 := fun x w => HPOST.out x w
          rw [hfind, if_neg HSQ.out] at hpost2
          have HPOST2 := Lib.hid hpost2; clear hpost2 hfind
          clear r1 hd
          have r0 : wr.cell? ⟨w1.heap.size, 0, none⟩ = some (.int .i64 r.epoch) := HBRR.out.cell 0 rfl
          have r1 : wr.cell? ⟨w1.heap.size, 1, none⟩ = some (.slice A' r.last.length c') := HBRR.out.cell 1 rfl
          go_wp2_with fail
          have hS0 : later wr (fun _ => False) wr.drew := later_of ((Chg.refl _ _).drew)
          have c4x : ∀ x : Later wr (fun _ => False), x.1.cell? ⟨w.heap.size, 4, none⟩ = some (.int .i64 seq) := fun x => (x.2.blk HBK9.out id).cell 4 rfl
          refine wp_plan (S := fun w0 => ∃ x : Later wr (fun _ => False), w0 = x.1) (by kernel_rfl) hS0 ?_
          intro hS K hK
          have HS := Lib.hid hS; clear hS hS0
          refine plan_group [true, true] [0, 1] 3 (by dsimp only [sel]) (by rfl) rfl (by kernel_rfl) (by kernel_rfl) HS.out ?_
          (repeat go_big_quiet_step (fail)); refine wpQuiet_nil ?_
          refine plan_one [false, false, true] 2 2 (by dsimp only [sel]) (by rfl) rfl (by kernel_rfl) ?_; intro K1 hK1; go_wp2_with fail
          refine ⟨HS.out, ?_⟩
          refine plan_one [false, false, false, true] 3 1 (by dsimp only [sel]) (by rfl) rfl (by kernel_rfl) ?_; intro K1 hK1; go_wp2_with fail
          refine (prod.next_any r.epoch A' c' r.last xl _ HXL.out ((HAT.out.below HBR2.out (Nat.le_refl _)).drew 1) HXF.out (by have := HFIVE.out; omega)).mono ?_
          rintro e w10 ⟨rfl, hb10⟩
          have HB10 := Lib.hid (show Below wr.heap.size wr w10 from (bdrew (Below.refl _ wr) 1).trans hb10); clear hb10
          go_wp2_with fail
          refine ⟨later_of (chg_of HB10.out), ?_⟩
          have HS10 := Lib.hid (later_of (chg_of (P := fun _ => False) HB10.out))
          refine plan_group [false, false, false, false, true] [4] 0 (by dsimp only [sel]) (by rfl) rfl (by kernel_rfl) (by kernel_rfl) HS10.out ?_
          (repeat go_big_quiet_step (fail)); refine wpQuiet_nil ?_
          refine wp_plan_end (by kernel_rfl) ?_
          have HBE := Lib.hid (HBW.out.trans (Below.mono (HBR2.out.trans (HB10.out.mono HBR2.out.size)) HBW.out.size))
          rcases Decidable.em (seq < xl.next) with hl | hl
          · have HANS := Lib.hid (HPOST2.out (0, false, 9) w (by rw [if_pos hl]))
            go_wp2
            go_ret3
            exact ⟨Eq.trans rfl HANS.out, HBE.out⟩
          · have HANS := Lib.hid (HPOST2.out (0, false, 10) w (by rw [if_neg hl]))
            go_wp2
            go_ret3
            exact ⟨Eq.trans rfl HANS.out, HBE.out⟩
theorem prod.check_all (p : Option Addr) (N : Nat) (g : Int → Option PRow) (Bs : Nat → Prop) (b0 b1 P ep seq : Int) (A : Option Addr) (n c : Nat) (w : World) (hT : PTabN w p N g Bs) (hP : intOk P) :
    Calls Try.prog 31 #[.pointer p, .agg #[.int .i64 b0, .int .i64 b1, .int .i64 P, .int .i64 ep, .int .i64 seq, .slice A n c]] w fun e w' => e = prod.tup (prod.chk (g P) P ep seq n) ∧ Below w.heap.size w w' := by
  by_cases h : P ≤ 0
  · refine (prod.check_low p b0 b1 P ep seq A n c w h).mono ?_
    rintro e w' ⟨rfl, hb⟩
    exact ⟨by unfold prod.chk; rw [if_pos h], hb⟩
  · exact prod.check_any p N g Bs b0 b1 P ep seq A n c w hT hP (by omega)
end Go.Proofs.Ytgkocnnkknodhaa

/- The law's steps (cordwainlaw4): opened, small, at a disk in plain words, does at both disks. -/
import Derived.Test.YthffkbcjidbdaaaOpenG
import Derived.Test.YthffkbcjidbdaaaOpenY
import Derived.Test.YthffkbcjidbdaaaProg
import Derived.Test.YthffkbcjidbdaaaRfX
import Derived.Test.YthffkbcjidbdaaaAlikeB
import Derived.Test.YthffkbcjidbdaaaDmX
namespace Go.Proofs.Ythffkbcjidbdaaa
section
open Go.ChangeShapes Go.WideShapes Go.ChangeAt Go.RowKit

structure DStep where
  kind : Int
  a : ByteArray
  to_ : ByteArray
  b : List Nat
  n : Int
instance : Inhabited DStep := ⟨⟨0, ByteArray.empty, ByteArray.empty, [], 0⟩⟩
def dbd (x : Int) : Prop := -9223372036854775808 ≤ x ∧ x ≤ 9223372036854775807
def DStepR (w : World) (cs : List Value) (x : DStep) : Prop := ∃ v, cs = [.int .i64 x.kind, .string x.a, .string x.to_, v, .int .i64 x.n] ∧ BytesV w v x.b ∧ x.a.size ≤ maxLen ∧ x.to_.size ≤ maxLen ∧ dbd x.kind ∧ dbd x.n

theorem dstep_of_trod {H : Type} {enc : TypeId × Value → H} {W : World} {fuel : Nat} {cs : List Value} {x : DataW H × List MemPlace}
    (h : DataW.trod enc Try.prog W 0 (fun _ => true) true fuel 36 cs = some x) (hlt : ∀ y ∈ x.2, y.block < W.heap.size) : ∃ a, DStepR W cs a := by
  have hl2 : cs.length = 5 := (trod_field Try.underlying36 h hlt).1.trans (by kernel_rfl)
  have hm : (Try.prog.cellsOf 36) = 5 := by kernel_rfl
  have hi : (Try.prog.cellsOf 3) = 1 := by kernel_rfl
  have hs : (Try.prog.cellsOf 9) = 1 := by kernel_rfl
  obtain ⟨a0, g0, w0⟩ := field_int Try.underlying36 h hlt .i64 0 0 _ rfl rfl hi (by rw [hm]; omega) Try.underlying3
  obtain ⟨a1, g1, w1⟩ := field_str Try.underlying36 h hlt 1 1 _ rfl rfl hs (by rw [hm]; omega) Try.underlying9
  obtain ⟨a2, g2, w2⟩ := field_str Try.underlying36 h hlt 2 2 _ rfl rfl hs (by rw [hm]; omega) Try.underlying9
  obtain ⟨v, L, g3, hL⟩ := field_bytes Try.underlying36 h hlt 3 3 _ rfl rfl (by kernel_rfl) (by rw [hm]; omega) Try.underlying34 Try.underlying5 (by kernel_rfl)
  obtain ⟨a4, g4, w4⟩ := field_int Try.underlying36 h hlt .i64 4 4 _ rfl rfl hi (by rw [hm]; omega) Try.underlying3
  refine ⟨⟨a0, a1, a2, L, a4⟩, v, ?_, hL, w1, w2, wf_bd w0, wf_bd w4⟩
  apply List.ext_getElem?
  intro j
  match j with
  | 0 => exact g0
  | 1 => exact g1
  | 2 => exact g2
  | 3 => exact g3
  | 4 => exact g4
  | j + 5 => rw [List.getElem?_eq_none (by omega), List.getElem?_eq_none (by simp)]

/-- A slice of steps lies so. -/
def DSteps (w : World) (A : Option Addr) (xs : List DStep) : Prop := ∃ V, At w A (xs.length * 5) V ∧ ∀ (i : Nat) (a : DStep), xs[i]? = some a → DStepR w (cellsAt V i 5) a
theorem DSteps.below {w w' : World} {A : Option Addr} {xs : List DStep} {B : Nat} (h : DSteps w A xs) (hb : Below B w w') (hB : w.heap.size ≤ B) : DSteps w' A xs := by
  obtain ⟨V, h1, h2⟩ := h
  refine ⟨V, h1.below hb hB, fun i a ha => ?_⟩
  obtain ⟨v, h3, h4, h5⟩ := h2 i a ha
  exact ⟨v, h3, h4.below hb hB, h5⟩
theorem DSteps.at' {w : World} {A : Option Addr} {xs : List DStep} (h : DSteps w A xs) (k : Nat) (hk : k < xs.length) :
    ∃ b off, A = some ⟨b, off, none⟩ ∧ b < w.heap.size ∧ ∃ X c, w.cell? ⟨b, off + k * 5, none⟩ = some (.int .i64 (xs[k]).kind) ∧ w.cell? ⟨b, off + k * 5 + 1, none⟩ = some (.string (xs[k]).a) ∧ w.cell? ⟨b, off + k * 5 + 2, none⟩ = some (.string (xs[k]).to_) ∧
      w.cell? ⟨b, off + k * 5 + 3, none⟩ = some (.slice X (xs[k]).b.length c) ∧ w.cell? ⟨b, off + k * 5 + 4, none⟩ = some (.int .i64 (xs[k]).n) ∧ At w X (xs[k]).b.length (byteAt (xs[k]).b) ∧ (xs[k]).b.length ≤ maxLen ∧ (∀ x ∈ (xs[k]).b, x < 256) ∧ (xs[k]).a.size ≤ maxLen ∧ (xs[k]).to_.size ≤ maxLen ∧ dbd (xs[k]).kind ∧ dbd (xs[k]).n := by
  obtain ⟨V, h1, h2⟩ := h
  obtain ⟨b, off, hA, hb, hc⟩ := h1 (by omega)
  obtain ⟨v, h3, ⟨X, c, rfl, h4, h5, h6, h7⟩, h8⟩ := h2 k xs[k] (List.getElem?_eq_getElem hk)
  refine ⟨b, off, hA, hb, X, c, ?_, ?_, ?_, ?_, ?_, h4, by omega, h7, h8⟩
  · rw [hc _ (by omega)]; exact congrArg some (cellsAt_cell h3 0 (by omega) rfl)
  · rw [Nat.add_assoc, hc _ (by omega)]; exact congrArg some (cellsAt_cell h3 1 (by omega) rfl)
  · rw [Nat.add_assoc, hc _ (by omega)]; exact congrArg some (cellsAt_cell h3 2 (by omega) rfl)
  · rw [Nat.add_assoc, hc _ (by omega)]; exact congrArg some (cellsAt_cell h3 3 (by omega) rfl)
  · rw [Nat.add_assoc, hc _ (by omega)]; exact congrArg some (cellsAt_cell h3 4 (by omega) rfl)

set_option maxRecDepth 20000 in
theorem open_dsteps {H : Type} {enc : TypeId × Value → H} {W : World} {base : Nat} {v : Value} {d : DataW H} {p : List MemPlace}
    (hv : Value.okWide Try.prog W .any base 22 v) (h : DataW.Trod enc Try.prog W 0 (fun _ => true) true 22 v d p) (hlt : ∀ x ∈ p, x.block < W.heap.size) :
    ∃ (A : Option Addr) (n c : Nat) (xs : List DStep), v = .slice A n c ∧ (xs.length = n ∧ n ≤ c ∧ c ≤ maxLen) ∧ DSteps W A xs := by
  obtain ⟨a0, len, cap, rfl⟩ := okWide_slice Try.underlying22 hv
  obtain ⟨fuel, hf⟩ := h
  obtain ⟨xs, A, n, c, V, h1, h2, h3, h4, h5, h6⟩ := trod_slg Try.underlying22 (m := 5) (by kernel_rfl) (by omega) (R := DStepR W) (fun _ _ _ h hl => dstep_of_trod h hl) hf hlt
  simp only [Value.cells, List.cons.injEq, and_true] at h1
  have h1' : Value.slice a0 len cap = .slice A n c := by simpa using h1
  exact ⟨A, n, c, xs, h1', ⟨h2, h3, h4⟩, V, by rw [h2]; exact h5, h6⟩
end
section
open Go.RowKit
set_option maxRecDepth 100000

def DStep.weight (x : DStep) : Nat := x.a.size + x.to_.size + x.b.length + 1
def ds.sum (xs : List DStep) (k : Nat) : Nat := ((xs.take k).map DStep.weight).sum
theorem ds.sum_succ (xs : List DStep) (k : Nat) (hk : k < xs.length) : ds.sum xs (k + 1) = ds.sum xs k + (xs[k]).weight := by
  unfold ds.sum
  rw [List.take_succ_eq_append_getElem hk, List.map_append, List.sum_append]
  simp
theorem ds.sum_mono (xs : List DStep) {j k : Nat} (h : j ≤ k) : ds.sum xs j ≤ ds.sum xs k := by
  unfold ds.sum
  have e : xs.take k = (xs.take k).take j ++ (xs.take k).drop j := (List.take_append_drop j _).symm
  rw [List.take_take, Nat.min_eq_left h] at e
  rw [e, List.map_append, List.sum_append]
  omega
theorem at_four4 (w : World) (a b c d : Int) (t : TypeId) : At (w.alloc (.cells #[.int .i64 a, .int .i64 b, .int .i64 c, .int .i64 d] t)) (some ⟨w.heap.size, 0, none⟩) 4 (fun j => .int .i64 ([a, b, c, d].getD j 0)) :=
  (At.new w #[.int .i64 a, .int .i64 b, .int .i64 c, .int .i64 d] t (fr := (0, 0)) (n := 4) rfl).congr fun j hj => by
    have hj' : j = 0 ∨ j = 1 ∨ j = 2 ∨ j = 3 := by omega
    rcases hj' with rfl | rfl | rfl | rfl <;> rfl
def ds.small (xs : List DStep) (n : Nat) : Bool := decide (ds.sum xs n ≤ 1000 ∧ n ≤ 80)
set_option maxHeartbeats 4000000 in
theorem law4.small_any (A : Option Addr) (n c : Nat) (xs : List DStep) (w : World) (hx : xs.length = n ∧ n ≤ c ∧ c ≤ maxLen) (hat : DSteps w A xs) :
    Calls Try.prog 10 #[.slice A n c] w fun e w' => e = .returned (.bool (ds.small xs n)) ∧ Below w.heap.size w w' := by
  obtain ⟨hx1, hx2, hx3⟩ := hx
  unfold maxLen at hx3
  have HAX := Lib.hid (And.intro hat hx1); clear hat hx1
  go_enter Try.func10, Try.ntmps10
  go_wp2_with fail
  go_loopw [3, 4] (fun x i wr => ∃ (k : Nat) (t : Int), k ≤ n ∧ i = .int .i64 (k : Int) ∧ x = .int .i64 t ∧ 0 ≤ t ∧ t ≤ 1099511627776 ∧ (t ≤ 1000 → t = ds.sum xs k) ∧ (1000 < t → 1000 < ds.sum xs k) ∧ Below w.heap.size w wr) (fun _ i _ => n - (intOf i).toNat)
  case atStart => exact ⟨0, 0, by omega, rfl, rfl, by omega, by omega, fun _ => rfl, fun h => absurd h (by omega), Below.refl _ _⟩
  case round =>
    obtain ⟨k, t, hk, rfl, rfl, ht0, ht1, ht, htb, hb⟩ := hrel
    have HT := Lib.hid (And.intro ht htb); clear ht htb
    have HB := Lib.hid hb; clear hb
    by_cases hgo : k < n ∧ t ≤ 1000
    · obtain ⟨hlt, ht2⟩ := hgo
      have hlt' : (k : Int) < (n : Int) := by omega
      have hkx : k < xs.length := by rw [HAX.out.2]; exact hlt
      obtain ⟨b, off, rfl, hbb, X, cx, -, c1, c2, c3, -, -, hbl, -, hsa, hst, -, -⟩ := (HAX.out.1.below HB.out (Nat.le_refl _)).at' k hkx
      have hwt : (xs[k]).weight = (xs[k]).a.size + (xs[k]).to_.size + (xs[k]).b.length + 1 := rfl
      have hsucc := ds.sum_succ xs k hkx
      rw [hwt] at hsucc
      clear hwt
      generalize (xs[k]).a = sa at *
      generalize (xs[k]).to_ = st at *
      obtain ⟨m, hm⟩ : ∃ m, m = (xs[k]).b.length := ⟨_, rfl⟩
      rw [← hm] at c3 hbl hsucc
      clear hm
      unfold maxLen at hbl hsa hst
      have HSU := Lib.hid hsucc; clear hsucc
      have p1 : ∀ x : Later wr (fun _ => False), x.1.cell? ⟨b, off + k * 5 + 1, none⟩ = some (.string sa) := fun x => x.2.cellF c1 hbb
      have p2 : ∀ x : Later wr (fun _ => False), x.1.cell? ⟨b, off + k * 5 + 2, none⟩ = some (.string st) := fun x => x.2.cellF c2 hbb
      have p3 : ∀ x : Later wr (fun _ => False), x.1.cell? ⟨b, off + k * 5 + 3, none⟩ = some (.slice X m cx) := fun x => x.2.cellF c3 hbb
      have d3 : wr.drew.cell? ⟨b, off + k * 5 + 3, none⟩ = some (.slice X m cx) := c3
      go_upto_region 5 with fail
      have hS0 : later wr (fun _ => False) wr.drew := later_of ((Chg.refl _ _).drew)
      refine wp_plan (S := fun w0 => ∃ x : Later wr (fun _ => False), w0 = x.1) (by kernel_rfl) hS0 ?_
      intro hS' K5 hK5
      have HS := Lib.hid hS'; clear hS' hS0
      refine plan_group [true, true, true, true, true, true, true, true, true, true, true, true, true, true, true, true, true] [0, 1, 2, 3, 4, 5, 6, 7, 8, 9, 10, 11, 12, 13, 14, 15, 16] 5 (by dsimp only [sel]) (by rfl) rfl (by kernel_rfl) (by kernel_rfl) HS.out ?_
      (repeat go_big_quiet_step (fail)); refine wpQuiet_nil ?_
      refine plan_one [false, false, false, false, false, false, false, false, false, false, false, false, false, false, false, false, false, true] 17 4 (by dsimp only [sel]) (by rfl) rfl (by kernel_rfl) ?_; intro K1 hK1; go_wp2_with fail
      refine ⟨HS.out, ?_⟩
      refine plan_group [false, false, false, false, false, false, false, false, false, false, false, false, false, false, false, false, false, false, true] [18] 3 (by dsimp only [sel]) (by rfl) rfl (by kernel_rfl) (by kernel_rfl) HS.out ?_
      (repeat go_big_quiet_step (fail)); refine wpQuiet_nil ?_
      refine plan_one [false, false, false, false, false, false, false, false, false, false, false, false, false, false, false, false, false, false, false, true] 19 2 (by dsimp only [sel]) (by rfl) rfl (by kernel_rfl) ?_; intro K1 hK1; go_wp2_with fail
      refine ⟨later_of (Chg.alloc _ _ _).drew, ?_⟩
      refine plan_one [false, false, false, false, false, false, false, false, false, false, false, false, false, false, false, false, false, false, false, false, true] 20 1 (by dsimp only [sel]) (by rfl) rfl (by kernel_rfl) ?_; intro K1 hK1; go_wp2_with fail
      refine (alike.sum_any t _ 4 4 [(sa.size : Int), (st.size : Int), (m : Int), 1] _ ht0 ht1 (by omega) rfl ((at_four4 wr _ _ _ _ _).below (bdrew (Below.refl _ _) 1) (Nat.le_refl _)) (fun x hx => by simp at hx; omega)).mono ?_
      rintro a w' ⟨rfl, rfl⟩
      have hsm : alike.sum t [(sa.size : Int), (st.size : Int), (m : Int), 1] = min (t + sa.size + st.size + m + 1) 1099511627776 := by unfold alike.sum; simp; omega
      rw [hsm]
      clear hsm
      go_wp2_with fail
      refine ⟨later_of (Chg.alloc _ _ _).drew, ?_⟩
      refine plan_group [false, false, false, false, false, false, false, false, false, false, false, false, false, false, false, false, false, false, false, false, false, true] [21] 0 (by dsimp only [sel]) (by rfl) rfl (by kernel_rfl) (by kernel_rfl) (later_of (Chg.alloc _ _ _).drew) ?_
      (repeat go_big_quiet_step (fail)); refine wpQuiet_nil ?_
      refine wp_plan_end (by kernel_rfl) ?_
      go_wp2_with fail
      go_roundw
      case rel =>
        refine ⟨k + 1, min (t + sa.size + st.size + m + 1) 1099511627776, by omega, by go_num, rfl, by omega, by omega, fun h => ?_, fun h => ?_, bdrew (HB.out.alloc HB.out.size _) 1⟩
        · have h1 := HT.out.1 (by omega)
          have h2 := HSU.out
          omega
        · have h1 := HT.out.1 (by omega)
          have h2 := HSU.out
          omega
      case measure => simp [intOf]; omega
    · by_cases hbig : 1000 < t
      · clear hgo
        have hnb : ¬ t ≤ 1000 := by omega
        have hno : ds.small xs n = false := decide_eq_false fun h => by
          have h1 := HT.out.2 hbig
          have h2 := ds.sum_mono xs hk
          omega
        have HNO := Lib.hid hno; clear hno
        go_wp2_with fail
        all_goals
          go_ret
          exact ⟨by rw [HNO.out]; rfl, HB.out⟩
      · have hkn : ¬ k < n := by omega
        obtain rfl : k = n := by omega
        have ht2 : t ≤ 1000 := by omega
        have htl := HT.out.1 ht2
        clear hgo hkn
        by_cases h80 : (k : Int) ≤ 80
        · have h8 : decide ((k : Int) ≤ 80) = true := decide_eq_true h80
          have HTL := Lib.hid htl; clear htl
          go_wp2_with fail
          go_ret
          exact ⟨by rw [show ds.small xs k = true from decide_eq_true ⟨by have := HTL.out; omega, by omega⟩]; rfl, HB.out⟩
        · have h8 : decide ((k : Int) ≤ 80) = false := decide_eq_false h80
          clear htl
          go_wp2_with fail
          go_ret
          exact ⟨by rw [show ds.small xs k = false from decide_eq_false fun h => by omega]; rfl, HB.out⟩
end
section
open Go.RowKit Go.Maps
set_option maxRecDepth 100000

def RDisk.step (M : RDisk) (x : DStep) : RDisk := if x.kind = 1 then M.app x.a x.b else if x.kind = 2 then M.trunc x.a x.n else if x.kind = 3 then M.sync x.a else if x.kind = 4 then M.ren x.a x.to_ else if x.kind = 5 then M.rem x.a else if x.kind = 6 then M.dir else if x.kind = 7 then M.cutAt x.n else M
def RDisk.stepE (M : RDisk) (x : DStep) : Int := if x.kind = 1 then M.appE x.a x.b else if x.kind = 2 then M.truncE x.a x.n else if x.kind = 3 then M.syncE x.a else if x.kind = 4 then M.renE x.a x.to_ else if x.kind = 5 then M.remE x.a else if x.kind = 6 then M.actE [] else 0
/-- A disk in plain words, as the program's would be. -/
def RDisk.dsk (M : RDisk) : Dsk := ⟨M.room, M.used, M.ops, M.off, decide (M.left ≠ -1), M.left, fun s => rd.look M.now s, fun s => rd.look M.safe s, M.acts.map (rd.toD id), M.file⟩
theorem RDisk.sim {M : RDisk} (hw : M.WF) : Sim M.dsk M id := by
  refine ⟨rfl, rfl, rfl, rfl, ?_, fun s => by show rd.look M.now s = _; rw [Option.map_id]; rfl, fun s => by show rd.look M.safe s = _; rw [Option.map_id]; rfl, rfl, fun i _ => rfl, fun i j _ _ h => h⟩
  have := hw.left
  by_cases h : M.left = -1
  · exact .inl ⟨by show decide (M.left ≠ -1) = false; simp [h], h⟩
  · exact .inr ⟨by show decide (M.left ≠ -1) = true; simp [h], by show 0 ≤ M.left; omega, rfl⟩
theorem RDisk.step_wf {M : RDisk} (hw : M.WF) {x : DStep} (hb : ∀ y ∈ x.b, y < 256) (hn : x.n ≤ 9223372036854775807) : (M.step x).WF := by
  have hs := RDisk.sim hw
  unfold RDisk.step
  by_cases h1 : x.kind = 1
  · rw [if_pos h1]
    have hl : ∃ f, M.dsk.Leads x.a M.files.length f := M.dsk.leads_any x.a M.files.length
    obtain ⟨f, hf⟩ := hl
    exact (hs.app hw hb (n := M.files.length) (f := f) (fun i hi => hi) hf).2
  rw [if_neg h1]
  by_cases h2 : x.kind = 2
  · rw [if_pos h2]; exact (hs.trunc hw x.a x.n).2.1
  rw [if_neg h2]
  by_cases h3 : x.kind = 3
  · rw [if_pos h3]; exact (hs.sync hw x.a).2.1
  rw [if_neg h3]
  by_cases h4 : x.kind = 4
  · rw [if_pos h4]; exact (hs.ren hw x.a x.to_).2.1
  rw [if_neg h4]
  by_cases h5 : x.kind = 5
  · rw [if_pos h5]; exact (hs.rem hw x.a).2.1
  rw [if_neg h5]
  by_cases h6 : x.kind = 6
  · rw [if_pos h6]; exact (hs.dir hw).2.1
  rw [if_neg h6]
  by_cases h7 : x.kind = 7
  · rw [if_pos h7]; exact (hs.cutAt hw hn).2.1
  rw [if_neg h7]
  exact hw

/-- How much longer a step makes a disk's parts. -/
def RDisk.Near (M M' : RDisk) : Prop := M'.now.length ≤ M.now.length + 1 ∧ M'.acts.length ≤ M.acts.length + 1 ∧ M'.files.length ≤ M.files.length + 1 ∧ M.ops ≤ M'.ops ∧ M'.ops ≤ M.ops + 1
theorem RDisk.Near.acted (M : RDisk) : M.Near M.acted := ⟨Nat.le_succ _, Nat.le_succ _, Nat.le_succ _, by show M.ops ≤ M.ops + 1; omega, Int.le_refl _⟩
theorem RDisk.Near.same (M : RDisk) : M.Near M := ⟨Nat.le_succ _, Nat.le_succ _, Nat.le_succ _, Int.le_refl _, by omega⟩
theorem RDisk.Near.set {M M' : RDisk} (h : M.Near M') (i : Nat) (v : FileV) : M.Near (M'.set i v) := by
  obtain ⟨h1, h2, h3, h4⟩ := h
  exact ⟨h1, h2, by show (M'.files.set i v).length ≤ _; rw [List.length_set]; exact h3, h4⟩
theorem RDisk.lead_near (M : RDisk) (a : RAct) : M.Near (M.acted.lead a) := by
  refine ⟨rd.apply_len M.now a, ?_, Nat.le_succ _, by show M.ops ≤ M.ops + 1; omega, Int.le_refl _⟩
  show (M.acts ++ [a]).length ≤ _
  simp
theorem RDisk.step_near (M : RDisk) (x : DStep) : M.Near (M.step x) := by
  have ha := RDisk.Near.acted M
  unfold RDisk.step
  by_cases h1 : x.kind = 1
  · rw [if_pos h1]
    unfold RDisk.app
    split
    · exact ha
    · split
      · exact ha.set _ _
      · refine ⟨RDisk.lead_now_len (M.acted.add ⟨x.b, 0⟩) _, ?_, ?_, by show M.ops ≤ M.ops + 1; omega, Int.le_refl _⟩
        · show (M.acts ++ [_]).length ≤ _
          simp
        · show (M.files ++ [_]).length ≤ _
          simp
  rw [if_neg h1]
  by_cases h2 : x.kind = 2
  · rw [if_pos h2]
    unfold RDisk.trunc
    split
    · exact ha
    · split
      · exact ha.set _ _
      · exact ha
  rw [if_neg h2]
  by_cases h3 : x.kind = 3
  · rw [if_pos h3]
    unfold RDisk.sync
    split
    · exact ha
    · split
      · exact ha.set _ _
      · exact ha
  rw [if_neg h3]
  by_cases h4 : x.kind = 4
  · rw [if_pos h4]
    unfold RDisk.ren
    split
    · exact ha
    · split
      · exact M.lead_near _
      · exact ha
  rw [if_neg h4]
  by_cases h5 : x.kind = 5
  · rw [if_pos h5]
    unfold RDisk.rem
    split
    · exact ha
    · exact M.lead_near _
  rw [if_neg h5]
  by_cases h6 : x.kind = 6
  · rw [if_pos h6]
    unfold RDisk.dir
    split
    · exact ha
    · exact ⟨Nat.le_succ _, Nat.zero_le _, Nat.le_succ _, by show M.ops ≤ M.ops + 1; omega, Int.le_refl _⟩
  rw [if_neg h6]
  by_cases h7 : x.kind = 7
  · rw [if_pos h7]
    exact RDisk.Near.same M
  rw [if_neg h7]
  exact RDisk.Near.same M

theorem PDisk.wide {w : World} {p : Nat} {M : RDisk} {F F' : Nat → Prop} {n : Nat} (h : PDisk w p M F n) (hup : ∀ k, F k → F' k) (hl : ∀ k, F' k → k < w.heap.size) : PDisk w p M F' n := by
  obtain ⟨D, ι, m, ⟨S, bn, bs, sv, dat, h1⟩, h2⟩ := h
  exact ⟨D, ι, m, ⟨S, bn, bs, sv, dat, h1.wide hup hl⟩, h2⟩
/-- Both disks, side by side: their blocks are no older than B, and apart; n bounds what has come. -/
def DTwo (B : Nat) (w : World) (p q : Nat) (M Q : RDisk) (n : Nat) : Prop :=
  ∃ F G, PDisk w p M F n ∧ RefD w q Q G ∧ Q.WF ∧ (∀ k, F k → B ≤ k) ∧ (∀ k, G k → B ≤ k) ∧ (∀ k, F k → ¬ G k) ∧ (Q.now.length ≤ n ∧ Q.acts.length ≤ n ∧ Q.files.length ≤ n) ∧ (0 ≤ M.ops ∧ M.ops ≤ n) ∧ (0 ≤ Q.ops ∧ Q.ops ≤ n)
theorem DTwo.below {B : Nat} {w w' : World} {p q : Nat} {M Q : RDisk} {n : Nat} (h : DTwo B w p q M Q n) (hb : Below w.heap.size w w') : DTwo B w' p q M Q n := by
  obtain ⟨F, G, h1, h2, h3⟩ := h
  exact ⟨F, G, h1.below hb, h2.below hb, h3⟩
/-- The program's disk alone. -/
theorem DTwo.mine {B : Nat} {w : World} {p q : Nat} {M Q : RDisk} {n : Nat} (h : DTwo B w p q M Q n) : ∃ F, PDisk w p M F n ∧ (∀ k, F k → B ≤ k) ∧ M.WF ∧ (0 ≤ M.ops ∧ M.ops ≤ n) := by
  obtain ⟨F, G, h1, h2, h3, h4, h5, h6, h7, h8, h9⟩ := h
  exact ⟨F, h1, h4, h1.up.2.2.2, h8⟩
/-- An act of the program's, then one of the document's. -/
theorem DTwo.next {B : Nat} {w wa wb : World} {p q : Nat} {M Q M' Q' : RDisk} {F G : Nat → Prop} {n : Nat} (hB : B ≤ w.heap.size) (h2 : RefD w q Q G) (hF : ∀ k, F k → B ≤ k) (hG : ∀ k, G k → B ≤ k) (hFG : ∀ k, F k → ¬ G k) (hw : Q'.WF)
    (hl : (Q.now.length ≤ n ∧ Q.acts.length ≤ n ∧ Q.files.length ≤ n) ∧ (0 ≤ M.ops ∧ M.ops ≤ n) ∧ (0 ≤ Q.ops ∧ Q.ops ≤ n)) (hm : M.Near M') (hq : Q.Near Q')
    (g1 : PDisk wa p M' (dk.grow F w wa) (n + 2)) (g2 : Chg w wa F) (g3 : RefD wb q Q' (dk.grow G wa wb)) (g4 : Chg wa wb (fun k => k = q)) : DTwo B wb p q M' Q' (n + 2) ∧ Below B w wb := by
  have hs1 := g2.size
  have hs2 := g4.size
  obtain ⟨hGq, hGl⟩ := h2.up
  have hnq : ¬ dk.grow F w wa q := fun h => h.1.elim (fun x => hFG q x hGq) fun x => by
    have := hGl q hGq
    omega
  obtain ⟨⟨l1, l2, l3⟩, ⟨l4, l5⟩, l6, l7⟩ := hl
  obtain ⟨m1, m2, m3, m4, m5⟩ := hm
  obtain ⟨q1, q2, q3, q4, q5⟩ := hq
  refine ⟨⟨dk.grow F w wa, dk.grow G wa wb, g1.keep g4 (fun k hk e => hnq (e ▸ hk)), g3, hw, fun k hk => hk.1.elim (hF k) fun x => Nat.le_trans hB x, fun k hk => hk.1.elim (hG k) fun x => by omega, fun k hk hg => ?_, ⟨by omega, by omega, by omega⟩, ⟨by omega, by omega⟩, by omega, by omega⟩, ?_⟩
  · rcases hk.1 with a | a
    · rcases hg.1 with b | b
      · exact hFG k a b
      · have := hk.2
        omega
    · rcases hg.1 with b | b
      · have := hGl k b
        omega
      · have := hk.2
        omega
  · exact (g2.below hB fun k hk => hF k hk).trans (g4.below (by omega) fun k hk => by rw [hk]; exact hG q hGq)
end
section
open Go.RowKit Go.Maps
set_option maxRecDepth 100000

set_option maxHeartbeats 8000000 in
theorem law4.does_any (kind : Int) (sa st : ByteArray) (b : List Nat) (nn : Int) (X : Option Addr) (m cX : Nat) (B p q : Nat) (M Q : RDisk) (n : Nat) (w : World) (h : DTwo B w p q M Q n) (hB : B ≤ w.heap.size) (hn : n ≤ 40000) (hat : At w X m (byteAt b)) (hml : b.length = m) (hXB : ∀ g off, X = some ⟨g, off, none⟩ → 0 < m → g < B)
    (hm : m ≤ 4294967296) (hb : ∀ y ∈ b, y < 256) (hsa : sa.size ≤ maxLen) (hst : st.size ≤ maxLen) (hnn : -9223372036854775808 ≤ nn ∧ nn ≤ 9223372036854775807) :
    Calls Try.prog 14 #[.pointer (some ⟨p, 0, none⟩), .pointer (some ⟨q, 0, none⟩), .agg #[.int .i64 kind, .string sa, .string st, .slice X m cX, .int .i64 nn]] w fun e w' =>
      e = .returned (.tuple #[.int .i64 (M.stepE ⟨kind, sa, st, b, nn⟩), .int .i64 (Q.stepE ⟨kind, sa, st, b, nn⟩)]) ∧ DTwo B w' p q (M.step ⟨kind, sa, st, b, nn⟩) (Q.step ⟨kind, sa, st, b, nn⟩) (n + 2) ∧ Below B w w' := by
  obtain ⟨F, G, hp, hr, hqw, hF, hG, hFG, ⟨l1, l2, l3⟩, ⟨l4, l5⟩, l6, l7⟩ := h
  have hup := hp.up
  have hgu := hr.up
  obtain ⟨z, hz⟩ : ∃ z, z = w.heap.size := ⟨_, rfl⟩
  obtain ⟨w1, hw1⟩ : ∃ w1, w1 = w.alloc (.cells #[.int .i64 kind, .string sa, .string st, .slice X m cX, .int .i64 nn] 36) := ⟨_, rfl⟩
  have hbs : Blk w1 z 36 #[.int .i64 kind, .string sa, .string st, .slice X m cX, .int .i64 nn] := by rw [hw1, hz]; exact Blk.new _ _ _
  have hb1 : Below w.heap.size w w1 := by rw [hw1]; exact (Below.refl _ _).alloc (Nat.le_refl _) _
  have hw1s := hb1.size
  have HZF := Lib.hid (show ¬ F z ∧ ¬ G z from ⟨fun a => by have := hup.2.2.1 z a; omega, fun a => by have := hgu.2 z a; omega⟩)
  have HXF := Lib.hid (show ∀ g off, X = some ⟨g, off, none⟩ → 0 < m → ¬ F g from fun g off e h0 hg => by have := hXB g off e h0; have := hF g hg; omega)
  have HXQ := Lib.hid (show ∀ g off, X = some ⟨g, off, none⟩ → 0 < m → g ≠ q from fun g off e h0 hg => by have := hXB g off e h0; have := hG q hgu.1; omega)
  have HATX := Lib.hid (show At w1 X m (byteAt b) from hat.below hb1 (Nat.le_refl _))
  have HATX2 := Lib.hid (show ∀ wa, Chg w1.drew wa F → At wa X m (byteAt b) from fun wa hc => hc.at' (HATX.out.below (bdrew (Below.refl _ w1) 1) (Nat.le_refl _)) fun h0 g off e hg => HXF.out g off e h0 hg)
  have HP := Lib.hid (show PDisk w1 p M F n from hp.below hb1)
  have HR := Lib.hid (show RefD w1 q Q G from hr.below hb1)
  have HM := Lib.hid (show M.small ∧ Q.small ∧ Q.WF ∧ True from ⟨by unfold RDisk.small; omega, by unfold RDisk.small; omega, hqw, trivial⟩)
  have HSW := Lib.hid (show ∀ x : DStep, (∀ y ∈ x.b, y < 256) → x.n ≤ 9223372036854775807 → (Q.step x).WF from fun x h1 h2 => RDisk.step_wf hqw h1 h2)
  have HL := Lib.hid (And.intro (And.intro l1 (And.intro l2 l3)) (And.intro (And.intro l4 l5) (And.intro l6 l7)))
  have HML := Lib.hid hml; have HBB := Lib.hid hb; have HNN := Lib.hid hnn
  have HFB := Lib.hid hF; have HGB := Lib.hid hG; have HFG := Lib.hid hFG
  have HBW := Lib.hid (show B ≤ w1.heap.size by omega)
  have HW1 := Lib.hid (And.intro hw1 (hb1.mono hB))
  have HBS := Lib.hid hbs
  clear hup hgu hp hr hqw hF hG hFG hml hb hnn hXB hat hbs hb1 hw1 l4 l5 l6 l7
  have q1 : ∀ x : Later w1 (fun k => k ≠ z), x.1.cell? ⟨z, 1, none⟩ = some (.string sa) := fun x => (x.2.blk HBS.out fun h => h rfl).cell 1 rfl
  have q2 : ∀ x : Later w1 (fun k => k ≠ z), x.1.cell? ⟨z, 2, none⟩ = some (.string st) := fun x => (x.2.blk HBS.out fun h => h rfl).cell 2 rfl
  have q3 : ∀ x : Later w1 (fun k => k ≠ z), x.1.cell? ⟨z, 3, none⟩ = some (.slice X m cX) := fun x => (x.2.blk HBS.out fun h => h rfl).cell 3 rfl
  have q4 : ∀ x : Later w1 (fun k => k ≠ z), x.1.cell? ⟨z, 4, none⟩ = some (.int .i64 nn) := fun x => (x.2.blk HBS.out fun h => h rfl).cell 4 rfl
  have k0 : w1.cell? ⟨z, 0, none⟩ = some (.int .i64 kind) := HBS.out.cell 0 rfl
  have k4 : w1.cell? ⟨z, 4, none⟩ = some (.int .i64 nn) := HBS.out.cell 4 rfl
  have HQ4 := Lib.hid q4
  go_enter Try.func14, Try.ntmps14
  go_upto_region 1 with fail
  rw [← HW1.out.1, ← hz]
  clear hz
  by_cases h1 : kind = 1
  · subst h1
    go_upto_region 3 with fail
    have hS0 : later w1 (fun k => k ≠ z) w1.drew := later_of ((Chg.refl _ _).drew)
    refine wp_plan (S := fun w0 => ∃ x : Later w1 (fun k => k ≠ z), w0 = x.1) (by kernel_rfl) hS0 ?_
    intro hS' K5 hK5
    have HS := Lib.hid hS'; clear hS' hS0
    refine plan_group [true, true, true, true, true, false, true, true, true, true, true] [0, 1, 2, 3, 4, 6, 7, 8, 9, 10] 4 (by dsimp only [sel]) (by rfl) rfl (by kernel_rfl) (by kernel_rfl) HS.out ?_
    (repeat go_big_quiet_step (fail)); refine wpQuiet_nil ?_
    refine plan_one [false, false, false, false, false, true] 5 3 (by dsimp only [sel]) (by rfl) rfl (by kernel_rfl) ?_; intro K1 hK1; go_wp2_with fail
    refine (PDisk.append (HP.out.below (bdrew (Below.refl _ w1) 1)) (by omega) HM.out.1 (HATX.out.below (bdrew (Below.refl _ w1) 1) (Nat.le_refl _)) HML.out HBB.out HXF.out (by omega) (by omega)).mono ?_
    rintro e wa ⟨rfl, g1, g2⟩
    have hr2 := (HR.out.below (bdrew (Below.refl _ w1) 1)).keep g2 fun k hk hf => HFG.out k hf hk
    have hla : later w1 (fun k => k ≠ z) wa := later_of (((Chg.refl w1 (fun k => k ≠ z)).drew).trans g2 fun k _ hk e => HZF.out.1 (e ▸ hk))
    have HA := Lib.hid (And.intro g1 (And.intro g2 (And.intro hr2 hla))); clear g1 g2 hr2 hla
    go_wp2_with fail
    refine ⟨HA.out.2.2.2, ?_⟩
    refine plan_one [false, false, false, false, false, false, false, false, false, false, false, true] 11 2 (by dsimp only [sel]) (by rfl) rfl (by kernel_rfl) ?_; intro K1 hK1; go_wp2_with fail
    refine (rf.Append_any sa X m cX b q Q G wa HA.out.2.2.1 HM.out.2.2.1 HM.out.2.1 (by omega) (HATX2.out wa HA.out.2.1) HML.out HBB.out HXQ.out (by omega) (by omega) (by omega) (by omega)).mono ?_
    rintro e wb ⟨rfl, g3, g4⟩
    have hlb : later w1 (fun k => k ≠ z) wb := later_of ((((Chg.refl w1 (fun k => k ≠ z)).drew).trans HA.out.2.1 fun k _ hk e => HZF.out.1 (e ▸ hk)).trans g4 fun k _ hk e => HZF.out.2 (by rw [← e, hk]; exact HR.out.up.1))
    have hnx := DTwo.next (M := M) (M' := M.app sa b) (Q' := Q.app sa b) (show B ≤ w1.drew.heap.size from HBW.out) (HR.out.below (bdrew (Below.refl _ w1) 1)) HFB.out HGB.out HFG.out (HSW.out ⟨1, sa, st, b, nn⟩ HBB.out HNN.out.2) HL.out (M.step_near ⟨1, sa, st, b, nn⟩) (Q.step_near ⟨1, sa, st, b, nn⟩) HA.out.1 HA.out.2.1 g3 g4
    have HB := Lib.hid (And.intro hlb hnx); clear hlb hnx g3 g4
    go_wp2_with fail
    refine ⟨HB.out.1, ?_⟩
    refine plan_group [false, false, false, false, false, false, false, false, false, false, false, false, true, true] [12, 13] 0 (by dsimp only [sel]) (by rfl) rfl (by kernel_rfl) (by kernel_rfl) HB.out.1 ?_
    (repeat go_big_quiet_step (fail)); refine wpQuiet_nil ?_
    refine wp_plan_end (by kernel_rfl) ?_
    go_wp2_with fail
    go_ret2
    exact ⟨rfl, HB.out.2.1, HW1.out.2.trans ((bdrew (Below.refl _ w1) 1).trans HB.out.2.2)⟩
  by_cases h2 : kind = 2
  · subst h2
    clear h1
    go_upto_region 5 with fail
    have hS0 : later w1 (fun k => k ≠ z) w1.drew := later_of ((Chg.refl _ _).drew)
    refine wp_plan (S := fun w0 => ∃ x : Later w1 (fun k => k ≠ z), w0 = x.1) (by kernel_rfl) hS0 ?_
    intro hS' K5 hK5
    have HS := Lib.hid hS'; clear hS' hS0
    refine plan_group [true, true, true, true, true, false, true, true, true, true, true] [0, 1, 2, 3, 4, 6, 7, 8, 9, 10] 4 (by dsimp only [sel]) (by rfl) rfl (by kernel_rfl) (by kernel_rfl) HS.out ?_
    (repeat go_big_quiet_step (fail)); refine wpQuiet_nil ?_
    refine plan_one [false, false, false, false, false, true] 5 3 (by dsimp only [sel]) (by rfl) rfl (by kernel_rfl) ?_; intro K1 hK1; go_wp2_with fail
    refine (PDisk.truncate (HP.out.below (bdrew (Below.refl _ w1) 1)) (by omega) HM.out.1 HNN.out (by omega)).mono ?_
    rintro e wa ⟨rfl, g1, g2⟩
    have hr2 := (HR.out.below (bdrew (Below.refl _ w1) 1)).keep g2 fun k hk hf => HFG.out k hf hk
    have hla : later w1 (fun k => k ≠ z) wa := later_of (((Chg.refl w1 (fun k => k ≠ z)).drew).trans g2 fun k _ hk e => HZF.out.1 (e ▸ hk))
    have HA := Lib.hid (And.intro (g1.mono (Nat.le_add_right _ 2)) (And.intro g2 (And.intro hr2 hla))); clear g1 g2 hr2 hla
    go_wp2_with fail
    refine ⟨HA.out.2.2.2, ?_⟩
    refine plan_one [false, false, false, false, false, false, false, false, false, false, false, true] 11 2 (by dsimp only [sel]) (by rfl) rfl (by kernel_rfl) ?_; intro K1 hK1; go_wp2_with fail
    refine (rf.Truncate_any sa nn q Q G wa HA.out.2.2.1 HM.out.2.2.1 HM.out.2.1 (by omega) HNN.out (by omega) (by omega) (by omega)).mono ?_
    rintro e wb ⟨rfl, g3, g4⟩
    have hlb : later w1 (fun k => k ≠ z) wb := later_of ((((Chg.refl w1 (fun k => k ≠ z)).drew).trans HA.out.2.1 fun k _ hk e => HZF.out.1 (e ▸ hk)).trans g4 fun k _ hk e => HZF.out.2 (by rw [← e, hk]; exact HR.out.up.1))
    have hnx := DTwo.next (M := M) (M' := M.trunc sa nn) (Q' := Q.trunc sa nn) (show B ≤ w1.drew.heap.size from HBW.out) (HR.out.below (bdrew (Below.refl _ w1) 1)) HFB.out HGB.out HFG.out (HSW.out ⟨2, sa, st, b, nn⟩ HBB.out HNN.out.2) HL.out (M.step_near ⟨2, sa, st, b, nn⟩) (Q.step_near ⟨2, sa, st, b, nn⟩) HA.out.1 HA.out.2.1 g3 g4
    have HB := Lib.hid (And.intro hlb hnx); clear hlb hnx g3 g4
    go_wp2_with fail
    refine ⟨HB.out.1, ?_⟩
    refine plan_group [false, false, false, false, false, false, false, false, false, false, false, false, true, true] [12, 13] 0 (by dsimp only [sel]) (by rfl) rfl (by kernel_rfl) (by kernel_rfl) HB.out.1 ?_
    (repeat go_big_quiet_step (fail)); refine wpQuiet_nil ?_
    refine wp_plan_end (by kernel_rfl) ?_
    go_wp2_with fail
    go_ret2
    exact ⟨rfl, HB.out.2.1, HW1.out.2.trans ((bdrew (Below.refl _ w1) 1).trans HB.out.2.2)⟩
  by_cases h3 : kind = 3
  · subst h3
    clear h1
    clear h2
    go_upto_region 7 with fail
    have hS0 : later w1 (fun k => k ≠ z) w1.drew := later_of ((Chg.refl _ _).drew)
    refine wp_plan (S := fun w0 => ∃ x : Later w1 (fun k => k ≠ z), w0 = x.1) (by kernel_rfl) hS0 ?_
    intro hS' K5 hK5
    have HS := Lib.hid hS'; clear hS' hS0
    refine plan_group [true, true, true, false, true, true, true] [0, 1, 2, 4, 5, 6] 4 (by dsimp only [sel]) (by rfl) rfl (by kernel_rfl) (by kernel_rfl) HS.out ?_
    (repeat go_big_quiet_step (fail)); refine wpQuiet_nil ?_
    refine plan_one [false, false, false, true] 3 3 (by dsimp only [sel]) (by rfl) rfl (by kernel_rfl) ?_; intro K1 hK1; go_wp2_with fail
    refine (PDisk.sync (HP.out.below (bdrew (Below.refl _ w1) 1)) (by omega) HM.out.1).mono ?_
    rintro e wa ⟨rfl, g1, g2⟩
    have hr2 := (HR.out.below (bdrew (Below.refl _ w1) 1)).keep g2 fun k hk hf => HFG.out k hf hk
    have hla : later w1 (fun k => k ≠ z) wa := later_of (((Chg.refl w1 (fun k => k ≠ z)).drew).trans g2 fun k _ hk e => HZF.out.1 (e ▸ hk))
    have HA := Lib.hid (And.intro (g1.mono (Nat.le_add_right _ 2)) (And.intro g2 (And.intro hr2 hla))); clear g1 g2 hr2 hla
    go_wp2_with fail
    refine ⟨HA.out.2.2.2, ?_⟩
    refine plan_one [false, false, false, false, false, false, false, true] 7 2 (by dsimp only [sel]) (by rfl) rfl (by kernel_rfl) ?_; intro K1 hK1; go_wp2_with fail
    refine (rf.Sync_any sa q Q G wa HA.out.2.2.1 HM.out.2.2.1 HM.out.2.1 (by omega) (by omega) (by omega) (by omega)).mono ?_
    rintro e wb ⟨rfl, g3, g4⟩
    have hlb : later w1 (fun k => k ≠ z) wb := later_of ((((Chg.refl w1 (fun k => k ≠ z)).drew).trans HA.out.2.1 fun k _ hk e => HZF.out.1 (e ▸ hk)).trans g4 fun k _ hk e => HZF.out.2 (by rw [← e, hk]; exact HR.out.up.1))
    have hnx := DTwo.next (M := M) (M' := M.sync sa) (Q' := Q.sync sa) (show B ≤ w1.drew.heap.size from HBW.out) (HR.out.below (bdrew (Below.refl _ w1) 1)) HFB.out HGB.out HFG.out (HSW.out ⟨3, sa, st, b, nn⟩ HBB.out HNN.out.2) HL.out (M.step_near ⟨3, sa, st, b, nn⟩) (Q.step_near ⟨3, sa, st, b, nn⟩) HA.out.1 HA.out.2.1 g3 g4
    have HB := Lib.hid (And.intro hlb hnx); clear hlb hnx g3 g4
    go_wp2_with fail
    refine ⟨HB.out.1, ?_⟩
    refine plan_group [false, false, false, false, false, false, false, false, true, true] [8, 9] 0 (by dsimp only [sel]) (by rfl) rfl (by kernel_rfl) (by kernel_rfl) HB.out.1 ?_
    (repeat go_big_quiet_step (fail)); refine wpQuiet_nil ?_
    refine wp_plan_end (by kernel_rfl) ?_
    go_wp2_with fail
    go_ret2
    exact ⟨rfl, HB.out.2.1, HW1.out.2.trans ((bdrew (Below.refl _ w1) 1).trans HB.out.2.2)⟩
  by_cases h4 : kind = 4
  · subst h4
    clear h1
    clear h2
    clear h3
    go_upto_region 9 with fail
    have hS0 : later w1 (fun k => k ≠ z) w1.drew := later_of ((Chg.refl _ _).drew)
    refine wp_plan (S := fun w0 => ∃ x : Later w1 (fun k => k ≠ z), w0 = x.1) (by kernel_rfl) hS0 ?_
    intro hS' K5 hK5
    have HS := Lib.hid hS'; clear hS' hS0
    refine plan_group [true, true, true, true, true, false, true, true, true, true, true] [0, 1, 2, 3, 4, 6, 7, 8, 9, 10] 4 (by dsimp only [sel]) (by rfl) rfl (by kernel_rfl) (by kernel_rfl) HS.out ?_
    (repeat go_big_quiet_step (fail)); refine wpQuiet_nil ?_
    refine plan_one [false, false, false, false, false, true] 5 3 (by dsimp only [sel]) (by rfl) rfl (by kernel_rfl) ?_; intro K1 hK1; go_wp2_with fail
    refine (PDisk.rename (HP.out.below (bdrew (Below.refl _ w1) 1)) (by omega) (by omega) HM.out.1 (by omega)).mono ?_
    rintro e wa ⟨rfl, g1, g2⟩
    have hr2 := (HR.out.below (bdrew (Below.refl _ w1) 1)).keep g2 fun k hk hf => HFG.out k hf hk
    have hla : later w1 (fun k => k ≠ z) wa := later_of (((Chg.refl w1 (fun k => k ≠ z)).drew).trans g2 fun k _ hk e => HZF.out.1 (e ▸ hk))
    have HA := Lib.hid (And.intro g1 (And.intro g2 (And.intro hr2 hla))); clear g1 g2 hr2 hla
    go_wp2_with fail
    refine ⟨HA.out.2.2.2, ?_⟩
    refine plan_one [false, false, false, false, false, false, false, false, false, false, false, true] 11 2 (by dsimp only [sel]) (by rfl) rfl (by kernel_rfl) ?_; intro K1 hK1; go_wp2_with fail
    refine (rf.Rename_any sa st q Q G wa HA.out.2.2.1 HM.out.2.2.1 HM.out.2.1 (by omega) (by omega) (by omega) (by omega) (by omega)).mono ?_
    rintro e wb ⟨rfl, g3, g4⟩
    have hlb : later w1 (fun k => k ≠ z) wb := later_of ((((Chg.refl w1 (fun k => k ≠ z)).drew).trans HA.out.2.1 fun k _ hk e => HZF.out.1 (e ▸ hk)).trans g4 fun k _ hk e => HZF.out.2 (by rw [← e, hk]; exact HR.out.up.1))
    have hnx := DTwo.next (M := M) (M' := M.ren sa st) (Q' := Q.ren sa st) (show B ≤ w1.drew.heap.size from HBW.out) (HR.out.below (bdrew (Below.refl _ w1) 1)) HFB.out HGB.out HFG.out (HSW.out ⟨4, sa, st, b, nn⟩ HBB.out HNN.out.2) HL.out (M.step_near ⟨4, sa, st, b, nn⟩) (Q.step_near ⟨4, sa, st, b, nn⟩) HA.out.1 HA.out.2.1 g3 g4
    have HB := Lib.hid (And.intro hlb hnx); clear hlb hnx g3 g4
    go_wp2_with fail
    refine ⟨HB.out.1, ?_⟩
    refine plan_group [false, false, false, false, false, false, false, false, false, false, false, false, true, true] [12, 13] 0 (by dsimp only [sel]) (by rfl) rfl (by kernel_rfl) (by kernel_rfl) HB.out.1 ?_
    (repeat go_big_quiet_step (fail)); refine wpQuiet_nil ?_
    refine wp_plan_end (by kernel_rfl) ?_
    go_wp2_with fail
    go_ret2
    exact ⟨rfl, HB.out.2.1, HW1.out.2.trans ((bdrew (Below.refl _ w1) 1).trans HB.out.2.2)⟩
  by_cases h5 : kind = 5
  · subst h5
    clear h1
    clear h2
    clear h3
    clear h4
    go_upto_region 11 with fail
    have hS0 : later w1 (fun k => k ≠ z) w1.drew := later_of ((Chg.refl _ _).drew)
    refine wp_plan (S := fun w0 => ∃ x : Later w1 (fun k => k ≠ z), w0 = x.1) (by kernel_rfl) hS0 ?_
    intro hS' K5 hK5
    have HS := Lib.hid hS'; clear hS' hS0
    refine plan_group [true, true, true, false, true, true, true] [0, 1, 2, 4, 5, 6] 4 (by dsimp only [sel]) (by rfl) rfl (by kernel_rfl) (by kernel_rfl) HS.out ?_
    (repeat go_big_quiet_step (fail)); refine wpQuiet_nil ?_
    refine plan_one [false, false, false, true] 3 3 (by dsimp only [sel]) (by rfl) rfl (by kernel_rfl) ?_; intro K1 hK1; go_wp2_with fail
    refine (PDisk.remove (HP.out.below (bdrew (Below.refl _ w1) 1)) (by omega) HM.out.1 (by omega)).mono ?_
    rintro e wa ⟨rfl, g1, g2⟩
    have hr2 := (HR.out.below (bdrew (Below.refl _ w1) 1)).keep g2 fun k hk hf => HFG.out k hf hk
    have hla : later w1 (fun k => k ≠ z) wa := later_of (((Chg.refl w1 (fun k => k ≠ z)).drew).trans g2 fun k _ hk e => HZF.out.1 (e ▸ hk))
    have HA := Lib.hid (And.intro g1 (And.intro g2 (And.intro hr2 hla))); clear g1 g2 hr2 hla
    go_wp2_with fail
    refine ⟨HA.out.2.2.2, ?_⟩
    refine plan_one [false, false, false, false, false, false, false, true] 7 2 (by dsimp only [sel]) (by rfl) rfl (by kernel_rfl) ?_; intro K1 hK1; go_wp2_with fail
    refine (rf.Remove_any sa q Q G wa HA.out.2.2.1 HM.out.2.2.1 HM.out.2.1 (by omega) (by omega) (by omega) (by omega)).mono ?_
    rintro e wb ⟨rfl, g3, g4⟩
    have hlb : later w1 (fun k => k ≠ z) wb := later_of ((((Chg.refl w1 (fun k => k ≠ z)).drew).trans HA.out.2.1 fun k _ hk e => HZF.out.1 (e ▸ hk)).trans g4 fun k _ hk e => HZF.out.2 (by rw [← e, hk]; exact HR.out.up.1))
    have hnx := DTwo.next (M := M) (M' := M.rem sa) (Q' := Q.rem sa) (show B ≤ w1.drew.heap.size from HBW.out) (HR.out.below (bdrew (Below.refl _ w1) 1)) HFB.out HGB.out HFG.out (HSW.out ⟨5, sa, st, b, nn⟩ HBB.out HNN.out.2) HL.out (M.step_near ⟨5, sa, st, b, nn⟩) (Q.step_near ⟨5, sa, st, b, nn⟩) HA.out.1 HA.out.2.1 g3 g4
    have HB := Lib.hid (And.intro hlb hnx); clear hlb hnx g3 g4
    go_wp2_with fail
    refine ⟨HB.out.1, ?_⟩
    refine plan_group [false, false, false, false, false, false, false, false, true, true] [8, 9] 0 (by dsimp only [sel]) (by rfl) rfl (by kernel_rfl) (by kernel_rfl) HB.out.1 ?_
    (repeat go_big_quiet_step (fail)); refine wpQuiet_nil ?_
    refine wp_plan_end (by kernel_rfl) ?_
    go_wp2_with fail
    go_ret2
    exact ⟨rfl, HB.out.2.1, HW1.out.2.trans ((bdrew (Below.refl _ w1) 1).trans HB.out.2.2)⟩
  clear q1 q2 q3 q4
  have hstep : ∀ R : RDisk, R.step ⟨kind, sa, st, b, nn⟩ = (if kind = 6 then R.dir else if kind = 7 then R.cutAt nn else R) ∧ R.stepE ⟨kind, sa, st, b, nn⟩ = (if kind = 6 then R.actE [] else 0) := fun R => by
    unfold RDisk.step RDisk.stepE
    dsimp only
    rw [if_neg h1, if_neg h2, if_neg h3, if_neg h4, if_neg h5, if_neg h1, if_neg h2, if_neg h3, if_neg h4, if_neg h5]
    exact ⟨rfl, rfl⟩
  by_cases h6 : kind = 6
  · subst h6
    clear h1 h2 h3 h4 h5 hstep
    go_wp2_with (first
      | (go_at_call 40; refine (rf.SyncDir_any q Q G wa HA.out.2.2 HM.out.2.2.1 HM.out.2.1).mono ?_; rintro e wb ⟨rfl, g3, g4⟩; have HB := Lib.hid (And.intro g3 g4); clear g3 g4)
      | (go_at_call 24; refine (PDisk.syncDir HP.out HM.out.1 (by omega)).mono ?_; rintro e wa ⟨rfl, g1, g2⟩; have hr2 := HR.out.keep g2 (fun k hk hf => HFG.out k hf hk); have HA := Lib.hid (And.intro g1 (And.intro g2 hr2)); clear g1 g2 hr2))
    go_ret2
    have hnx := DTwo.next (M := M) (M' := M.dir) (Q' := Q.dir) HBW.out HR.out HFB.out HGB.out HFG.out (HSW.out ⟨6, sa, st, b, nn⟩ HBB.out HNN.out.2) HL.out (M.step_near ⟨6, sa, st, b, nn⟩) (Q.step_near ⟨6, sa, st, b, nn⟩) (HA.out.1.mono (Nat.le_add_right _ 2)) HA.out.2.1 HB.out.1 HB.out.2
    exact ⟨rfl, hnx.1, HW1.out.2.trans hnx.2⟩
  by_cases h7 : kind = 7
  · subst h7
    clear h1 h2 h3 h4 h5 h6 hstep
    go_upto_region 16 with (go_at_call 25; refine (PDisk.cut HP.out HNN.out).mono ?_; rintro e wa ⟨rfl, g1, g2⟩; have hr2 := HR.out.keep g2 (fun k hk hf => HFG.out k hf hk); have hla : Chg w1 wa (fun k => k ≠ z) := g2.mono fun k _ hk e => HZF.out.1 (e ▸ hk); have HA := Lib.hid (And.intro g1 (And.intro g2 hr2)); have k5 := HQ4.out ⟨wa, hla⟩; dsimp only at k5; clear g1 g2 hr2 hla)
    go_wp2_with (go_at_call 41; go_loud (refine (rf.Cut_any nn q Q G wa HA.out.2.2).mono ?_; rintro e wb ⟨rfl, g3, g4⟩; have HB := Lib.hid (And.intro g3 g4); clear g3 g4))
    go_ret2
    have hg : PDisk wa p (M.cutAt nn) (dk.grow F w1 wa) (n + 2) := by
      obtain ⟨-, -, hl, -⟩ := HP.out.up
      exact (HA.out.1.wide (fun k hk => ⟨.inl hk, Nat.lt_of_lt_of_le (hl k hk) HA.out.2.1.size⟩) fun _ hk => hk.2).mono (Nat.le_add_right _ 2)
    have hnx := DTwo.next (M := M) (M' := M.cutAt nn) (Q' := Q.cutAt nn) HBW.out HR.out HFB.out HGB.out HFG.out (HSW.out ⟨7, sa, st, b, nn⟩ HBB.out HNN.out.2) HL.out (M.step_near ⟨7, sa, st, b, nn⟩) (Q.step_near ⟨7, sa, st, b, nn⟩) hg HA.out.2.1 HB.out.1 HB.out.2
    exact ⟨rfl, hnx.1, HW1.out.2.trans hnx.2⟩
  have hno : ∀ R : RDisk, R.step ⟨kind, sa, st, b, nn⟩ = R ∧ R.stepE ⟨kind, sa, st, b, nn⟩ = 0 := fun R => by
    rw [(hstep R).1, (hstep R).2, if_neg h6, if_neg h7, if_neg h6]
    exact ⟨rfl, rfl⟩
  have HNO := Lib.hid hno; clear hno hstep
  go_wp2_with fail
  go_ret2
  rw [(HNO.out M).1, (HNO.out M).2, (HNO.out Q).1, (HNO.out Q).2]
  obtain ⟨⟨a1, a2, a3⟩, ⟨a4, a5⟩, a6, a7⟩ := HL.out
  exact ⟨rfl, ⟨F, G, HP.out.mono (Nat.le_add_right _ 2), HR.out, HM.out.2.2.1, HFB.out, HGB.out, HFG.out, ⟨by omega, by omega, by omega⟩, ⟨by omega, by omega⟩, by omega, by omega⟩, HW1.out.2⟩
end
end Go.Proofs.Ythffkbcjidbdaaa

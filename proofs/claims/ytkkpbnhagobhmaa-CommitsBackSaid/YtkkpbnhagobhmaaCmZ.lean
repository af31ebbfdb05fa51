/- The law's steps (cordwainlaw18): opened; small. -/
import Derived.BigQuiet
import Derived.Test.YtkkpbnhagobhmaaCmS
namespace Go.Proofs.Ytkkpbnhagobhmaa
section
open Go.ChangeShapes Go.WideShapes Go.ChangeAt Go.RowKit
set_option maxRecDepth 20000
structure MStep where
  kind : Int
  e : CEnt
  n : Int
  r : Rec
instance : Inhabited MStep := ⟨⟨0, ⟨ByteArray.empty, ByteArray.empty, 0, 0⟩, 0, ⟨0, 0, false, [], false, []⟩⟩⟩
def MStep.okay (x : MStep) : Prop := i64ok x.kind ∧ x.e.fit ∧ x.e.bd ∧ i64ok x.n ∧ i64ok x.r.off ∧ i64ok x.r.time
def MStepR (w : World) (cs : List Value) (x : MStep) : Prop := ∃ kv vv, cs = [.int .i64 x.kind, .string x.e.grp, .string x.e.top, .int .i64 x.e.part, .int .i64 x.e.off, .int .i64 x.n, .int .i64 x.r.off, .int .i64 x.r.time, .bool x.r.hasKey, kv, .bool x.r.hasVal, vv] ∧ BytesV w kv x.r.key ∧ BytesV w vv x.r.val ∧ x.okay
theorem mstep_of_trod {H : Type} {enc : TypeId × Value → H} {W : World} {fuel : Nat} {cs : List Value} {x : DataW H × List MemPlace}
    (h : DataW.trod enc Try.prog W 0 (fun _ => true) true fuel 39 cs = some x) (hlt : ∀ y ∈ x.2, y.block < W.heap.size) : ∃ a, MStepR W cs a := by
  have hl2 : cs.length = 12 := (trod_field Try.underlying39 h hlt).1.trans (by kernel_rfl)
  have hm : (Try.prog.cellsOf 39) = 12 := by kernel_rfl
  have hme : (Try.prog.cellsOf 24) = 4 := by kernel_rfl
  have hmr : (Try.prog.cellsOf 37) = 6 := by kernel_rfl
  have hi : (Try.prog.cellsOf 3) = 1 := by kernel_rfl
  have hs : (Try.prog.cellsOf 9) = 1 := by kernel_rfl
  obtain ⟨a0, g0, w0⟩ := field_int Try.underlying39 h hlt .i64 0 0 _ rfl rfl hi (by rw [hm]; omega) Try.underlying3
  obtain ⟨a5, g5, w5⟩ := field_int Try.underlying39 h hlt .i64 2 5 _ rfl rfl hi (by rw [hm]; omega) Try.underlying3
  obtain ⟨m1, z1, he, hel⟩ := (trod_field Try.underlying39 h hlt).2 1 _ rfl
  obtain ⟨m2, z2, hr, hrl⟩ := (trod_field Try.underlying39 h hlt).2 3 _ rfl
  replace he : DataW.trod enc Try.prog W 0 (fun _ => true) true m1 24 ((cs.drop 1).take (Try.prog.cellsOf 24)) = some z1 := he
  rw [hme] at he
  replace hr : DataW.trod enc Try.prog W 0 (fun _ => true) true m2 37 ((cs.drop 6).take (Try.prog.cellsOf 37)) = some z2 := hr
  rw [hmr] at hr
  obtain ⟨b0, q0, u0⟩ := field_str Try.underlying24 he hel 0 0 _ rfl rfl hs (by rw [hme]; omega) Try.underlying9
  obtain ⟨b1, q1, u1⟩ := field_str Try.underlying24 he hel 1 1 _ rfl rfl hs (by rw [hme]; omega) Try.underlying9
  obtain ⟨b2, q2, u2⟩ := field_int Try.underlying24 he hel .i64 2 2 _ rfl rfl hi (by rw [hme]; omega) Try.underlying3
  obtain ⟨b3, q3, u3⟩ := field_int Try.underlying24 he hel .i64 3 3 _ rfl rfl hi (by rw [hme]; omega) Try.underlying3
  obtain ⟨r, kv, vv, hcs, hk, hv, ho, ht⟩ := rec_of_trod hr hrl
  refine ⟨⟨a0, ⟨b0, b1, b2, b3⟩, a5, r⟩, kv, vv, ?_, hk, hv, wf_bd w0, ⟨u0, u1⟩, ⟨wf_bd u2, wf_bd u3⟩, wf_bd w5, ho, ht⟩
  have hE : ∀ j, j < 4 → cs[1 + j]? = ((cs.drop 1).take 4)[j]? := fun j hj => by rw [List.getElem?_take_of_lt hj, List.getElem?_drop]
  have hR : ∀ j, j < 6 → cs[6 + j]? = ((cs.drop 6).take 6)[j]? := fun j hj => by rw [List.getElem?_take_of_lt hj, List.getElem?_drop]
  rw [show ((cs.drop 6).take 6) = _ from hcs] at hR
  apply List.ext_getElem?
  intro j
  match j with
  | 0 => exact g0
  | 1 => exact (hE 0 (by omega)).trans q0
  | 2 => exact (hE 1 (by omega)).trans q1
  | 3 => exact (hE 2 (by omega)).trans q2
  | 4 => exact (hE 3 (by omega)).trans q3
  | 5 => exact g5
  | 6 => exact hR 0 (by omega)
  | 7 => exact hR 1 (by omega)
  | 8 => exact hR 2 (by omega)
  | 9 => exact hR 3 (by omega)
  | 10 => exact hR 4 (by omega)
  | 11 => exact hR 5 (by omega)
  | j + 12 => rw [List.getElem?_eq_none (by omega), List.getElem?_eq_none (by simp)]
/-- A slice of steps lies so. -/
def MSteps (w : World) (A : Option Addr) (xs : List MStep) : Prop := ∃ V, At w A (xs.length * 12) V ∧ ∀ (i : Nat) (a : MStep), xs[i]? = some a → MStepR w (cellsAt V i 12) a
theorem MSteps.below {w w' : World} {A : Option Addr} {xs : List MStep} {B : Nat} (h : MSteps w A xs) (hb : Below B w w') (hB : w.heap.size ≤ B) : MSteps w' A xs := by
  obtain ⟨V, h1, h2⟩ := h
  refine ⟨V, h1.below hb hB, fun i a ha => ?_⟩
  obtain ⟨kv, vv, h3, h4, h5, h6⟩ := h2 i a ha
  exact ⟨kv, vv, h3, h4.below hb hB, h5.below hb hB, h6⟩
theorem MSteps.at' {w : World} {A : Option Addr} {xs : List MStep} (h : MSteps w A xs) (k : Nat) {x : MStep} (hx : xs[k]? = some x) :
    ∃ b off kv vv, A = some ⟨b, off, none⟩ ∧ b < w.heap.size ∧ w.cell? ⟨b, off + k * 12, none⟩ = some (.int .i64 x.kind) ∧ w.cell? ⟨b, off + k * 12 + 1, none⟩ = some (.string x.e.grp) ∧ w.cell? ⟨b, off + k * 12 + 2, none⟩ = some (.string x.e.top) ∧ w.cell? ⟨b, off + k * 12 + 3, none⟩ = some (.int .i64 x.e.part) ∧ w.cell? ⟨b, off + k * 12 + 4, none⟩ = some (.int .i64 x.e.off) ∧ w.cell? ⟨b, off + k * 12 + 5, none⟩ = some (.int .i64 x.n) ∧ w.cell? ⟨b, off + k * 12 + 6, none⟩ = some (.int .i64 x.r.off) ∧ w.cell? ⟨b, off + k * 12 + 7, none⟩ = some (.int .i64 x.r.time) ∧ w.cell? ⟨b, off + k * 12 + 8, none⟩ = some (.bool x.r.hasKey) ∧ w.cell? ⟨b, off + k * 12 + 9, none⟩ = some kv ∧ w.cell? ⟨b, off + k * 12 + 10, none⟩ = some (.bool x.r.hasVal) ∧ w.cell? ⟨b, off + k * 12 + 11, none⟩ = some vv ∧ BytesV w kv x.r.key ∧ BytesV w vv x.r.val ∧ x.okay := by
  obtain ⟨V, h1, h2⟩ := h
  have hk := (List.getElem?_eq_some_iff.1 hx).1
  obtain ⟨b, off, hA, hb, hc⟩ := h1 (by omega)
  obtain ⟨kv, vv, h3, h4, h5, h8⟩ := h2 k x hx
  refine ⟨b, off, kv, vv, hA, hb, ?_, ?_, ?_, ?_, ?_, ?_, ?_, ?_, ?_, ?_, ?_, ?_, h4, h5, h8⟩
  · rw [hc _ (by omega)]; exact congrArg some (cellsAt_cell h3 0 (by omega) rfl)
  · rw [Nat.add_assoc, hc _ (by omega)]; exact congrArg some (cellsAt_cell h3 1 (by omega) rfl)
  · rw [Nat.add_assoc, hc _ (by omega)]; exact congrArg some (cellsAt_cell h3 2 (by omega) rfl)
  · rw [Nat.add_assoc, hc _ (by omega)]; exact congrArg some (cellsAt_cell h3 3 (by omega) rfl)
  · rw [Nat.add_assoc, hc _ (by omega)]; exact congrArg some (cellsAt_cell h3 4 (by omega) rfl)
  · rw [Nat.add_assoc, hc _ (by omega)]; exact congrArg some (cellsAt_cell h3 5 (by omega) rfl)
  · rw [Nat.add_assoc, hc _ (by omega)]; exact congrArg some (cellsAt_cell h3 6 (by omega) rfl)
  · rw [Nat.add_assoc, hc _ (by omega)]; exact congrArg some (cellsAt_cell h3 7 (by omega) rfl)
  · rw [Nat.add_assoc, hc _ (by omega)]; exact congrArg some (cellsAt_cell h3 8 (by omega) rfl)
  · rw [Nat.add_assoc, hc _ (by omega)]; exact congrArg some (cellsAt_cell h3 9 (by omega) rfl)
  · rw [Nat.add_assoc, hc _ (by omega)]; exact congrArg some (cellsAt_cell h3 10 (by omega) rfl)
  · rw [Nat.add_assoc, hc _ (by omega)]; exact congrArg some (cellsAt_cell h3 11 (by omega) rfl)
theorem open_msteps {H : Type} {enc : TypeId × Value → H} {W : World} {base : Nat} {v : Value} {d : DataW H} {p : List MemPlace}
    (hv : Value.okWide Try.prog W .any base 22 v) (h : DataW.Trod enc Try.prog W 0 (fun _ => true) true 22 v d p) (hlt : ∀ x ∈ p, x.block < W.heap.size) :
    ∃ (A : Option Addr) (n c : Nat) (xs : List MStep), v = .slice A n c ∧ (xs.length = n ∧ n ≤ c ∧ c ≤ maxLen) ∧ MSteps W A xs := by
  obtain ⟨a0, len, cap, rfl⟩ := okWide_slice Try.underlying22 hv
  obtain ⟨fuel, hf⟩ := h
  obtain ⟨xs, A, n, c, V, h1, h2, h3, h4, h5, h6⟩ := trod_slg Try.underlying22 (m := 12) (by kernel_rfl) (by omega) (R := MStepR W) (fun _ _ _ h hl => mstep_of_trod h hl) hf hlt
  simp only [Value.cells, List.cons.injEq, and_true] at h1
  have h1' : Value.slice a0 len cap = .slice A n c := by simpa using h1
  exact ⟨A, n, c, xs, h1', ⟨h2, h3, h4⟩, V, by rw [h2]; exact h5, h6⟩
end
section
open Go.RowKit
set_option maxRecDepth 20000
theorem at_five5 (w : World) (a b c d e : Int) (t : TypeId) : At (w.alloc (.cells #[.int .i64 a, .int .i64 b, .int .i64 c, .int .i64 d, .int .i64 e] t)) (some ⟨w.heap.size, 0, none⟩) 5 (fun j => .int .i64 ([a, b, c, d, e].getD j 0)) :=
  (At.new w #[.int .i64 a, .int .i64 b, .int .i64 c, .int .i64 d, .int .i64 e] t (fr := (0, 0)) (n := 5) rfl).congr fun j hj => by
    have hj' : j = 0 ∨ j = 1 ∨ j = 2 ∨ j = 3 ∨ j = 4 := by omega
    rcases hj' with rfl | rfl | rfl | rfl | rfl <;> rfl
def MStep.low (x : MStep) : Prop := x.e.grp.size ≤ 2000 ∧ x.e.top.size ≤ 2000 ∧ x.r.key.length ≤ 2000 ∧ x.r.val.length ≤ 2000
def ms.post (w : World) (P : Prop) (e : Ending) (w' : World) : Prop := (∃ r, e = .returned (.bool r) ∧ (r = true → P)) ∧ Below w.heap.size w w'
theorem ms.cellF {w w' : World} (hc : Chg w w' (fun _ => False)) {b off : Nat} {v : Value} (h : w.cell? ⟨b, off, none⟩ = some v) (hb : b < w.heap.size) : w'.cell? ⟨b, off, none⟩ = some v := (World.cell?_of_block (hc.block b hb fun q => q)).trans h
def ms.small (xs : List MStep) (n : Nat) : Prop := n ≤ 80 ∧ ∀ (i : Nat) (x : MStep), xs[i]? = some x → x.low
set_option maxHeartbeats 8000000 in
theorem law18.small_any (A : Option Addr) (n c : Nat) (xs : List MStep) (w : World) (hx : xs.length = n ∧ n ≤ c ∧ c ≤ maxLen) (hat : MSteps w A xs) :
    Calls Try.prog 7 #[.slice A n c] w (ms.post w (ms.small xs n)) := by
  obtain ⟨hx1, hx2, hx3⟩ := hx
  unfold maxLen at hx3
  have HAX := Lib.hid (And.intro hat hx1); clear hat hx1
  go_enter Try.func7, Try.ntmps7
  go_wp2_with fail
  go_loopw [3, 4] (fun x i wr => ∃ (k : Nat) (t : Int), k ≤ n ∧ i = .int .i64 (k : Int) ∧ x = .int .i64 t ∧ 0 ≤ t ∧ t ≤ 1099511627776 ∧ (t ≤ 2000 → ∀ (j : Nat) (x : MStep), j < k → xs[j]? = some x → x.low) ∧ Below w.heap.size w wr) (fun _ i _ => n - (intOf i).toNat)
  case atStart => exact ⟨0, 0, by omega, rfl, rfl, by omega, by omega, (fun _ j x h => absurd h (by omega)), Below.refl _ _⟩
  case round =>
    obtain ⟨k, t, hk, rfl, rfl, ht0, ht1, ht, hb⟩ := hrel
    have HT := Lib.hid ht; clear ht
    have HB := Lib.hid hb; clear hb
    by_cases hgo : k < n ∧ t ≤ 2000
    · obtain ⟨hlt, ht2⟩ := hgo
      have hlt' : (k : Int) < (n : Int) := by omega
      have hkx : k < xs.length := by rw [HAX.out.2]; exact hlt
      obtain ⟨x, hxx⟩ : ∃ x, xs[k]? = some x := ⟨_, List.getElem?_eq_getElem hkx⟩
      obtain ⟨b, off, kv, vv, rfl, hbb, -, c1, c2, -, -, -, -, -, -, c9, -, c11, bk, bv, hok⟩ := (HAX.out.1.below HB.out (Nat.le_refl _)).at' k hxx
      have hlow : x.low ↔ (x.e.grp.size ≤ 2000 ∧ x.e.top.size ≤ 2000 ∧ x.r.key.length ≤ 2000 ∧ x.r.val.length ≤ 2000) := Iff.rfl
      have hsa := hok.2.1.1
      have hst := hok.2.1.2
      obtain ⟨Ak, ck, rfl, -, hk1, hk2, -⟩ := bk
      obtain ⟨Av, cv, rfl, -, hv1, hv2, -⟩ := bv
      generalize x.e.grp = sa at *
      generalize x.e.top = st at *
      obtain ⟨m, hm⟩ : ∃ m, m = x.r.key.length := ⟨_, rfl⟩
      obtain ⟨m2, hm2⟩ : ∃ m, m = x.r.val.length := ⟨_, rfl⟩
      rw [← hm] at c9 hk1 hlow
      rw [← hm2] at c11 hv1 hlow
      clear hm hm2 hok
      have hmm : m ≤ 9223372036854775807 ∧ m2 ≤ 9223372036854775807 := by unfold maxLen at hk2 hv2; omega
      unfold maxLen at hsa hst
      have HL := Lib.hid (And.intro hlow (And.intro hxx (And.intro hkx hmm))); clear hlow hxx hkx hk1 hk2 hv1 hv2
      have hm1 := hmm.1
      have hm2 := hmm.2
      clear hmm
      have p1 : ∀ x : Later wr (fun _ => False), x.1.cell? ⟨b, off + k * 12 + 1, none⟩ = some (.string sa) := fun x => ms.cellF x.2 c1 hbb
      have p2 : ∀ x : Later wr (fun _ => False), x.1.cell? ⟨b, off + k * 12 + 2, none⟩ = some (.string st) := fun x => ms.cellF x.2 c2 hbb
      have p3 : ∀ x : Later wr (fun _ => False), x.1.cell? ⟨b, off + k * 12 + 6 + 3, none⟩ = some (.slice Ak m ck) := fun x => ms.cellF x.2 c9 hbb
      have d4 : wr.drew.cell? ⟨b, off + k * 12 + 6 + 5, none⟩ = some (.slice Av m2 cv) := c11
      go_upto_region 5 with fail
      have hS0 : later wr (fun _ => False) wr.drew := later_of ((Chg.refl _ _).drew)
      refine wp_plan (S := fun w0 => ∃ x : Later wr (fun _ => False), w0 = x.1) (by kernel_rfl) hS0 ?_
      intro hS' K5 hK5
      have HS := Lib.hid hS'; clear hS' hS0
      refine plan_group [true, true, true, true, true, true, true, true, true, true, true, true, true, true, true, true, true, true, true, true, true, true, true, true, true, true, true] [0, 1, 2, 3, 4, 5, 6, 7, 8, 9, 10, 11, 12, 13, 14, 15, 16, 17, 18, 19, 20, 21, 22, 23, 24, 25, 26] 5 (by dsimp only [sel]) (by rfl) rfl (by kernel_rfl) (by kernel_rfl) HS.out ?_
      (repeat go_big_quiet_step (fail)); refine wpQuiet_nil ?_
      refine plan_one [false, false, false, false, false, false, false, false, false, false, false, false, false, false, false, false, false, false, false, false, false, false, false, false, false, false, false, true] 27 4 (by dsimp only [sel]) (by rfl) rfl (by kernel_rfl) ?_; intro K1 hK1; go_wp2_with fail
      refine ⟨HS.out, ?_⟩
      refine plan_group [false, false, false, false, false, false, false, false, false, false, false, false, false, false, false, false, false, false, false, false, false, false, false, false, false, false, false, false, true] [28] 3 (by dsimp only [sel]) (by rfl) rfl (by kernel_rfl) (by kernel_rfl) HS.out ?_
      (repeat go_big_quiet_step (fail)); refine wpQuiet_nil ?_
      refine plan_one [false, false, false, false, false, false, false, false, false, false, false, false, false, false, false, false, false, false, false, false, false, false, false, false, false, false, false, false, false, true] 29 2 (by dsimp only [sel]) (by rfl) rfl (by kernel_rfl) ?_; intro K1 hK1; go_wp2_with fail
      refine ⟨later_of (Chg.alloc _ _ _).drew, ?_⟩
      refine plan_one [false, false, false, false, false, false, false, false, false, false, false, false, false, false, false, false, false, false, false, false, false, false, false, false, false, false, false, false, false, false, true] 30 1 (by dsimp only [sel]) (by rfl) rfl (by kernel_rfl) ?_; intro K1 hK1; go_wp2_with fail
      refine (alike.sum_any t _ 5 5 [(sa.size : Int), (st.size : Int), (m : Int), (m2 : Int), 1] _ ht0 ht1 (by omega) rfl ((at_five5 wr _ _ _ _ _ _).below (bdrew (Below.refl _ _) 1) (Nat.le_refl _)) (fun x hx => by simp at hx; omega)).mono ?_
      rintro a w' ⟨rfl, rfl⟩
      have hsm : alike.sum t [(sa.size : Int), (st.size : Int), (m : Int), (m2 : Int), 1] = min (t + sa.size + st.size + m + m2 + 1) 1099511627776 := by unfold alike.sum; simp; omega
      rw [hsm]
      clear hsm
      go_wp2_with fail
      refine ⟨later_of (Chg.alloc _ _ _).drew, ?_⟩
      refine plan_group [false, false, false, false, false, false, false, false, false, false, false, false, false, false, false, false, false, false, false, false, false, false, false, false, false, false, false, false, false, false, false, true] [31] 0 (by dsimp only [sel]) (by rfl) rfl (by kernel_rfl) (by kernel_rfl) (later_of (Chg.alloc _ _ _).drew) ?_
      (repeat go_big_quiet_step (fail)); refine wpQuiet_nil ?_
      refine wp_plan_end (by kernel_rfl) ?_
      go_wp2_with fail
      go_roundw
      case rel =>
        refine ⟨k + 1, min (t + sa.size + st.size + m + m2 + 1) 1099511627776, by omega, by go_num, rfl, by omega, by omega, fun h j y hj hy => ?_, bdrew (HB.out.alloc HB.out.size _) 1⟩
        by_cases hjk : j < k
        · exact HT.out (by omega) j y hjk hy
        · obtain rfl : j = k := by omega
          have e := HL.out.2.1
          rw [hy] at e
          obtain rfl := Option.some.inj e
          exact HL.out.1.2 (by omega)
      case measure => simp [intOf]; omega
    · by_cases hbig : 2000 < t
      · clear hgo
        have hnb : ¬ t ≤ 2000 := by omega
        go_wp2_with fail
        all_goals
          go_ret
          exact ⟨⟨false, rfl, fun h => by cases h⟩, HB.out⟩
      · have hkn : ¬ k < n := by omega
        obtain rfl : k = n := by omega
        have ht2 : t ≤ 2000 := by omega
        have htl := HT.out ht2
        clear hgo hkn
        have HTL := Lib.hid htl; clear htl
        by_cases h80 : (k : Int) ≤ 80
        · have h8 : decide ((k : Int) ≤ 80) = true := decide_eq_true h80
          go_wp2_with fail
          go_ret
          exact ⟨⟨true, rfl, fun _ => ⟨by omega, fun i x hi => HTL.out i x (by have := (List.getElem?_eq_some_iff.1 hi).1; have := HAX.out.2; omega) hi⟩⟩, HB.out⟩
        · have h8 : decide ((k : Int) ≤ 80) = false := decide_eq_false h80
          go_wp2_with fail
          go_ret
          exact ⟨⟨false, rfl, fun h => by cases h⟩, HB.out⟩
end
end Go.Proofs.Ytkkpbnhagobhmaa

/- Batches and pairs compared: SameBatches of the same, fold.Same, SamePairs without offsets. -/
import Derived.BigQuiet
import Derived.Deep.QuietTactic
import Derived.Deep.Cut
import Derived.Test.YtbbekgliaedigaaFoM
import Derived.Test.YtbbekgliaedigaaSmR
namespace Go.Proofs.Ytbbekgliaedigaa
open Go.RowKit Go.Maps
set_option maxRecDepth 100000

theorem sb.self : ∀ rs : List Rec, recsSame rs rs = true
  | [] => rfl
  | r :: rs => by
    unfold recsSame
    rw [sb.self rs, decide_eq_true (show r.Same r from ⟨rfl, rfl, rfl, rfl, rfl, rfl⟩)]
    rfl
theorem Bat.same_self (b : Bat) : b.same b = true := by
  unfold Bat.same
  rw [sb.self, decide_eq_true (show b.heads b from ⟨rfl, rfl, rfl, rfl, rfl⟩)]
  rfl
set_option maxHeartbeats 4000000 in
/-- SameBatches of the same. -/
theorem sb.true_any (A : Option Addr) (n c : Nat) (B : Option Addr) (d : Nat) (bs : List Bat) (w : World) (hn : bs.length = n) (hn1 : n ≤ 1000000) (ha : BatsAt w A bs) (hb : BatsAt w B bs) :
    Calls Try.prog 38 #[.slice A n c, .slice B n d] w fun e w' => e = .returned (.bool true) ∧ Below w.heap.size w w' := by
  have HA := Lib.hid ha; clear ha
  have HB := Lib.hid hb; clear hb
  have HN := Lib.hid hn; clear hn
  go_enter Try.func38, Try.ntmps38
  go_wp2_with fail
  go_loopw [5] (fun s5 wx => ∃ k : Nat, s5 = .int .i64 (k : Int) ∧ k ≤ n ∧ Below w.heap.size w wx) (fun s5 _ => n - (intOf s5).toNat)
  case atStart => exact ⟨0, rfl, by omega, Below.refl _ _⟩
  case round =>
    obtain ⟨k, rfl, hk, hbw⟩ := hrel
    have HBW := Lib.hid hbw; clear hbw
    by_cases hlt : k < n
    · have hlt' : (k : Int) < n := by omega
      obtain ⟨x, hx⟩ : ∃ x, bs[k]? = some x := ⟨_, List.getElem?_eq_getElem (by rw [HN.out]; exact hlt)⟩
      obtain ⟨p, po, v1, hA1, hp, d0, d1, d2, d3, d4, d5, hv1, -⟩ := HA.out.at' hx
      obtain ⟨q, qo, v2, hA2, hq, e0, e1, e2, e3, e4, e5, hv2, -⟩ := HB.out.at' hx
      subst hA1 hA2
      obtain ⟨A1, c1, V1, rfl, -⟩ := id hv1
      obtain ⟨A2, c2, V2, rfl, -⟩ := id hv2
      have hsame := fun wx (h : Below w.heap.size w wx) => ref.same_any x x A1 c1 A2 c2 wx (hv1.below h (Nat.le_refl _)) (hv2.below h (Nat.le_refl _))
      rw [Bat.same_self] at hsame
      unfold Bat.sval at hsame
      obtain ⟨m, hm⟩ : ∃ m, m = x.recs.length := ⟨_, rfl⟩
      rw [← hm] at hsame d5 e5
      have HSAME := Lib.hid hsame; clear hsame hv1 hv2 hm hx
      have hst : ∀ y : Stand w, Below w.heap.size w y.1 := fun y => y.2
      have f0 : ∀ y : Stand w, y.1.cell? ⟨p, po + k * 6, none⟩ = some (.int .i64 x.base) := fun y => (y.2.cell (p := ⟨p, po + k * 6, none⟩) hp).trans d0
      have f1 : ∀ y : Stand w, y.1.cell? ⟨p, po + k * 6 + 1, none⟩ = some (.int .i64 x.last) := fun y => (y.2.cell (p := ⟨p, po + k * 6 + 1, none⟩) hp).trans d1
      have f2 : ∀ y : Stand w, y.1.cell? ⟨p, po + k * 6 + 2, none⟩ = some (.int .i64 x.prod) := fun y => (y.2.cell (p := ⟨p, po + k * 6 + 2, none⟩) hp).trans d2
      have f3 : ∀ y : Stand w, y.1.cell? ⟨p, po + k * 6 + 3, none⟩ = some (.int .i64 x.epoch) := fun y => (y.2.cell (p := ⟨p, po + k * 6 + 3, none⟩) hp).trans d3
      have f4 : ∀ y : Stand w, y.1.cell? ⟨p, po + k * 6 + 4, none⟩ = some (.int .i64 x.seq) := fun y => (y.2.cell (p := ⟨p, po + k * 6 + 4, none⟩) hp).trans d4
      have f5 : ∀ y : Stand w, y.1.cell? ⟨p, po + k * 6 + 5, none⟩ = some (.slice A1 m c1) := fun y => (y.2.cell (p := ⟨p, po + k * 6 + 5, none⟩) hp).trans d5
      have g0 := (HBW.out.cell (p := ⟨q, qo + k * 6, none⟩) hq).trans e0
      have g1 := (HBW.out.cell (p := ⟨q, qo + k * 6 + 1, none⟩) hq).trans e1
      have g2 := (HBW.out.cell (p := ⟨q, qo + k * 6 + 2, none⟩) hq).trans e2
      have g3 := (HBW.out.cell (p := ⟨q, qo + k * 6 + 3, none⟩) hq).trans e3
      have g4 := (HBW.out.cell (p := ⟨q, qo + k * 6 + 4, none⟩) hq).trans e4
      have g5 := (HBW.out.cell (p := ⟨q, qo + k * 6 + 5, none⟩) hq).trans e5
      have h0 : wr.drew.cell? ⟨q, qo + k * 6, none⟩ = some (.int .i64 x.base) := g0
      have h1 : wr.drew.cell? ⟨q, qo + k * 6 + 1, none⟩ = some (.int .i64 x.last) := g1
      have h2 : wr.drew.cell? ⟨q, qo + k * 6 + 2, none⟩ = some (.int .i64 x.prod) := g2
      have h3 : wr.drew.cell? ⟨q, qo + k * 6 + 3, none⟩ = some (.int .i64 x.epoch) := g3
      have h4 : wr.drew.cell? ⟨q, qo + k * 6 + 4, none⟩ = some (.int .i64 x.seq) := g4
      have h5 : wr.drew.cell? ⟨q, qo + k * 6 + 5, none⟩ = some (.slice A2 m c2) := g5
      clear d0 d1 d2 d3 d4 d5 e0 e1 e2 e3 e4 e5 hst
      go_upto_region 6 with fail
      have hS0 : ∃ y : Stand w, wr.drew = y.1 := stand_of (bdrew HBW.out 1)
      refine wp_plan (S := fun w0 => ∃ y : Stand w, w0 = y.1) (by kernel_rfl) hS0 ?_
      intro hS K5 hK5
      have HS := Lib.hid hS; clear hS hS0
      refine plan_group [true, true, true, true, true, true, true] [0, 1, 2, 3, 4, 5, 6] 3 (by dsimp only [sel]) (by rfl) rfl (by kernel_rfl) (by kernel_rfl) HS.out ?_
      (repeat go_big_quiet_step (fail)); refine wpQuiet_nil ?_
      clear f0 f1 f2 f3 f4 f5
      refine plan_one [false, false, false, false, false, false, false, true] 7 2 (by dsimp only [sel]) (by rfl) rfl (by kernel_rfl) ?_; intro K1 hK1; go_wp2_with fail
      refine ⟨HS.out, ?_⟩
      clear g0 g1 g2 g3 g4 g5 h0 h1 h2 h3 h4 h5
      refine plan_one [false, false, false, false, false, false, false, false, true] 8 1 (by dsimp only [sel]) (by rfl) rfl (by kernel_rfl) ?_; intro K1 hK1; go_wp2_with fail
      refine (HSAME.out _ (bdrew HBW.out 1)).mono ?_
      rintro e w5 ⟨rfl, hb5⟩
      have HB5 := Lib.hid ((bdrew HBW.out 1).trans (hb5.mono (bdrew HBW.out 1).size)); clear hb5
      go_wp2_with fail
      refine ⟨stand_of HB5.out, ?_⟩
      refine plan_group [false, false, false, false, false, false, false, false, false, true] [9] 0 (by dsimp only [sel]) (by rfl) rfl (by kernel_rfl) (by kernel_rfl) (stand_of HB5.out) ?_
      (repeat go_big_quiet_step (fail)); refine wpQuiet_nil ?_
      refine wp_plan_end (by kernel_rfl) ?_
      go_wp2_with fail
      go_roundw
      case rel => exact ⟨k + 1, by go_num, by omega, HB5.out⟩
      case measure => simp [intOf]; omega
    · obtain rfl : k = n := by omega
      go_wp2_with fail
      go_ret
      exact ⟨rfl, HBW.out⟩

/-- Pairs of the same key and the same value. -/
def pf.eqv (x y : PItm) : Bool := decide (strOf x.bs = strOf y.bs) && decide (strOf x.vs = strOf y.vs)
/-- A pair's bytes lie so, however long they are. -/
def PWide (w : World) (x : PItm) : Prop := x.bs.length = x.k ∧ At w x.A x.k (byteAt x.bs) ∧ x.vs.length = x.vk ∧ At w x.VA x.vk (byteAt x.vs)
theorem PWide.below {w w' : World} {x : PItm} {B : Nat} (h : PWide w x) (hb : Below B w w') (hB : w.heap.size ≤ B) : PWide w' x :=
  ⟨h.1, h.2.1.below hb hB, h.2.2.1, h.2.2.2.below hb hB⟩
theorem PBytes.wide {w : World} {x : PItm} (h : PBytes w x) : PWide w x := ⟨h.1, h.2.2.1, h.2.2.2.1, h.2.2.2.2.2⟩
def pf.eqs : List PItm → List PItm → Bool
  | [], [] => true
  | x :: xs, y :: ys => pf.eqv x y && pf.eqs xs ys
  | _, _ => false
theorem pf.eqs_len : ∀ (l m : List PItm), l.length ≠ m.length → pf.eqs l m = false
  | [], [], h => absurd rfl h
  | [], _ :: _, _ => rfl
  | _ :: _, [], _ => rfl
  | x :: xs, y :: ys, h => by
    unfold pf.eqs
    rw [pf.eqs_len xs ys (fun e => h (by simp [e])), Bool.and_false]
theorem pf.eqs_drop {l m : List PItm} {j : Nat} {x y : PItm} (hx : l[j]? = some x) (hy : m[j]? = some y) : pf.eqs (l.drop j) (m.drop j) = (pf.eqv x y && pf.eqs (l.drop (j + 1)) (m.drop (j + 1))) := by
  obtain ⟨h1, h2⟩ := List.getElem?_eq_some_iff.1 hx
  obtain ⟨h3, h4⟩ := List.getElem?_eq_some_iff.1 hy
  rw [List.drop_eq_getElem_cons h1, List.drop_eq_getElem_cons h3, h2, h4]
  rfl
theorem pf.eqs_end {l m : List PItm} {n : Nat} (h1 : l.length = n) (h2 : m.length = n) : pf.eqs (l.drop n) (m.drop n) = true := by
  rw [List.drop_of_length_le (by rw [h1]; exact Nat.le_refl _), List.drop_of_length_le (by rw [h2]; exact Nat.le_refl _)]
  rfl
set_option maxHeartbeats 2000000 in
theorem fs.one_any (x y : PItm) (w : World) (hx : PWide w x) (hy : PWide w y) :
    Calls Try.prog 80 #[x.agg, y.agg] w fun e w' => e = .returned (.bool (pf.eqv x y)) ∧ Below w.heap.size w w' := by
  obtain ⟨xA, xk, xc, xbs, xVA, xvk, xvc, xvs, xo⟩ := x
  obtain ⟨yA, yk, yc, ybs, yVA, yvk, yvc, yvs, yo⟩ := y
  obtain ⟨a1, a2, a3, a4⟩ := hx
  obtain ⟨b1, b2, b3, b4⟩ := hy
  dsimp only at a1 a2 a3 a4 b1 b2 b3 b4
  subst a1 a3 b1 b3
  have hk := fun wx (h : Below w.heap.size w wx) => bytes.equal_any xA xc xbs yA yc ybs wx (a2.below h (Nat.le_refl _)) (b2.below h (Nat.le_refl _))
  have hv := fun wx (h : Below w.heap.size w wx) => bytes.equal_any xVA xvc xvs yVA yvc yvs wx (a4.below h (Nat.le_refl _)) (b4.below h (Nat.le_refl _))
  have HK := Lib.hid hk; clear hk a2 b2
  have HV := Lib.hid hv; clear hv a4 b4
  unfold PItm.agg pf.eqv
  dsimp only
  by_cases e1 : strOf xbs = strOf ybs
  · rw [decide_eq_true e1] at HK ⊢
    rw [Bool.true_and]
    generalize decide (strOf xvs = strOf yvs) = b at *
    generalize xbs.length = n1 at *
    generalize ybs.length = n2 at *
    generalize xvs.length = n3 at *
    generalize yvs.length = n4 at *
    go_enter Try.func80, Try.ntmps80
    go_wp2_with fail
    refine (HK.out _ (two_boxes _ _)).mono ?_
    rintro e wx ⟨rfl, rfl⟩
    go_wp2_with fail
    refine (HV.out _ (two_boxes _ _)).mono ?_
    rintro e wx ⟨rfl, rfl⟩
    go_wp2_with fail
    go_ret
    exact ⟨rfl, two_boxes _ _⟩
  · rw [decide_eq_false e1] at HK ⊢
    rw [Bool.false_and]
    generalize xbs.length = n1 at *
    generalize ybs.length = n2 at *
    generalize xvs.length = n3 at *
    generalize yvs.length = n4 at *
    go_enter Try.func80, Try.ntmps80
    go_wp2_with fail
    refine (HK.out _ (two_boxes _ _)).mono ?_
    rintro e wx ⟨rfl, rfl⟩
    go_wp2_with fail
    go_ret
    exact ⟨rfl, two_boxes _ _⟩
set_option maxHeartbeats 4000000 in
theorem fs.equal_any (A : Option Addr) (n c : Nat) (l : List PItm) (B : Option Addr) (m d : Nat) (l2 : List PItm) (w : World) (hl : l.length = n) (hm : l2.length = m) (hn1 : n ≤ 1000000) (hm1 : m ≤ 1000000) (ha : PAt w A l) (hb : ∀ x ∈ l, PWide w x) (ha2 : PAt w B l2) (hb2 : ∀ x ∈ l2, PWide w x) :
    Calls Try.prog 79 #[.slice A n c, .slice B m d, .func (.func 80) #[] #[]] w fun e w' => e = .returned (.bool (pf.eqs l l2)) ∧ Below w.heap.size w w' := by
  have HA := Lib.hid (And.intro ha hb); clear ha hb
  have HA2 := Lib.hid (And.intro ha2 hb2); clear ha2 hb2
  by_cases hnm : n = m
  · subst hnm
    have HL := Lib.hid (And.intro hl hm); clear hl hm
    obtain ⟨R, hR⟩ : ∃ R, R = pf.eqs l l2 := ⟨_, rfl⟩
    rw [← hR]
    have HR := Lib.hid hR; clear hR
    go_enter Try.func79, Try.ntmps79
    go_wp2_with fail
    go_loopw [17] (fun i wr => ∃ j : Nat, j ≤ n ∧ i = .int .i64 (j : Int) ∧ R = pf.eqs (l.drop j) (l2.drop j) ∧ Below w.heap.size w wr) (fun i _ => n - (intOf i).toNat)
    case atStart => exact ⟨0, by omega, rfl, HR.out, Below.refl _ _⟩
    case round =>
      obtain ⟨j, hj, rfl, hrs, hbw⟩ := hrel
      clear HR
      have HBW := Lib.hid hbw; clear hbw
      have HRS := Lib.hid hrs; clear hrs
      by_cases hlt : j < n
      · have hlt' : (j : Int) < n := by omega
        obtain ⟨x, hx⟩ : ∃ x, l[j]? = some x := ⟨_, List.getElem?_eq_getElem (by rw [HL.out.1]; exact hlt)⟩
        obtain ⟨y, hy⟩ : ∃ y, l2[j]? = some y := ⟨_, List.getElem?_eq_getElem (by rw [HL.out.2]; exact hlt)⟩
        obtain ⟨p, po, hA1, hp, d0, d1, d2⟩ := HA.out.1.cells hx
        obtain ⟨q, qo, hA2, hq, e0, e1, e2⟩ := HA2.out.1.cells hy
        subst hA1 hA2
        have hstep := pf.eqs_drop hx hy
        have hone := fun wx (h : Below w.heap.size w wx) => fs.one_any x y wx ((HA.out.2 x (List.mem_of_getElem? hx)).below h (Nat.le_refl _)) ((HA2.out.2 y (List.mem_of_getElem? hy)).below h (Nat.le_refl _))
        unfold PItm.agg at hone
        generalize pf.eqv x y = b at *
        have hpw := Nat.lt_of_lt_of_le hp HBW.out.size
        have hqw := Nat.lt_of_lt_of_le hq HBW.out.size
        have f0 := (HBW.out.cell (p := ⟨p, po + j * 3, none⟩) hp).trans d0
        have f1 := (HBW.out.cell (p := ⟨p, po + j * 3 + 1, none⟩) hp).trans d1
        have f2 := (HBW.out.cell (p := ⟨p, po + j * 3 + 2, none⟩) hp).trans d2
        have g0 := (HBW.out.cell (p := ⟨q, qo + j * 3, none⟩) hq).trans e0
        have g1 := (HBW.out.cell (p := ⟨q, qo + j * 3 + 1, none⟩) hq).trans e1
        have g2 := (HBW.out.cell (p := ⟨q, qo + j * 3 + 2, none⟩) hq).trans e2
        have HONE := Lib.hid hone; clear hone
        have HSTEP := Lib.hid hstep; clear hstep hx hy d0 d1 d2 e0 e1 e2
        have htwo : ∀ o o', Below w.heap.size w ((wr.alloc o).alloc o') := fun o o' => HBW.out.trans ((two_boxes o o').mono HBW.out.size)
        go_wp2_with fail
        refine (HONE.out _ (htwo _ _)).mono ?_
        rintro e w5 ⟨rfl, hb5⟩
        have HB5 := Lib.hid ((htwo _ _).trans (hb5.mono (htwo _ _).size)); clear hb5 f0 f1 f2 g0 g1 g2 htwo
        cases b with
        | true =>
          have hr2 : R = pf.eqs (l.drop (j + 1)) (l2.drop (j + 1)) := by rw [HRS.out, HSTEP.out, Bool.true_and]
          have HR2 := Lib.hid hr2; clear hr2
          go_wp2_with fail
          go_roundw
          case rel => exact ⟨j + 1, by omega, by go_num, HR2.out, HB5.out⟩
          case measure => simp [intOf]; omega
        | false =>
          have hr2 : R = false := by rw [HRS.out, HSTEP.out, Bool.false_and]
          subst hr2
          go_wp2_with fail
          go_ret
          exact ⟨rfl, HB5.out⟩
      · obtain rfl : j = n := by omega
        have hr2 : R = true := by rw [HRS.out, pf.eqs_end HL.out.1 HL.out.2]
        subst hr2
        go_wp2_with fail
        go_ret
        exact ⟨rfl, HBW.out⟩
  · have hR : pf.eqs l l2 = false := pf.eqs_len l l2 (by rw [hl, hm]; exact hnm)
    rw [hR]
    have hne : ¬ (n : Int) = (m : Int) := by omega
    clear hR hl hm HA HA2
    go_enter Try.func79, Try.ntmps79
    go_wp2
    go_ret
    exact ⟨rfl, Below.refl _ _⟩
theorem fs.same_any (A : Option Addr) (n c : Nat) (l : List PItm) (B : Option Addr) (m d : Nat) (l2 : List PItm) (w : World) (hl : l.length = n) (hm : l2.length = m) (hn1 : n ≤ 1000000) (hm1 : m ≤ 1000000) (ha : PAt w A l) (hb : ∀ x ∈ l, PWide w x) (ha2 : PAt w B l2) (hb2 : ∀ x ∈ l2, PWide w x) :
    Calls Try.prog 41 #[.slice A n c, .slice B m d] w fun e w' => e = .returned (.bool (pf.eqs l l2)) ∧ Below w.heap.size w w' := by
  have HE := Lib.hid (fs.equal_any A n c l B m d l2 w hl hm hn1 hm1 ha hb ha2 hb2); clear hl hm ha hb ha2 hb2
  generalize pf.eqs l l2 = b at *
  go_enter Try.func41, Try.ntmps41
  go_wp2_with fail
  refine HE.out.mono ?_
  rintro e w1 ⟨rfl, hb1⟩
  have HB := Lib.hid hb1; clear hb1
  go_wp2_with fail
  go_ret
  exact ⟨rfl, HB.out⟩

set_option maxHeartbeats 4000000 in
/-- SamePairs without the offsets. -/
theorem pf.same_no (A : Option Addr) (n c : Nat) (l : List PItm) (B : Option Addr) (m d : Nat) (l2 : List PItm) (w : World) (hl : l.length = n) (hm : l2.length = m) (hn1 : n ≤ 1000000) (hm1 : m ≤ 1000000) (ha : PAt w A l) (hb : ∀ x ∈ l, PWide w x) (ha2 : PAt w B l2) (hb2 : ∀ x ∈ l2, PWide w x) :
    Calls Try.prog 24 #[.slice A n c, .slice B m d, .bool false] w fun e w' => e = .returned (.bool (pf.eqs l l2)) ∧ ∃ q, w' = w.drewN q := by
  have HAT := Lib.hid ha; clear ha
  have HB := Lib.hid hb; clear hb
  have HAT2 := Lib.hid ha2; clear ha2
  have HB2 := Lib.hid hb2; clear hb2
  by_cases hnm : n = m
  · subst hnm
    have HL := Lib.hid (And.intro hl hm); clear hl hm
    obtain ⟨R, hR⟩ : ∃ R, R = pf.eqs l l2 := ⟨_, rfl⟩
    rw [← hR]
    have HR := Lib.hid hR; clear hR
    go_enter Try.func24, Try.ntmps24
    go_wp2
    go_loopw [7] (fun i wr => ∃ (k q : Nat), k ≤ n ∧ i = .int .i64 (k : Int) ∧ R = pf.eqs (l.drop k) (l2.drop k) ∧ wr = w.drewN q) (fun i _ => n - (intOf i).toNat)
    case atStart => exact ⟨0, 0, by omega, rfl, HR.out, rfl⟩
    case round =>
      obtain ⟨k, q, hk, rfl, hrs, rfl⟩ := hrel
      clear HR
      have HRS := Lib.hid hrs; clear hrs
      by_cases hlt : k < n
      · have hlt' : (k : Int) < n := by omega
        obtain ⟨x, hx⟩ : ∃ x, l[k]? = some x := ⟨_, List.getElem?_eq_getElem (by rw [HL.out.1]; exact hlt)⟩
        obtain ⟨y, hy⟩ : ∃ y, l2[k]? = some y := ⟨_, List.getElem?_eq_getElem (by rw [HL.out.2]; exact hlt)⟩
        have hstep := pf.eqs_drop hx hy
        unfold pf.eqv at hstep
        obtain ⟨b, off, rfl, -, c0, c1, c2⟩ := HAT.out.cells hx
        obtain ⟨b2, off2, rfl, -, d0, d1, d2⟩ := HAT2.out.cells hy
        obtain ⟨hxl, hxa, hvl, hva⟩ := HB.out x (List.mem_of_getElem? hx)
        obtain ⟨hyl, hya, hwl, hwa⟩ := HB2.out y (List.mem_of_getElem? hy)
        have f1 := fun q => conv_any (P := Try.prog) Try.underlying23 Try.underlying5 Try.underlying9 (c := x.c) x.bs hxl (hxa.drew q)
        have f2 := fun q => conv_any (P := Try.prog) Try.underlying23 Try.underlying5 Try.underlying9 (c := y.c) y.bs hyl (hya.drew q)
        have f3 := fun q => conv_any (P := Try.prog) Try.underlying23 Try.underlying5 Try.underlying9 (c := x.vc) x.vs hvl (hva.drew q)
        have f4 := fun q => conv_any (P := Try.prog) Try.underlying23 Try.underlying5 Try.underlying9 (c := y.vc) y.vs hwl (hwa.drew q)
        have u0 : ∀ q, (w.drewN q).cell? ⟨b, off + k * 3, none⟩ = some (.slice x.A x.k x.c) := fun _ => c0
        have u1 : ∀ q, (w.drewN q).cell? ⟨b, off + k * 3 + 1, none⟩ = some (.slice x.VA x.vk x.vc) := fun _ => c1
        have v0 : ∀ q, (w.drewN q).cell? ⟨b2, off2 + k * 3, none⟩ = some (.slice y.A y.k y.c) := fun _ => d0
        have v1 : ∀ q, (w.drewN q).cell? ⟨b2, off2 + k * 3 + 1, none⟩ = some (.slice y.VA y.vk y.vc) := fun _ => d1
        clear hxa hxl hva hvl hya hyl hwa hwl c0 c1 c2 d0 d1 d2 hx hy
        generalize strOf x.bs = sx at *
        generalize strOf x.vs = tx at *
        generalize strOf y.bs = sy at *
        generalize strOf y.vs = ty at *
        generalize x.A = XA at *
        generalize x.k = xk at *
        generalize x.c = xc at *
        generalize x.VA = XV at *
        generalize x.vk = xvk at *
        generalize x.vc = xvc at *
        generalize y.A = YA at *
        generalize y.k = yk at *
        generalize y.c = yc at *
        generalize y.VA = YV at *
        generalize y.vk = yvk at *
        generalize y.vc = yvc at *
        have HSTEP := Lib.hid hstep; clear hstep
        by_cases h1 : sx = sy
        · subst h1
          by_cases h2 : tx = ty
          · subst h2
            have hr2 : R = pf.eqs (l.drop (k + 1)) (l2.drop (k + 1)) := by rw [HRS.out, HSTEP.out, decide_eq_true rfl, decide_eq_true rfl]; rfl
            have HR2 := Lib.hid hr2; clear hr2
            go_wp2_with fail
            go_quiet (fail)
            go_wp2_with fail
            go_roundw
            case rel => exact ⟨k + 1, _, by omega, by go_num, HR2.out, rfl⟩
            case measure => simp [intOf]; omega
          · have hr2 : R = false := by rw [HRS.out, HSTEP.out, decide_eq_true rfl, decide_eq_false h2]; rfl
            subst hr2
            have hne := text_ne5 h2
            go_wp2_with fail
            go_quiet (fail)
            go_wp2_with fail
            go_ret
            exact ⟨rfl, _, by rw [World.drewN_drewN]⟩
        · have hr2 : R = false := by rw [HRS.out, HSTEP.out, decide_eq_false h1]; rfl
          subst hr2
          have hne := text_ne5 h1
          go_wp2_with fail
          go_quiet (fail)
          go_wp2_with fail
          go_ret
          exact ⟨rfl, _, by rw [World.drewN_drewN]⟩
      · obtain rfl : k = n := by omega
        have hr2 : R = true := by rw [HRS.out, pf.eqs_end HL.out.1 HL.out.2]
        subst hr2
        go_wp2
        go_ret
        exact ⟨rfl, _, rfl⟩
  · have hR : pf.eqs l l2 = false := pf.eqs_len l l2 (by rw [hl, hm]; exact hnm)
    rw [hR]
    have hne : ¬ (n : Int) = (m : Int) := by omega
    clear hR hl hm HAT HAT2 HB HB2
    go_enter Try.func24, Try.ntmps24
    go_wp2
    go_ret
    exact ⟨rfl, 0, rfl⟩
end Go.Proofs.Ytbbekgliaedigaa

/- The walk of the law NumWalks: it answers true, whatever the input. -/
import Derived.Test.YtfblfgnnnbcplaaNumWk
import Derived.Test.YtfblfgnnnbcplaaInts
import Derived.Test.YtfblfgnnnbcplaaRefG
import Derived.Test.YtfblfgnnnbcplaaNumW
import Derived.Deep.RegionHeld3
import Derived.Test.YtfblfgnnnbcplaaNumAskP
import Derived.Test.YtfblfgnnnbcplaaOpen
namespace Go.Proofs.Ytfblfgnnnbcplaa
open Go.RowKit

theorem raw_of (z : List Int) (h : ∀ x ∈ z, -9223372036854775808 ≤ x ∧ x ≤ 9223372036854775807) : ∃ xs : List I64, raw xs = z :=
  ⟨z.attach.map fun x => ⟨x.1, h x.1 x.2⟩, by
    unfold raw
    rw [List.map_map]
    exact List.attach_map_subtype_val z⟩

theorem raw_succ (xs : List I64) (k : Nat) (h : k < xs.length) : raw (xs.take (k + 1)) = raw (xs.take k) ++ [(raw xs).getD k 0] := by
  have e : (raw xs).getD k 0 = xs[k].val := by
    unfold raw
    rw [List.getD_eq_getElem?_getD, List.getElem?_map, List.getElem?_eq_getElem h]
    rfl
  rw [e, List.take_succ_eq_append_getElem h]
  unfold raw
  rw [List.map_append]
  rfl

/-- The walk, by its cells. -/
theorem num.walk_at (Bs : Nat) (A : Option Addr) (m c : Nat) (xs : List I64) (Z : List Nat) (most : Int) (k : Nat) (hmost : 0 ≤ most) (hmost2 : most ≤ 9223372036854775807) (hm : (num.puts (raw xs) ++ Z).length = m) (hmc : m ≤ c) (hcm : c ≤ maxLen)
    (hlen : xs.length ≤ 1000000) (hzb : ∀ j, j < Z.length → Z.getD j 0 < 256) (hZ : num.get (fun j => Z.getD j 0) Z.length = none) (hk : min most.toNat xs.length = k) (w : World) (hBs : Bs < w.heap.size)
    (hc : w.cell? ⟨Bs, 0, none⟩ = some (.slice A m c)) (hat : At w A m (byteAt (num.puts (raw xs) ++ Z))) :
    Calls Try.prog 21 #[.func (.func 43) #[] #[.pointer (some ⟨Bs, 0, none⟩)], .int .i64 most] w fun e W' => (∃ A1 c1, e = .returned (.slice A1 k c1) ∧ At W' A1 k (fun j => .int .i64 ((raw xs).getD j 0))) ∧ Below w.heap.size w W' := by
  refine (num.walk_any Bs A m c xs Z most hmost hmost2 hm hmc hcm hlen hzb hZ w hBs hc hat).mono ?_
  rintro e W' ⟨v, rfl, hown, hb⟩
  have hl : (xs.take most.toNat).length = k := by rw [List.length_take]; exact hk
  rw [hl] at hown
  have hl2 : (i64s (raw (xs.take most.toNat))).length = k := by simp [i64s, raw, hk]
  rcases hown.2 with ⟨rfl, h0⟩ | ⟨g, cap, cur, rfl, _⟩
  · subst h0
    exact ⟨⟨none, 0, rfl, fun h => absurd h (by omega)⟩, hb⟩
  · refine ⟨⟨_, cap, rfl, ?_⟩, hb⟩
    obtain ⟨A1, c1, h1, _, hat1⟩ := own_at hown
    cases h1
    rw [Nat.mul_one] at hat1
    refine hat1.congr fun j hj => ?_
    have hj2 : j < xs.length := by omega
    have hj3 : j < most.toNat := by omega
    simp [i64s, raw, List.getD, hj2, hj3]

set_option maxRecDepth 20000 in
set_option maxHeartbeats 8000000 in
set_option linter.unusedVariables false in
theorem num.walksT (xs : List I64) (A : Option Addr) (n c : Nat) (X : Option Addr) (m d : Nat) (Z : List Nat) (most : Nat) (w : World) (hl : xs.length = n) (hnc : n ≤ c) (hlm : Z.length = m)
    (hat : At w A n (fun j => .int .i64 ((raw xs).getD j 0))) (hax : At w X m (byteAt Z)) (hzb : ∀ j, j < m → Z.getD j 0 < 256) (h1 : n ≤ 200) (h2 : m ≤ 20) (h4 : most ≤ 9223372036854775807)
    (gx gk : Int) (hcase : (gk = 0 ∧ num.get (fun j => Z.getD j 0) m = none) ∨ 0 < gk) (hr2 : num.res2 (num.get (fun j => Z.getD j 0) m) = .tuple #[.int .i64 gx, .int .i64 gk]) :
    Calls Try.prog 4 #[.slice A n c, .slice X m d, .int .i64 most] w fun e w' => e = .returned (.bool true) ∧ Below w.heap.size w w' := by
  obtain ⟨i0, hi, hz0, hz1, hz2⟩ := info_parts infoByte
  have HAT := Lib.hid hat; clear hat
  have HAX := Lib.hid hax; clear hax
  have HZB := Lib.hid hzb; clear hzb
  have HL := Lib.hid hl; clear hl
  have HLM := Lib.hid hlm; clear hlm
  have HR2 := Lib.hid hr2; clear hr2
  have HCASE := Lib.hid hcase; clear hcase
  have t1 : ¬ (200 : Int) < n := by omega
  have t2 : ¬ (20 : Int) < m := by omega
  have t3 : ¬ (most : Int) < 0 := by omega
  go_enter Try.func4, Try.ntmps4
  go_wp2
  go_loopw [7, 8] (fun v i wr => ∃ (k : Nat) (l : List Nat) (u : Value), u = v ∧ k ≤ n ∧ i = .int .i64 (k : Int) ∧ l = num.puts (raw (xs.take k)) ∧ wr.ownsRow w.heap.size 5 1 u l.length (u8s l) ∧ Below w.heap.size w wr) (fun _ i _ => n - (intOf i).toNat)
  case atStart => exact ⟨0, [], _, rfl, by omega, rfl, by simp [num.puts, raw], World.ownsRow_nil _ _ _ _, Below.refl _ _⟩
  case round =>
    obtain ⟨k, l, v, rfl, hk, rfl, hlk, hown, hb⟩ := hrel
    have HLK := Lib.hid hlk; clear hlk
    have HOWN := Lib.hid hown; clear hown
    have HB := Lib.hid hb; clear hb
    by_cases hlt : k < n
    · have hlt' : (k : Int) < n := by omega
      obtain ⟨b, off, rfl, hbb, hc⟩ := (HAT.out.below HB.out (Nat.le_refl _)) (by omega)
      obtain ⟨x, hx⟩ : ∃ x, x = (raw xs).getD k 0 := ⟨_, rfl⟩
      have hc1 : wr.cell? ⟨b, off + k, none⟩ = some (.int .i64 x) := by rw [hc k hlt, hx]
      clear hc
      have hxb : -9223372036854775808 ≤ x ∧ x ≤ 9223372036854775807 := by
        rw [hx]
        refine mem_raw (xs := xs) ?_
        simp only [List.getD, List.getElem?_eq_getElem (show k < (raw xs).length by have := HL.out; simp only [raw, List.length_map]; omega), Option.getD_some]; exact List.getElem_mem _
      obtain ⟨hx1, hx2⟩ := hxb
      have hnext : l ++ num.put x = num.puts (raw (xs.take (k + 1))) := by
        have hk2 : k < xs.length := by rw [HL.out]; exact hlt
        rw [raw_succ xs k hk2, num.puts_snoc, ← HLK.out, hx]
      have HNEXT := Lib.hid hnext; clear hnext
      clear hx
      have hpl := num.put_bd x
      have hll : l.length ≤ 10 * k := by
        rw [HLK.out]; have h5 := num.puts_le (raw (xs.take k)); have h6 : (raw (xs.take k)).length ≤ k := by simp only [raw, List.length_map, List.length_take]; omega
        omega
      go_wp2_with fail
      refine (num.put_any x wr hx1 hx2).mono ?_
      rintro e w1 ⟨⟨v1, rfl, hown1⟩, hb1⟩
      obtain ⟨A1, c1, rfl, hc1', hl1, hat1⟩ := own_bytes hown1
      have hv0 : w1.ownsRow w.heap.size 5 1 v l.length (u8s l) := own_below HOWN.out hb1
      have HV0 := Lib.hid hv0; clear hv0
      have HAT1 := Lib.hid hat1; clear hat1
      have HB1 := Lib.hid hb1; clear hb1
      clear hown1
      go_wp2_with (at_builtin; refine wpList_app _ rfl (.tmp 31) (.tmp 36) 23 rfl w.heap.size 5 i0 _ 1 1 Try.underlying23 hi hz0 hz1 hz2 rfl (by decide) _ l.length (u8s l) rfl HV0.out A1 (num.put x).length c1 (byteAt (num.put x)) rfl (by rw [Nat.mul_one]; exact HAT1.out) (fun j _ => byteAt_one _ j) (by unfold maxLen; omega) (by omega) (by have := HB.out.size; have := HB1.out.size; omega) ?_; intro v' w2 hown2 hg2)
      have hb2 : Below w.heap.size w w2 := (HB.out.trans (HB1.out.mono HB.out.size)).grown hg2 (by have := HB.out.size; have := HB1.out.size; omega) (fun g hg => (HV0.out.lt g hg).1)
      rw [byteAt_cells_n _ _ rfl, ← u8s_append, ← List.length_append, HNEXT.out] at hown2
      have HOWN2 := Lib.hid hown2; clear hown2
      have HB2 := Lib.hid hb2; clear hb2
      clear hg2
      go_wp2
      go_roundw
      case rel => exact ⟨k + 1, _, _, rfl, by omega, by go_num, rfl, HOWN2.out, HB2.out⟩
      case measure => simp [intOf]; omega
    · obtain rfl : k = n := by omega
      clear hlt
      go_wp2_with fail
      refine (num.refget_any X m d (fun j => Z.getD j 0) wr (by omega) (HAX.out.below HB.out (Nat.le_refl _)) HZB.out).mono ?_
      rintro e w' ⟨rfl, rfl⟩
      rw [HR2.out]
      rcases HCASE.out with ⟨h0, hnone⟩ | hpos
      · have haz : At wr X m (byteAt Z) := HAX.out.below HB.out (Nat.le_refl _)
        have HAZ := Lib.hid haz; clear haz
        have HLZ := HLM
        have hno : num.get (fun j => Z.getD j 0) Z.length = none := by rw [HLM.out]; exact hnone
        have HNO := Lib.hid hno; clear hno hnone
        have hzb2 : ∀ j, j < Z.length → Z.getD j 0 < 256 := by rw [HLM.out]; exact HZB.out
        have HZB2 := Lib.hid hzb2; clear hzb2
        subst h0
        have hlx : l ++ Z = num.puts (raw xs) ++ Z := by rw [HLK.out, List.take_of_length_le (by rw [HL.out]; exact Nat.le_refl _)]
        have HLX := Lib.hid hlx; clear hlx
        have hll : l.length ≤ 2000 := by
          rw [HLK.out]; have h5 := num.puts_le (raw (xs.take k)); have h6 : (raw (xs.take k)).length ≤ k := by simp only [raw, List.length_map, List.length_take]; omega
          omega
        go_wp2_with (at_builtin; refine wpList_app _ rfl (.tmp 45) (.tmp 46) 23 rfl w.heap.size 5 i0 _ 1 1 Try.underlying23 hi hz0 hz1 hz2 rfl (by decide) _ l.length (u8s l) rfl HOWN.out X m d (byteAt Z) rfl (by rw [Nat.mul_one]; exact HAZ.out) (fun j _ => byteAt_one _ j) (by unfold maxLen; omega) (by omega) HB.out.size ?_; intro v' w2 hown2 hg2)
        have hb2 : Below w.heap.size w w2 := HB.out.grown hg2 HB.out.size (fun g hg => (HOWN.out.lt g hg).1)
        rw [byteAt_cells_n _ _ HLZ.out, ← u8s_append, HLX.out] at hown2
        obtain ⟨A3, c3, rfl, hc3, hl3, hat3⟩ := own_bytes hown2
        have HAT3 := Lib.hid hat3; clear hat3
        have HB2 := Lib.hid hb2; clear hb2
        have HL3 := Lib.hid hl3; clear hl3
        clear hg2 hown2
        go_wp2_with fail
        refine (num.all_any A3 (l.length + m) c3 (num.puts (raw xs) ++ Z) w2 HL3.out (by omega) HAT3.out).mono ?_
        rintro e w3 ⟨Bs, A4, c4, rfl, hc4, hc4', hbox, hBs, hat4, hb3⟩
        have hb4 : Below w.heap.size w w3 := HB2.out.trans (hb3.mono HB2.out.size)
        have HBOX := Lib.hid hbox; clear hbox
        have HAT4 := Lib.hid hat4; clear hat4
        have HB4 := Lib.hid hb4; clear hb4
        clear hb3
        have hpart : (num.puts (raw xs) ++ Z).length = l.length + m := HL3.out
        have HPART := Lib.hid hpart; clear hpart
        have hwk : ∀ (mo : Int) (kk : Nat) (w' : World), 0 ≤ mo → mo ≤ 9223372036854775807 → min mo.toNat k = kk → Below w3.heap.size w3 w' →
            Calls Try.prog 21 #[.func (.func 43) #[] #[.pointer (some ⟨Bs, 0, none⟩)], .int .i64 mo] w' fun e W' => (∃ A1 c1, e = .returned (.slice A1 kk c1) ∧ At W' A1 kk (fun j => .int .i64 ((raw xs).getD j 0))) ∧ Below w'.heap.size w' W' :=
          fun mo kk w' g1 g2 g3 g4 => num.walk_at Bs A4 (l.length + m) c4 xs Z mo kk g1 g2 HPART.out (by omega) hc4' (by rw [HL.out]; omega) HZB2.out HNO.out (by rw [HL.out]; exact g3) w' (by have := g4.size; omega) ((g4.cell (p := ⟨Bs, 0, none⟩) hBs).trans HBOX.out) (HAT4.out.below g4 (Nat.le_refl _))
        have HWK := Lib.hid hwk; clear hwk
        have hal : ∀ w' : World, Below w3.heap.size w3 w' → At w' A k (fun j => .int .i64 ((raw xs).getD j 0)) := fun w' g => (HAT.out.below HB4.out (Nat.le_refl _)).below g (Nat.le_refl _)
        have HAL := Lib.hid hal; clear hal
        have hk2 : k ≤ 9223372036854775807 := by omega
        by_cases hmk : most ≤ k
        · have hal2 : ∀ w' : World, Below w3.heap.size w3 w' → At w' A most (fun j => .int .i64 ((raw xs).getD j 0)) := fun w' g => (HAL.out w' g).le hmk
          have HAL2 := Lib.hid hal2; clear hal2
          go_wp2_with fail
          go_region_held (fun w' => Below w3.heap.size w3 w')
           (first
             | assumption
             | exact (Below.refl _ _).drew
             | exact bdrew (by assumption) _
             | exact Below.next1 (by assumption) (by assumption))
           (first
             | ((with_reducible refine (HWK.out 1000 k _ (by omega) (by omega) (by omega) (by assumption)).mono ?_); rintro e w' ⟨⟨A5, c5, rfl, hat5⟩, hb5⟩)
             | ((with_reducible refine (HWK.out most most _ (by omega) (by omega) (by omega) (by assumption)).mono ?_); rintro e w' ⟨⟨A6, c6, rfl, hat6⟩, hb6⟩)
             | ((with_reducible refine (alike.ints_same A5 A k c5 c (fun j => (raw xs).getD j 0) _ hk2 hat5 (HAL.out _ (by assumption))).mono ?_); rintro e w' ⟨rfl, qq, rfl⟩)
             | ((with_reducible refine (alike.ints_same A6 A most c6 c (fun j => (raw xs).getD j 0) _ (by omega) hat6 (HAL2.out _ (by assumption))).mono ?_); rintro e w' ⟨rfl, qq2, rfl⟩)
             | (go_at_call 9; refine (num.awake_any _).mono ?_; rintro e w' ⟨rfl, hb7⟩))
          all_goals
            go_wp2
            go_ret
            exact ⟨rfl, HB4.out.trans (Below.mono (by assumption) HB4.out.size)⟩
        · have HAL2 := HAL
          go_wp2_with fail
          go_region_held (fun w' => Below w3.heap.size w3 w')
           (first
             | assumption
             | exact (Below.refl _ _).drew
             | exact bdrew (by assumption) _
             | exact Below.next1 (by assumption) (by assumption))
           (first
             | ((with_reducible refine (HWK.out 1000 k _ (by omega) (by omega) (by omega) (by assumption)).mono ?_); rintro e w' ⟨⟨A5, c5, rfl, hat5⟩, hb5⟩)
             | ((with_reducible refine (HWK.out most k _ (by omega) (by omega) (by omega) (by assumption)).mono ?_); rintro e w' ⟨⟨A6, c6, rfl, hat6⟩, hb6⟩)
             | ((with_reducible refine (alike.ints_same A5 A k c5 c (fun j => (raw xs).getD j 0) _ hk2 hat5 (HAL.out _ (by assumption))).mono ?_); rintro e w' ⟨rfl, qq, rfl⟩)
             | ((with_reducible refine (alike.ints_same A6 A k c6 c (fun j => (raw xs).getD j 0) _ (by omega) hat6 (HAL2.out _ (by assumption))).mono ?_); rintro e w' ⟨rfl, qq2, rfl⟩)
             | (go_at_call 9; refine (num.awake_any _).mono ?_; rintro e w' ⟨rfl, hb7⟩))
          all_goals
            go_wp2
            go_ret
            exact ⟨rfl, HB4.out.trans (Below.mono (by assumption) HB4.out.size)⟩
      · have haz : At wr none 0 (byteAt []) := fun h => absurd h (by omega)
        have HAZ := Lib.hid haz; clear haz
        have HLZ : Hid (([] : List Nat).length = 0) := Lib.hid rfl
        have HNO : Hid (num.get (fun j => ([] : List Nat).getD j 0) ([] : List Nat).length = none) := Lib.hid (by decide)
        have HZB2 : Hid (∀ j, j < ([] : List Nat).length → ([] : List Nat).getD j 0 < 256) := Lib.hid (fun j hj => absurd hj (by simp))
        have hlx : l ++ [] = num.puts (raw xs) ++ [] := by rw [HLK.out, List.take_of_length_le (by rw [HL.out]; exact Nat.le_refl _)]
        have HLX := Lib.hid hlx; clear hlx
        have hll : l.length ≤ 2000 := by
          rw [HLK.out]; have h5 := num.puts_le (raw (xs.take k)); have h6 : (raw (xs.take k)).length ≤ k := by simp only [raw, List.length_map, List.length_take]; omega
          omega
        go_wp2_with (at_builtin; refine wpList_app _ rfl (.tmp 45) (.tmp 46) 23 rfl w.heap.size 5 i0 _ 1 1 Try.underlying23 hi hz0 hz1 hz2 rfl (by decide) _ l.length (u8s l) rfl HOWN.out none 0 0 (byteAt []) rfl (by rw [Nat.mul_one]; exact HAZ.out) (fun j _ => byteAt_one _ j) (by unfold maxLen; omega) (by omega) HB.out.size ?_; intro v' w2 hown2 hg2)
        have hb2 : Below w.heap.size w w2 := HB.out.grown hg2 HB.out.size (fun g hg => (HOWN.out.lt g hg).1)
        rw [byteAt_cells_n _ _ HLZ.out, ← u8s_append, HLX.out] at hown2
        obtain ⟨A3, c3, rfl, hc3, hl3, hat3⟩ := own_bytes hown2
        have HAT3 := Lib.hid hat3; clear hat3
        have HB2 := Lib.hid hb2; clear hb2
        have HL3 := Lib.hid hl3; clear hl3
        clear hg2 hown2
        go_wp2_with fail
        refine (num.all_any A3 (l.length + 0) c3 (num.puts (raw xs) ++ []) w2 HL3.out (by omega) HAT3.out).mono ?_
        rintro e w3 ⟨Bs, A4, c4, rfl, hc4, hc4', hbox, hBs, hat4, hb3⟩
        have hb4 : Below w.heap.size w w3 := HB2.out.trans (hb3.mono HB2.out.size)
        have HBOX := Lib.hid hbox; clear hbox
        have HAT4 := Lib.hid hat4; clear hat4
        have HB4 := Lib.hid hb4; clear hb4
        clear hb3
        have hpart : (num.puts (raw xs) ++ []).length = l.length + 0 := HL3.out
        have HPART := Lib.hid hpart; clear hpart
        have hwk : ∀ (mo : Int) (kk : Nat) (w' : World), 0 ≤ mo → mo ≤ 9223372036854775807 → min mo.toNat k = kk → Below w3.heap.size w3 w' →
            Calls Try.prog 21 #[.func (.func 43) #[] #[.pointer (some ⟨Bs, 0, none⟩)], .int .i64 mo] w' fun e W' => (∃ A1 c1, e = .returned (.slice A1 kk c1) ∧ At W' A1 kk (fun j => .int .i64 ((raw xs).getD j 0))) ∧ Below w'.heap.size w' W' :=
          fun mo kk w' g1 g2 g3 g4 => num.walk_at Bs A4 (l.length + 0) c4 xs [] mo kk g1 g2 HPART.out (by omega) hc4' (by rw [HL.out]; omega) HZB2.out HNO.out (by rw [HL.out]; exact g3) w' (by have := g4.size; omega) ((g4.cell (p := ⟨Bs, 0, none⟩) hBs).trans HBOX.out) (HAT4.out.below g4 (Nat.le_refl _))
        have HWK := Lib.hid hwk; clear hwk
        have hal : ∀ w' : World, Below w3.heap.size w3 w' → At w' A k (fun j => .int .i64 ((raw xs).getD j 0)) := fun w' g => (HAT.out.below HB4.out (Nat.le_refl _)).below g (Nat.le_refl _)
        have HAL := Lib.hid hal; clear hal
        have hk2 : k ≤ 9223372036854775807 := by omega
        by_cases hmk : most ≤ k
        · have hal2 : ∀ w' : World, Below w3.heap.size w3 w' → At w' A most (fun j => .int .i64 ((raw xs).getD j 0)) := fun w' g => (HAL.out w' g).le hmk
          have HAL2 := Lib.hid hal2; clear hal2
          go_wp2_with fail
          go_region_held (fun w' => Below w3.heap.size w3 w')
           (first
             | assumption
             | exact (Below.refl _ _).drew
             | exact bdrew (by assumption) _
             | exact Below.next1 (by assumption) (by assumption))
           (first
             | ((with_reducible refine (HWK.out 1000 k _ (by omega) (by omega) (by omega) (by assumption)).mono ?_); rintro e w' ⟨⟨A5, c5, rfl, hat5⟩, hb5⟩)
             | ((with_reducible refine (HWK.out most most _ (by omega) (by omega) (by omega) (by assumption)).mono ?_); rintro e w' ⟨⟨A6, c6, rfl, hat6⟩, hb6⟩)
             | ((with_reducible refine (alike.ints_same A5 A k c5 c (fun j => (raw xs).getD j 0) _ hk2 hat5 (HAL.out _ (by assumption))).mono ?_); rintro e w' ⟨rfl, qq, rfl⟩)
             | ((with_reducible refine (alike.ints_same A6 A most c6 c (fun j => (raw xs).getD j 0) _ (by omega) hat6 (HAL2.out _ (by assumption))).mono ?_); rintro e w' ⟨rfl, qq2, rfl⟩)
             | (go_at_call 9; refine (num.awake_any _).mono ?_; rintro e w' ⟨rfl, hb7⟩))
          all_goals
            go_wp2
            go_ret
            exact ⟨rfl, HB4.out.trans (Below.mono (by assumption) HB4.out.size)⟩
        · have HAL2 := HAL
          go_wp2_with fail
          go_region_held (fun w' => Below w3.heap.size w3 w')
           (first
             | assumption
             | exact (Below.refl _ _).drew
             | exact bdrew (by assumption) _
             | exact Below.next1 (by assumption) (by assumption))
           (first
             | ((with_reducible refine (HWK.out 1000 k _ (by omega) (by omega) (by omega) (by assumption)).mono ?_); rintro e w' ⟨⟨A5, c5, rfl, hat5⟩, hb5⟩)
             | ((with_reducible refine (HWK.out most k _ (by omega) (by omega) (by omega) (by assumption)).mono ?_); rintro e w' ⟨⟨A6, c6, rfl, hat6⟩, hb6⟩)
             | ((with_reducible refine (alike.ints_same A5 A k c5 c (fun j => (raw xs).getD j 0) _ hk2 hat5 (HAL.out _ (by assumption))).mono ?_); rintro e w' ⟨rfl, qq, rfl⟩)
             | ((with_reducible refine (alike.ints_same A6 A k c6 c (fun j => (raw xs).getD j 0) _ (by omega) hat6 (HAL2.out _ (by assumption))).mono ?_); rintro e w' ⟨rfl, qq2, rfl⟩)
             | (go_at_call 9; refine (num.awake_any _).mono ?_; rintro e w' ⟨rfl, hb7⟩))
          all_goals
            go_wp2
            go_ret
            exact ⟨rfl, HB4.out.trans (Below.mono (by assumption) HB4.out.size)⟩

set_option maxRecDepth 20000 in
set_option maxHeartbeats 1000000 in
theorem num.lawWalks (A : Option Addr) (n c : Nat) (y : List Int) (X : Option Addr) (m d : Nat) (z : List Int) (most : Int) (w : World) (hy : y.length = n ∧ n ≤ c ∧ c ≤ maxLen) (hat : At w A n (fun j => .int .i64 (y.getD j 0))) (hyw : ∀ x ∈ y, (Lit.int .i64 x).wf = true)
    (hz : z.length = m ∧ m ≤ d ∧ d ≤ maxLen) (hax : At w X m (fun j => .int .u8 (z.getD j 0))) (hwf : ∀ x ∈ z, (Lit.int .u8 x).wf = true) (hmo : -9223372036854775808 ≤ most ∧ most ≤ 9223372036854775807) :
    Calls Try.prog 4 #[.slice A n c, .slice X m d, .int .i64 most] w fun e w' => e = .returned (.bool true) ∧ Below w.heap.size w w' := by
  obtain ⟨hy, hnc, hcm⟩ := hy
  obtain ⟨hz, hmd, hdm⟩ := hz
  by_cases hin : n ≤ 200 ∧ m ≤ 20 ∧ 0 ≤ most
  · obtain ⟨i1, i2, i3⟩ := hin
    obtain ⟨q, rfl⟩ := Int.eq_ofNat_of_zero_le i3
    obtain ⟨xs, rfl⟩ := raw_of y (fun x hx => wf_bd (hyw x hx))
    obtain ⟨hatz, hzb⟩ := ints_bytes hax hz hwf
    have hl : xs.length = n := by rw [← hy]; simp [raw]
    cases hg : num.get (fun j => (z.map Int.toNat).getD j 0) m with
    | none => exact num.walksT xs A n c X m d (z.map Int.toNat) q w hl hnc (by simp [hz]) hat hatz hzb i1 i2 (by omega) 0 0 (.inl ⟨rfl, hg⟩) (by rw [hg]; rfl)
    | some p =>
      obtain ⟨a, b⟩ := p
      have := num.gt_pos _ _ a b _ _ _ hg
      exact num.walksT xs A n c X m d (z.map Int.toNat) q w hl hnc (by simp [hz]) hat hatz hzb i1 i2 (by omega) (num.zag a) b (.inr (by omega)) (by rw [hg]; rfl)
  · have HIN := Lib.hid hin; clear hin
    by_cases j1 : n ≤ 200
    · have t1 : ¬ (200 : Int) < n := by omega
      by_cases j2 : m ≤ 20
      · have t2 : ¬ (20 : Int) < m := by omega
        have t3 : most < 0 := by have := HIN.out; omega
        go_enter Try.func4, Try.ntmps4
        go_wp2_with (go_at_call 9; refine (num.awake_any _).mono ?_; rintro e w' ⟨rfl, hb⟩)
        go_ret
        exact ⟨rfl, hb⟩
      · have t2 : (20 : Int) < m := by omega
        go_enter Try.func4, Try.ntmps4
        go_wp2_with (go_at_call 9; refine (num.awake_any _).mono ?_; rintro e w' ⟨rfl, hb⟩)
        go_ret
        exact ⟨rfl, hb⟩
    · have t1 : (200 : Int) < n := by omega
      go_enter Try.func4, Try.ntmps4
      go_wp2_with (go_at_call 9; refine (num.awake_any _).mono ?_; rintro e w' ⟨rfl, hb⟩)
      go_ret
      exact ⟨rfl, hb⟩
end Go.Proofs.Ytfblfgnnnbcplaa

/- The law package's made (cordwainlaw3): the document's own bytes. -/
import Derived.Test.YtfblfgnnnbcplaaWireT
import Derived.Test.YtfblfgnnnbcplaaRefX
namespace Go.Proofs.Ytfblfgnnnbcplaa
open Go.RowKit

/-- Once spoilt, spoilt. -/
theorem wrStep_bad (st : List Nat × Bool) (x : Item) (h : st.2 = true) : (wrStep st x).2 = true := by
  unfold wrStep
  split
  · split
    · exact h
    · rfl
  split
  · exact h
  split
  · exact h
  · exact h
theorem wrAll_bad (xs : List Item) (k : Nat) (h : (wrAll (xs.take k)).2 = true) : (wrAll xs).2 = true := by
  have e : wrAll xs = (xs.drop k).foldl wrStep (wrAll (xs.take k)) := by
    conv => lhs; rw [← List.take_append_drop k xs]
    unfold wrAll
    rw [List.foldl_append]
  rw [e]
  generalize wrAll (xs.take k) = st at h
  induction xs.drop k generalizing st with
  | nil => exact h
  | cons x l ih => exact ih _ (wrStep_bad st x h)

def MadeRel (w : World) (xs : List Item) (k : Nat) (v : Value) (wr : World) : Prop := (wrAll (xs.take k)).2 = false ∧ wr.ownsRow w.heap.size 5 1 v (wrAll (xs.take k)).1.length (u8s (wrAll (xs.take k)).1) ∧ Below w.heap.size w wr
theorem MadeRel.next {w : World} {xs : List Item} {k : Nat} {wr w1 : World} {v : Value} {x : Item} {M : List Nat} (hx : xs[k]? = some x) (h : MadeRel w xs k v wr) {v' : Value} {m : Nat} (hm : M.length = m) (hc : Below w.heap.size w w1)
    (ho : w1.ownsRow w.heap.size 5 1 v' ((wrAll (xs.take k)).1.length + m) (u8s (wrAll (xs.take k)).1 ++ u8s M)) (hs : wrStep (wrAll (xs.take k)) x = ((wrAll (xs.take k)).1 ++ M, (wrAll (xs.take k)).2)) : MadeRel w xs (k + 1) v' w1 := by
  unfold MadeRel
  rw [wrAll_succ xs k x hx, hs]
  refine ⟨h.1, ?_, hc⟩
  rw [List.length_append, u8s_append, hm]
  exact ho
theorem MadeRel.drewN {w : World} {xs : List Item} {k : Nat} {wr : World} {v : Value} (h : MadeRel w xs k v wr) (q : Nat) : MadeRel w xs k v (wr.drewN q) := ⟨h.1, h.2.1, bdrew h.2.2 q⟩

theorem wire.shl_fit {size : Int} (h1 : 1 ≤ size) (h7 : size < 8) : (wrap64 (2 ^ (8 * size).toNat)) = 2 ^ (8 * size.toNat) := by
  have : size = 1 ∨ size = 2 ∨ size = 3 ∨ size = 4 ∨ size = 5 ∨ size = 6 ∨ size = 7 := by omega
  rcases this with rfl | rfl | rfl | rfl | rfl | rfl | rfl
  all_goals simp [wrap64]

set_option maxRecDepth 20000 in
set_option maxHeartbeats 1600000 in
theorem wire.made_any (A : Option Addr) (n c : Nat) (xs : List Item) (w : World) (hl : xs.length = n) (hit : Items w A xs) (htot : total xs ≤ 1000) :
    Calls Try.prog 25 #[.slice A n c] w (WrtPost w (wrAll xs)) := by
  obtain ⟨i0, hi, hz0, hz1, hz2⟩ := info_parts infoByte
  have hlen := total_len xs
  have HIT := Lib.hid hit; clear hit
  have HL := Lib.hid hl
  have hn : n ≤ 100 := by omega
  clear hl
  go_enter Try.func25, Try.ntmps25
  go_wp2
  go_loopw [4, 5] (fun v i wr => ∃ (k : Nat) (u : Value), u = v ∧ k ≤ n ∧ i = .int .i64 (k : Int) ∧ MadeRel w xs k u wr) (fun _ i _ => n - (intOf i).toNat)
  case atStart => exact ⟨0, _, rfl, by omega, rfl, rfl, World.ownsRow_nil _ _ _ _, Below.refl _ _⟩
  case round =>
    obtain ⟨k, v, rfl, hk, rfl, hrel⟩ := hrel
    have HREL := Lib.hid hrel; clear hrel
    have HO := Lib.hid HREL.out.2.1
    have HB := Lib.hid HREL.out.2.2
    by_cases hlt : k < n
    · have hlt' : (k : Int) < n := by omega
      have hk0 : (0 : Int) ≤ k := by omega
      obtain ⟨b, off, x, rfl, hbb, hx, c0, c1, c2, c3, r0, r1, r2, hs⟩ := (HIT.out.below HB.out (Nat.le_refl _)).at' k (by rw [HL.out]; exact hlt)
      have HX := Lib.hid hx; clear hx
      have hLk := wrAll_take xs k
      have R1 := Lib.hid r1; clear r1 r0 r2
      have hsz : x.s.size ≤ 1000 := by
        have h1 := total_succ xs k x HX.out
        have h2 := total_take xs (k + 1)
        omega
      clear hs
      by_cases k1 : x.kind = 1
      · have K1 := Lib.hid k1
        rw [k1] at c0
        clear k1
        cases hf : wire.fit x.n x.size
        · have hbad : (wrAll xs).2 = true := wrAll_bad xs (k + 1) (by rw [wrAll_succ xs k x HX.out]; unfold wrStep; rw [if_pos K1.out, if_neg (by rw [hf]; simp)])
          have HBAD := Lib.hid hbad; clear hbad
          have hcase : x.size < 1 ∨ (¬ x.size < 1 ∧ 8 < x.size) ∨ (¬ x.size < 1 ∧ ¬ 8 < x.size ∧ x.n < 0) ∨ (¬ x.size < 1 ∧ ¬ 8 < x.size ∧ ¬ x.n < 0 ∧ x.size < 8 ∧ wrap64 (2 ^ (8 * x.size).toNat) ≤ x.n) := by
            by_cases g1 : x.size < 1
            · exact .inl g1
            by_cases g2 : 8 < x.size
            · exact .inr (.inl ⟨g1, g2⟩)
            by_cases g3 : x.n < 0
            · exact .inr (.inr (.inl ⟨g1, g2, g3⟩))
            refine .inr (.inr (.inr ⟨g1, g2, g3, ?_⟩))
            have hf' := hf
            unfold wire.fit at hf'
            rw [Bool.eq_false_iff] at hf'
            simp only [ne_eq, Bool.and_eq_true, Bool.or_eq_true, decide_eq_true_eq] at hf'
            have g4 : x.size < 8 := by omega
            refine ⟨g4, ?_⟩
            rw [wire.shl_fit (by omega) g4]
            omega
          clear hf
          rcases hcase with g1 | ⟨g1, g2⟩ | ⟨g1, g2, g3⟩ | ⟨g1, g2, g3, g4, g5⟩
          · have e1 : decide (x.size < 1) = true := by simpa using g1
            clear g1
            go_wp2
            go_quiet (fail)
            go_wp2
            go_ret2
            exact ⟨⟨_, by rw [HBAD.out]; rfl, fun _ => rfl, fun h => by rw [HBAD.out] at h; (cases h)⟩, bdrew HB.out _⟩
          · have e1 : decide (x.size < 1) = false := by simpa using g1
            have e2 : decide (8 < x.size) = true := by simpa using g2
            clear g1 g2
            go_wp2
            go_quiet (fail)
            go_wp2
            go_ret2
            exact ⟨⟨_, by rw [HBAD.out]; rfl, fun _ => rfl, fun h => by rw [HBAD.out] at h; (cases h)⟩, bdrew HB.out _⟩
          · have e1 : decide (x.size < 1) = false := by simpa using g1
            have e2 : decide (8 < x.size) = false := by simpa using g2
            have e3 : decide (x.n < 0) = true := by simpa using g3
            clear g1 g2 g3
            go_wp2
            go_quiet (fail)
            go_wp2
            go_ret2
            exact ⟨⟨_, by rw [HBAD.out]; rfl, fun _ => rfl, fun h => by rw [HBAD.out] at h; (cases h)⟩, bdrew HB.out _⟩
          · have e1 : decide (x.size < 1) = false := by simpa using g1
            have e2 : decide (8 < x.size) = false := by simpa using g2
            have e3 : decide (x.n < 0) = false := by simpa using g3
            have e4 : decide (x.size < 8) = true := by simpa using g4
            have e5 : decide (wrap64 (2 ^ min (8 * x.size).toNat 64) ≤ x.n) = true := by rw [Nat.min_eq_left (by omega)]; simpa using g5
            have e6 : IntKind.i64.wrap (8 * x.size) = 8 * x.size := by rw [IntKind.wrap_i64]; omega
            have e7 : 0 ≤ 8 * x.size := by omega
            clear g1 g2 g3 g4 g5
            go_wp2
            go_quiet (fail)
            go_wp2
            go_ret2
            exact ⟨⟨_, by rw [HBAD.out]; rfl, fun _ => rfl, fun h => by rw [HBAD.out] at h; (cases h)⟩, bdrew HB.out _⟩
        · obtain ⟨f0, f1, f2⟩ := fit_nat hf
          have hcase : ¬ x.size < 8 ∨ (x.size < 8 ∧ ¬ wrap64 (2 ^ (8 * x.size).toNat) ≤ x.n) := by
            by_cases g4 : x.size < 8
            · refine .inr ⟨g4, ?_⟩
              rw [wire.shl_fit (by omega) g4]
              have hf' := hf
              unfold wire.fit at hf'
              simp only [Bool.and_eq_true, Bool.or_eq_true, decide_eq_true_eq] at hf'
              omega
            · exact .inl g4
          have g1 : ¬ x.size < 1 := by omega
          have g2 : ¬ 8 < x.size := by omega
          have g3 : ¬ x.n < 0 := by omega
          obtain ⟨a, ha⟩ := Int.eq_ofNat_of_zero_le f0
          obtain ⟨z, hz⟩ := Int.eq_ofNat_of_zero_le (show 0 ≤ x.size by omega)
          have hst : wrStep (wrAll (xs.take k)) x = ((wrAll (xs.take k)).1 ++ wire.be a z, (wrAll (xs.take k)).2) := by
            unfold wrStep; rw [if_pos K1.out, if_pos hf, ha, hz]; rfl
          have HST := Lib.hid hst; clear hst hf
          rw [ha] at c1 g3
          rw [hz] at c2 g1 g2
          rw [ha, hz] at hcase
          have e1 : decide ((z : Int) < 1) = false := by simpa using g1
          have e2 : decide ((8 : Int) < z) = false := by simpa using g2
          have e3 : decide ((a : Int) < 0) = false := by simp
          have e6 : IntKind.i64.wrap (8 * (z : Int)) = 8 * (z : Int) := by rw [IntKind.wrap_i64]; omega
          have e7 : 0 ≤ 8 * (z : Int) := by omega
          have zz1 : 1 ≤ z := by omega
          have zz8 : z ≤ 8 := by omega
          have ha2 : (a : Int) ≤ 9223372036854775807 := by rw [← ha]; exact R1.out.2
          clear ha hz f0 f1 f2 g1 g2 g3
          have hcase2 : (decide ((z : Int) < 8) = false) ∨ (decide ((z : Int) < 8) = true ∧ decide (wrap64 (2 ^ (8 * z)) ≤ (a : Int)) = false) := by
            rcases hcase with g4 | ⟨g4, g5⟩
            · exact .inl (by simpa using g4)
            · exact .inr ⟨by simpa using g4, by rw [← show (8 * (z : Int)).toNat = 8 * z by omega]; simpa using g5⟩
          clear hcase
          rcases hcase2 with e4 | ⟨e4, e5⟩
          all_goals
            go_wp2
            go_quiet (fail)
            have HREL2 := Lib.hid (HREL.out.drewN nq)
            have d1 : (wr.drewN nq).cell? ⟨b, off + k * 4 + 1, none⟩ = some (.int .i64 (a : Int)) := c1
            have d2 : (wr.drewN nq).cell? ⟨b, off + k * 4 + 2, none⟩ = some (.int .i64 (z : Int)) := c2
            generalize wr.drewN nq = w1 at HREL2 d1 d2 ⊢
            clear c0 c1 c2 c3 hbb
            clear e1 e2 e3 e4 e6 e7
            try clear e5
            have HO2 := Lib.hid HREL2.out.2.1
            have HB2 := Lib.hid HREL2.out.2.2
            go_wp2
            go_region_law
              (first
                | (go_simp; go_at_call 47; refine (wire.reffixed_any a z _ zz1 zz8 ha2).mono ?_; rintro e w3 ⟨⟨v3, rfl, hown3⟩, hb3⟩; obtain ⟨A3, c3, rfl, -, -, hat3⟩ := own_bytes hown3; have HAT3 := Lib.hid hat3; have HB3 := Lib.hid (undrew hb3); clear hb3 hown3 hat3)
                | (refine step_app2 _ rfl (.tmp 64) (.tmp 75) 23 rfl w.heap.size 5 i0 _ 1 1 Try.underlying23 hi hz0 hz1 hz2 rfl (by decide) v (wrAll (xs.take k)).1.length (u8s (wrAll (xs.take k)).1) rfl (own_below HO2.out HB3.out) A3 z c3 (byteAt (wire.be a z)) rfl (by rw [Nat.mul_one]; exact HAT3.out) (fun j _ => byteAt_one _ j) (by unfold maxLen; omega) (by omega) (by have := HB2.out.size; have := HB3.out.size; omega) ?_; intro v' w4 hown4 hg4 hl4; rw [byteAt_cells_n _ _ (wire.be_len a z)] at hown4; have HO4 := Lib.hid hown4; have HB4 := Lib.hid ((HB2.out.trans (HB3.out.mono HB2.out.size)).grown hg4 (by have := HB2.out.size; have := HB3.out.size; omega) (fun g hg => (HO2.out.lt g hg).1)); clear hown4 hg4 hl4))
            all_goals
              go_wp2
              go_roundw
              case rel => exact ⟨k + 1, _, rfl, by omega, by go_num, MadeRel.next HX.out HREL2.out (wire.be_len a z) HB4.out HO4.out HST.out⟩
              case measure => simp [intOf]; omega
      · have K1 := Lib.hid k1
        have k1' : (x.kind == 1) = false := by simpa using k1
        clear k1
        by_cases k2 : x.kind = 2
        · have K2 := Lib.hid k2
          rw [k2] at c0
          clear k2 k1'
          have hpb := num.put_bd x.n
          go_wp2_with fail
          refine (num.refput_any x.n wr R1.out.1 R1.out.2).mono ?_
          rintro e w3 ⟨⟨v3, rfl, hown3⟩, hb3⟩
          obtain ⟨A3, c3, rfl, -, -, hat3⟩ := own_bytes hown3
          have HAT3 := Lib.hid hat3
          have HB3 := Lib.hid hb3; clear hb3 hown3 hat3
          go_wp2_with (at_builtin; refine wpList_app2 _ rfl (.tmp 79) (.tmp 85) 23 rfl w.heap.size 5 i0 _ 1 1 Try.underlying23 hi hz0 hz1 hz2 rfl (by decide) _ (wrAll (xs.take k)).1.length (u8s (wrAll (xs.take k)).1) rfl (own_below HO.out HB3.out) A3 (num.put x.n).length c3 (byteAt (num.put x.n)) rfl (by rw [Nat.mul_one]; exact HAT3.out) (fun j _ => byteAt_one _ j) (by unfold maxLen; omega) (by omega) (by have := HB.out.size; have := HB3.out.size; omega) ?_; intro v' w4 hown4 hg4 hl4)
          rw [byteAt_cells_n _ _ rfl] at hown4
          have HO4 := Lib.hid hown4
          have HB4 := Lib.hid ((HB.out.trans (HB3.out.mono HB.out.size)).grown hg4 (by have := HB.out.size; have := HB3.out.size; omega) (fun g hg => (HO.out.lt g hg).1))
          clear hown4 hg4 hl4
          go_wp2
          go_roundw
          case rel => exact ⟨k + 1, _, rfl, by omega, by go_num, MadeRel.next HX.out HREL.out rfl HB4.out HO4.out (by unfold wrStep; rw [if_neg K1.out, if_pos K2.out])⟩
          case measure => simp [intOf]; omega
        · have K2 := Lib.hid k2
          have k2' : (x.kind == 2) = false := by simpa using k2
          clear k2
          by_cases k34 : x.kind = 3 ∨ x.kind = 4
          · have K34 := Lib.hid k34
            have hsl : (num.put (x.s.size : Int) ++ strNats x.s).length ≤ x.s.size + 10 := by have := num.put_bd (x.s.size : Int); simp only [List.length_append, strNats_len]; omega
            obtain ⟨T, hT⟩ : ∃ T, T = num.put (x.s.size : Int) ++ strNats x.s := ⟨_, rfl⟩
            rw [← hT] at hsl
            have HT := Lib.hid hT; clear hT
            rcases k34 with k3 | k3
            all_goals
              rw [k3] at c0
              clear k3 k1' k2'
              go_wp2_with fail
              refine (wire.reftext_any x.s wr (by omega)).mono ?_
              rintro e w3 ⟨⟨v3, rfl, hown3⟩, hb3⟩
              rw [← HT.out] at hown3
              obtain ⟨A3, c3, rfl, -, -, hat3⟩ := own_bytes hown3
              have HAT3 := Lib.hid hat3
              have HB3 := Lib.hid hb3; clear hb3 hown3 hat3
              go_wp2_with (at_builtin; refine wpList_app2 _ rfl (.tmp 90) (.tmp 96) 23 rfl w.heap.size 5 i0 _ 1 1 Try.underlying23 hi hz0 hz1 hz2 rfl (by decide) _ (wrAll (xs.take k)).1.length (u8s (wrAll (xs.take k)).1) rfl (own_below HO.out HB3.out) A3 T.length c3 (byteAt T) rfl (by rw [Nat.mul_one]; exact HAT3.out) (fun j _ => byteAt_one _ j) (by unfold maxLen; omega) (by omega) (by have := HB.out.size; have := HB3.out.size; omega) ?_; intro v' w4 hown4 hg4 hl4)
              rw [byteAt_cells_n _ _ rfl] at hown4
              have HO4 := Lib.hid hown4
              have HB4 := Lib.hid ((HB.out.trans (HB3.out.mono HB.out.size)).grown hg4 (by have := HB.out.size; have := HB3.out.size; omega) (fun g hg => (HO.out.lt g hg).1))
              clear hown4 hg4 hl4
              go_wp2
              go_roundw
              case rel => exact ⟨k + 1, _, rfl, by omega, by go_num, MadeRel.next HX.out HREL.out rfl HB4.out HO4.out (by unfold wrStep; rw [if_neg K1.out, if_neg K2.out, if_pos K34.out, List.append_assoc, HT.out])⟩
              case measure => simp [intOf]; omega
          · have K34 := Lib.hid k34
            have k3' : (x.kind == 3) = false := by simp; omega
            have k4' : (x.kind == 4) = false := by simp; omega
            clear k34
            have hst : wrStep (wrAll (xs.take k)) x = wrAll (xs.take k) := by
              unfold wrStep; rw [if_neg K1.out, if_neg K2.out, if_neg K34.out]
            have HST := Lib.hid hst; clear hst
            go_wp2
            go_roundw
            case rel => exact ⟨k + 1, v, rfl, by omega, by go_num, by unfold MadeRel; rw [wrAll_succ xs k x HX.out, HST.out]; exact HREL.out⟩
            case measure => simp [intOf]; omega
    · obtain rfl : k = n := by omega
      clear hlt
      have hall : xs.take k = xs := List.take_of_length_le (by rw [HL.out]; exact Nat.le_refl _)
      have hr := HREL.out
      unfold MadeRel at hr
      rw [hall] at hr
      have HR := Lib.hid hr; clear hr hall HO HREL
      go_wp2
      go_ret2
      exact ⟨⟨v, by rw [HR.out.1]; rfl, fun h => by rw [HR.out.1] at h; (cases h), fun _ => HR.out.2.1⟩, HR.out.2.2⟩
end Go.Proofs.Ytfblfgnnnbcplaa

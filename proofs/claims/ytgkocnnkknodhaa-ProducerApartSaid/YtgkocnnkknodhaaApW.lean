/- The walk of the law ProducerApart. -/
import Derived.Test.YtgkocnnkknodhaaApS
import Derived.Test.YtgkocnnkknodhaaOnA
import Derived.Test.YtgkocnnkknodhaaPrN
import Derived.Test.YtgkocnnkknodhaaPrL
namespace Go.Proofs.Ytgkocnnkknodhaa
open Go.RowKit

theorem prod.after_other {g : Int → Option PRow} {P ep seq n base x : Int} (h : x ≠ P) : prod.after g P ep seq n base x = g x := by
  unfold prod.after
  split
  · unfold prod.put; rw [if_neg h]
  · rfl
theorem prod.after_same {g h : Int → Option PRow} {P ep seq n base : Int} (e : g P = h P) : prod.after g P ep seq n base P = prod.after h P ep seq n base P := by
  unfold prod.after
  rw [e]
  split
  · unfold prod.put; rw [if_pos rfl, if_pos rfl, e]
  · exact e
theorem prod.many_le {N : Nat} {g : Int → Option PRow} {P ep seq n : Int} : prod.many N g P ep seq n ≤ N + 1 := by
  unfold prod.many prod.cnt
  split
  · split <;> omega
  · omega
theorem prod.many_one {M : Nat} {h : Int → Option PRow} {P ep seq n base : Int} (hM : M = if (h P).isSome then 1 else 0) : prod.many M h P ep seq n = if (prod.after h P ep seq n base P).isSome then 1 else 0 := by
  unfold prod.many prod.after
  split
  · unfold prod.put prod.cnt
    rw [if_pos rfl, hM]
    cases h P <;> rfl
  · exact hM

/-- Two tables, apart: what one producer did stands in both. -/
def ApAt (w0 : World) (t u : Nat) (id : Int) (j : Nat) (wr : World) : Prop :=
  ∃ N g Bs M h Cs, PTab wr t N g Bs ∧ PTab wr u M h Cs ∧ N ≤ j ∧ M = (if (h id).isSome then 1 else 0) ∧ g id = h id ∧ (∀ k, Bs k → w0.heap.size ≤ k ∧ k < wr.heap.size) ∧ (∀ k, Cs k → w0.heap.size ≤ k ∧ k < wr.heap.size) ∧ (∀ k, Bs k → ¬ Cs k) ∧ Below w0.heap.size w0 wr

set_option maxRecDepth 20000 in
set_option maxHeartbeats 1000000 in
theorem prod.lawApart (A : Option Addr) (bs : List Bat) (c : Nat) (id : Int) (w : World) (hlen : bs.length ≤ maxLen) (hat : BatsAt w A bs) (hid : intOk id) :
    Calls Try.prog 7 #[.slice A bs.length c, .int .i64 id] w fun e w' => e = .returned (.bool true) ∧ Below w.heap.size w w' := by
  have HAT := Lib.hid hat; clear hat
  have HID := Lib.hid hid; clear hid
  have HLEN := Lib.hid hlen
  unfold maxLen at hlen
  go_enter Try.func7, Try.ntmps7
  go_wp2_with fail
  refine (prod.small_any A bs c w HAT.out HLEN.out).mono ?_
  rintro e w1 ⟨⟨b, rfl, hsm⟩, hb1⟩
  have HSM := Lib.hid hsm; clear hsm
  have HB1 := Lib.hid hb1; clear hb1
  by_cases hno : b = false ∨ id < 1
  · rcases (show b = false ∨ (b = true ∧ id < 1) by cases b <;> simp_all) with rfl | ⟨rfl, hid1⟩
    all_goals
      clear hno
      go_wp2_with fail
      refine (prod.awake_any w1).mono ?_
      rintro e w2 ⟨rfl, hb2⟩
      have HB2 := Lib.hid (HB1.out.trans (hb2.mono HB1.out.size)); clear hb2
      go_wp2
      go_ret
      exact ⟨rfl, HB2.out⟩
  · have hid1 : ¬ id < 1 := fun h => hno (.inr h)
    obtain rfl : b = true := by cases b <;> simp_all
    clear hno
    obtain ⟨h80, hsm⟩ := HSM.out rfl
    have HSM2 := Lib.hid hsm; clear hsm HSM
    go_wp2_with fail
    refine (prod.new_any w1).mono ?_
    rintro e w2 ⟨⟨t, rfl, ht⟩, hb2⟩
    have HT := Lib.hid ht.cut; clear ht
    have HB2 := Lib.hid hb2; clear hb2
    go_wp2_with fail
    refine (prod.new_any w2).mono ?_
    rintro e w3 ⟨⟨u, rfl, hu⟩, hb3⟩
    have HU := Lib.hid hu.cut; clear hu
    have HB3 := Lib.hid hb3; clear hb3
    obtain ⟨wo, rfl⟩ : ∃ wo : World, wo = w1 := ⟨_, rfl⟩
    go_wp2_with fail
    go_loopw [7] (fun i wr => ∃ j : Nat, j ≤ bs.length ∧ i = .int .i64 (j : Int) ∧ ApAt wo t u id j wr) (fun i _ => bs.length - (intOf i).toNat)
    case atStart =>
      exact ⟨0, by omega, rfl, 0, _, _, 0, _, _, HT.out.below HB3.out, HU.out, Nat.le_refl _, rfl, rfl, fun k h => ⟨h.1, Nat.lt_of_lt_of_le h.2 HB3.out.size⟩, fun k h => ⟨Nat.le_trans HB2.out.size h.1, h.2⟩, fun k h h' => by have := h.2; have := h'.1; omega, HB2.out.trans (HB3.out.mono HB2.out.size)⟩
    case round =>
      obtain ⟨j, hj, rfl, N, g, Bs, M, h, Cs, hT, hU, hN, hM, hgh, hBs, hCs, hdis, hbw⟩ := hrel
      have HST := Lib.hid (And.intro hT (And.intro hU (And.intro hN (And.intro hM (And.intro hgh (And.intro hBs (And.intro hCs (And.intro hdis hbw))))))))
      clear hT hU hN hM hgh hBs hCs hdis hbw
      by_cases hlt : j < bs.length
      · obtain ⟨x, hx⟩ : ∃ x, bs[j]? = some x := ⟨_, List.getElem?_eq_getElem hlt⟩
        have hbr : Below w.heap.size w wr := HB1.out.trans (HST.out.2.2.2.2.2.2.2.2.mono HB1.out.size)
        obtain ⟨p, off, v, hA, hp, d0, d1, d2, d3, d4, d5, hv, o0, -, o2, o3, -⟩ := (HAT.out.below hbr (Nat.le_refl _)).at' hx
        obtain ⟨p', off', v', hA', hp', -, -, e2, -⟩ := HAT.out.at' hx
        subst hA
        obtain ⟨rfl, rfl⟩ : p = p' ∧ off = off' := by simpa using hA'
        obtain ⟨Ar, cr, Vr, rfl, -, -, -⟩ := hv
        obtain ⟨s0, s1, s2⟩ := HSM2.out x (List.mem_of_getElem? hx)
        have HO := Lib.hid (And.intro o0 (And.intro o2 o3)); clear o0 o2 o3 hA'
        have HBR := Lib.hid hbr; clear hbr
        have HP := Lib.hid hp'; clear hp'
        have HX := Lib.hid hx; clear hx
        have HE2 := Lib.hid e2; clear e2
        have hpw : ∀ wz, Below w.heap.size w wz → wz.cell? ⟨p, off + j * 6 + 2, none⟩ = some (.int .i64 x.prod) ∧ wz.cell? ⟨p, off + j * 6, none⟩ = some (.int .i64 x.base) ∧ wz.cell? ⟨p, off + j * 6 + 1, none⟩ = some (.int .i64 x.last) ∧
            wz.cell? ⟨p, off + j * 6 + 3, none⟩ = some (.int .i64 x.epoch) ∧ wz.cell? ⟨p, off + j * 6 + 4, none⟩ = some (.int .i64 x.seq) ∧ wz.cell? ⟨p, off + j * 6 + 5, none⟩ = some (.slice Ar x.recs.length cr) := fun wz hz => by
          have hc : ∀ i, wz.cell? ⟨p, i, none⟩ = wr.cell? ⟨p, i, none⟩ := fun i => ((hz.cell HP.out)).trans (HBR.out.cell HP.out).symm
          exact ⟨(hc _).trans d2, (hc _).trans d0, (hc _).trans d1, (hc _).trans d3, (hc _).trans d4, (hc _).trans d5⟩
        have HPW := Lib.hid hpw; clear hpw
        go_wp2_with fail
        refine (prod.add_any t N g Bs x.base x.last x.prod x.epoch x.seq Ar x.recs.length cr wr HST.out.1 HO.out.2.1 (by omega) HO.out.2.2 ⟨s0, by omega⟩ HO.out.1 (by have := HST.out.2.2.1; unfold maxLen; omega)).mono ?_
        rintro e w4 ⟨rfl, hT4, hc4⟩
        have HT4 := Lib.hid (And.intro hT4 hc4)
        have hb4 : Below w.heap.size w w4 := HBR.out.trans (hc4.below HBR.out.size fun k hk => Nat.le_trans HB1.out.size (HST.out.2.2.2.2.2.1 k hk).1)
        obtain ⟨d2', d0', d1', d3', d4', d5'⟩ := HPW.out w4 hb4
        have HB4 := Lib.hid hb4; clear hb4 hT4 hc4 d0 d1 d2 d3 d4 d5
        obtain ⟨E, hE⟩ : ∃ E, E = prod.ans true (g x.prod) x.prod x.epoch x.seq (x.recs.length : Nat) := ⟨_, rfl⟩
        rw [← hE]
        have HE := Lib.hid hE; clear hE
        by_cases hpi : x.prod = id
        · have hd : (x.prod == id) = true := by simpa using hpi
          have HPI := Lib.hid hpi; clear hpi
          have hU4 := HST.out.2.1.chg HT4.out.2 fun k _ hk => HST.out.2.2.2.2.2.2.2.1 k hk
          have HU4 := Lib.hid hU4; clear hU4
          go_wp2_with fail
          refine (prod.add_any u M h Cs x.base x.last x.prod x.epoch x.seq Ar x.recs.length cr w4 HU4.out HO.out.2.1 (by omega) HO.out.2.2 ⟨s0, by omega⟩ HO.out.1 (by have := HST.out.2.2.2.1; unfold maxLen; split at this <;> omega)).mono ?_
          rintro e w5 ⟨rfl, hU5, hc5⟩
          have HU5 := Lib.hid (And.intro hU5 hc5); clear hU5 hc5
          rw [show prod.ans true (h x.prod) x.prod x.epoch x.seq (x.recs.length : Nat) = E by rw [HE.out, HPI.out, HST.out.2.2.2.2.1]]
          go_wp2
          go_roundw
          case rel =>
            obtain ⟨hT, hU, hN, hM, hgh, hBs, hCs, hdis, hbw⟩ := HST.out
            have hs4 := HT4.out.2.size
            have hs5 := HU5.out.2.size
            refine ⟨j + 1, by omega, by go_num, _, _, fun k => (Bs k ∨ wr.heap.size ≤ k) ∧ k < w4.heap.size, _, _, fun k => (Cs k ∨ w4.heap.size ≤ k) ∧ k < w5.heap.size, HT4.out.1.cut.chg HU5.out.2 ?_, HU5.out.1.cut, ?_, ?_, ?_, ?_, ?_, ?_, ?_⟩
            · rintro k - hk ⟨h1 | h1, -⟩
              · exact hdis k h1 hk
              · have := (hCs k hk).2; omega
            · exact Nat.le_trans prod.many_le (by omega)
            · have e := HPI.out
              subst e
              exact prod.many_one hM
            · have e := HPI.out
              subst e
              exact prod.after_same hgh
            · rintro k ⟨h1 | h1, h2⟩
              · exact ⟨(hBs k h1).1, by omega⟩
              · have := hbw.size; exact ⟨by omega, by omega⟩
            · rintro k ⟨h1 | h1, h2⟩
              · exact ⟨(hCs k h1).1, h2⟩
              · have := hbw.size; exact ⟨by omega, h2⟩
            · rintro k ⟨h1 | h1, h2⟩ ⟨h3 | h3, h4⟩
              · exact hdis k h1 h3
              · omega
              · have := (hCs k h3).2; omega
              · omega
            · exact (hbw.trans (HT4.out.2.below hbw.size fun k hk => (hBs k hk).1)).trans (HU5.out.2.below (Nat.le_trans hbw.size hs4) fun k hk => (hCs k hk).1)
          case measure => simp [intOf]; omega
        · have hd : (x.prod == id) = false := by simpa using hpi
          have HPI := Lib.hid hpi; clear hpi
          go_wp2
          go_roundw
          case rel =>
            obtain ⟨hT, hU, hN, hM, hgh, hBs, hCs, hdis, hbw⟩ := HST.out
            have hs4 := HT4.out.2.size
            refine ⟨j + 1, by omega, by go_num, _, _, fun k => (Bs k ∨ wr.heap.size ≤ k) ∧ k < w4.heap.size, M, h, Cs, HT4.out.1.cut, hU.chg HT4.out.2 fun k _ hk => hdis k hk, ?_, hM, ?_, ?_, ?_, ?_, ?_⟩
            · exact Nat.le_trans prod.many_le (by omega)
            · rw [prod.after_other (fun e => HPI.out e.symm)]; exact hgh
            · rintro k ⟨h1 | h1, h2⟩
              · exact ⟨(hBs k h1).1, h2⟩
              · have := hbw.size; exact ⟨by omega, h2⟩
            · exact fun k hk => ⟨(hCs k hk).1, by have := (hCs k hk).2; omega⟩
            · rintro k ⟨h1 | h1, h2⟩ h3
              · exact hdis k h1 h3
              · have := (hCs k h3).2; omega
            · exact hbw.trans (HT4.out.2.below hbw.size fun k hk => (hBs k hk).1)
          case measure => simp [intOf]; omega
      · obtain rfl : j = bs.length := by omega
        obtain ⟨hT, hU, -, hM, hgh, -, -, -, hbw⟩ := HST.out
        have HT9 := Lib.hid hT; clear hT
        have HU9 := Lib.hid hU; clear hU
        have HBW := Lib.hid (HB1.out.trans (hbw.mono HB1.out.size)); clear hbw
        have hM1 : M ≤ 1 := by split at hM <;> omega
        clear hM
        have hnx : ∃ (a b : Int) (o : Bool), prod.nx (g id) = .returned (.tuple #[.int .i64 a, .int .i64 b, .bool o]) := by
          cases g id with
          | none => exact ⟨_, _, _, rfl⟩
          | some r => exact ⟨_, _, _, rfl⟩
        obtain ⟨a, b, o, hnx⟩ := hnx
        have hnx2 : prod.nx (h id) = .returned (.tuple #[.int .i64 a, .int .i64 b, .bool o]) := by rw [← hgh]; exact hnx
        have HNX := Lib.hid hnx; clear hnx hgh
        have HNX2 := Lib.hid hnx2; clear hnx2
        go_wp2_with fail
        refine (prod.tnext_any (some ⟨t, 0, none⟩) N g Bs id wr ⟨t, rfl, HT9.out⟩ HID.out).mono ?_
        rw [HNX.out]
        rintro e w4 ⟨rfl, hb4⟩
        have HB4 := Lib.hid hb4; clear hb4
        go_wp2_with fail
        refine (prod.tnext_any (some ⟨u, 0, none⟩) M h Cs id w4 ⟨u, rfl, HU9.out.below HB4.out⟩ HID.out).mono ?_
        rw [HNX2.out]
        rintro e w5 ⟨rfl, hb5⟩
        have HB5 := Lib.hid (HB4.out.trans (hb5.mono HB4.out.size)); clear hb5
        go_wp2_with fail
        refine (prod.known_any (some ⟨u, 0, none⟩) M h Cs w5 ⟨u, rfl, HU9.out.below HB5.out⟩ (by omega)).mono ?_
        rintro e w6 ⟨⟨v6, ks, rfl, -, -, -, hrow⟩, hb6⟩
        obtain ⟨A6, c6, hv6, -, -⟩ := own_at hrow
        subst hv6
        have HB6 := Lib.hid (HB5.out.trans (hb6.mono HB5.out.size)); clear hb6 hrow
        go_wp2_with fail
        refine (prod.awake_any w6).mono ?_
        rintro e w7 ⟨rfl, hb7⟩
        have HB7 := Lib.hid (HB6.out.trans (hb7.mono HB6.out.size)); clear hb7
        go_wp2
        go_ret
        exact ⟨rfl, HBW.out.trans (HB7.out.mono HBW.out.size)⟩

theorem prod.lawApartAll (A : Option Addr) (n c : Nat) (bs : List Bat) (id : Int) (w : World) (hm : bs.length = n ∧ n ≤ c ∧ c ≤ maxLen) (hat : BatsAt w A bs) (hid : -9223372036854775808 ≤ id ∧ id ≤ 9223372036854775807) :
    Calls Try.prog 7 #[.slice A n c, .int .i64 id] w fun e w' => e = .returned (.bool true) ∧ Below w.heap.size w w' := by
  obtain ⟨rfl, h1, h2⟩ := hm
  exact prod.lawApart A bs c id w (Nat.le_trans h1 h2) hat hid
end Go.Proofs.Ytgkocnnkknodhaa

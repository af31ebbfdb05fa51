/- The walk of the law DiskRoom. -/
import Derived.Test.YthffkbcjidbdaaaDmI
namespace Go.Proofs.Ythffkbcjidbdaaa
open Go.RowKit Go.Maps
set_option maxRecDepth 100000

set_option maxHeartbeats 8000000 in
theorem law4.room (R n cut : Int) (w : World) (hR : -9223372036854775808 ≤ R ∧ R ≤ 9223372036854775807) (hn : -9223372036854775808 ≤ n ∧ n ≤ 9223372036854775807) (hcut : -9223372036854775808 ≤ cut ∧ cut ≤ 9223372036854775807) :
    Calls Try.prog 9 #[.int .i64 R, .int .i64 n, .int .i64 cut] w fun a w' => a = .returned (.bool true) ∧ Below w.heap.size w w' := by
  have haw := law4.awake_any w
  have HAW := Lib.hid haw; clear haw
  go_enter Try.func9, Try.ntmps9
  by_cases h1 : R < 1
  · have g1 : decide (R < 1) = true := decide_eq_true h1
    go_wp2_with (go_at_call 11; refine HAW.out.mono ?_; rintro a w1 ⟨rfl, hb⟩; have HB := Lib.hid hb; clear hb)
    go_ret
    exact ⟨rfl, HB.out⟩
  have g1 : decide (R < 1) = false := decide_eq_false h1
  by_cases h2 : 1000 < R
  · have g2 : decide (1000 < R) = true := decide_eq_true h2
    go_wp2_with (go_at_call 11; refine HAW.out.mono ?_; rintro a w1 ⟨rfl, hb⟩; have HB := Lib.hid hb; clear hb)
    go_ret
    exact ⟨rfl, HB.out⟩
  have g2 : decide (1000 < R) = false := decide_eq_false h2
  by_cases h3 : n < 0
  · have g3 : decide (n < 0) = true := decide_eq_true h3
    go_wp2_with (go_at_call 11; refine HAW.out.mono ?_; rintro a w1 ⟨rfl, hb⟩; have HB := Lib.hid hb; clear hb)
    go_ret
    exact ⟨rfl, HB.out⟩
  have g3 : decide (n < 0) = false := decide_eq_false h3
  by_cases h4 : 1200 < n
  · have g4 : decide (1200 < n) = true := decide_eq_true h4
    go_wp2_with (go_at_call 11; refine HAW.out.mono ?_; rintro a w1 ⟨rfl, hb⟩; have HB := Lib.hid hb; clear hb)
    go_ret
    exact ⟨rfl, HB.out⟩
  have g4 : decide (1200 < n) = false := decide_eq_false h4
  obtain ⟨N, hN⟩ : ∃ N : Nat, n = (N : Int) := ⟨n.toNat, by omega⟩
  obtain ⟨r, hr⟩ : ∃ r : Nat, R = (r : Int) := ⟨R.toNat, by omega⟩
  subst hN hr
  have hnew := PDisk.new (room := (r : Int)) w (by omega)
  have HNEW := Lib.hid hnew; clear hnew
  obtain ⟨B, hB⟩ : ∃ B, B = w.heap.size := ⟨_, rfl⟩
  go_upto_region 6 with (go_at_call 12; refine HNEW.out.mono ?_; rintro a w1 ⟨p, rfl, h1, h2⟩; have H1 := Lib.hid (And.intro h1 h2); clear h1 h2)
  clear HAW g1 g2 g3 g4 HNEW
  have b1 : Below B w w1 ∧ ∀ k, dk.fresh w w1 k → B ≤ k := ⟨by rw [hB]; exact H1.out.2, fun k hk => by rw [hB]; exact hk.1⟩
  have HB1 := Lib.hid b1; clear b1
  obtain ⟨Z1, hZ1⟩ := rm.make N (by omega)
  have k1 := (hZ1 w1).1
  have HZ1 := Lib.hid hZ1; clear hZ1
  by_cases hfit : (r : Int) < (N : Int)
  · have g5 : decide ((N : Int) ≤ (r : Int)) = false := decide_eq_false (by omega)
    have g6 : decide (N ≤ r) = false := decide_eq_false (by omega)
    go_upto_region 7 with (go_at_call 22; refine (H1.out.1.app_zero (E := 4) rm.ok.1 (by unfold RDisk.small RDisk.new; dsimp only; omega) N Z1 (by omega) (HZ1.out w1).2 (by omega) (rm.firstNo r (rm.Z N) (by rw [List.length_replicate]; omega)) hB HB1.out.1 HB1.out.2).mono ?_; rintro a w2 ⟨rfl, ⟨F2, h1, h2⟩, h3⟩; have H2 := Lib.hid (And.intro h1 (And.intro h2 h3)); clear h1 h2 h3)
    clear k1
    obtain ⟨Z2, hZ2⟩ := rm.make r (by omega)
    have HZ2 := Lib.hid hZ2; clear hZ2
    go_upto_region 10 with fail
    have hsz := H2.out.1.size (s := rm.A) (dk.ok_le rm.ok.1)
    rw [show (rm.N1 (r : Int)).size rm.A = -1 from rfl] at hsz
    have HSZ := Lib.hid hsz; clear hsz
    go_wp2_with (first
      | (go_at_call 11; refine (law4.awake_any w4).mono ?_; rintro a w5 ⟨rfl, h1⟩; have H5 := Lib.hid h1; clear h1)
      | (go_at_call 22; refine ((H2.out.1.below H3.out).app_zero (E := 0) rm.ok.1 (by unfold RDisk.small rm.N1; dsimp only; omega) r Z2 (by omega) (HZ2.out w3).2 (by omega) (rm.again r (rm.Z r) (by rw [List.length_replicate]; omega)) hB HB3.out H2.out.2.1).mono ?_; rintro a w4 ⟨rfl, ⟨F4, -, -⟩, h3⟩; have H4 := Lib.hid h3; clear h3)
      | (go_at_call 27; refine (H2.out.1.below H3.out).used.mono ?_; rintro a w3' ⟨rfl, h3⟩; subst h3; have hu0 : (rm.N1 (r : Int)).used = 0 := rfl; rw [hu0]; clear hu0)
      | (go_at_call 19; refine HSZ.out.mono ?_; rintro a w3 ⟨rfl, h3, h4⟩; have HB3 := Lib.hid (H2.out.2.2.trans (h3.mono (show B ≤ w2.heap.size from by have := H2.out.2.2.size; omega))); have H3 := Lib.hid h3; clear h3 h4; have k3 := (HZ2.out w3).1))
    go_ret
    exact ⟨rfl, by rw [← hB]; exact H4.out.trans (H5.out.mono (by have := H4.out.size; omega))⟩
  · have g5 : decide ((N : Int) ≤ (r : Int)) = true := decide_eq_true (by omega)
    have g6 : decide (N ≤ r) = true := decide_eq_true (by omega)
    go_upto_region 7 with (go_at_call 22; refine (H1.out.1.app_zero (E := 0) rm.ok.1 (by unfold RDisk.small RDisk.new; dsimp only; omega) N Z1 (by omega) (HZ1.out w1).2 (by omega) (rm.first r (rm.Z N) (by rw [List.length_replicate]; omega)) hB HB1.out.1 HB1.out.2).mono ?_; rintro a w2 ⟨rfl, ⟨F2, h1, h2⟩, h3⟩; have H2 := Lib.hid (And.intro h1 (And.intro h2 h3)); clear h1 h2 h3)
    clear k1
    have hrd := round_any cut ((N : Int) + 1) w2 hcut (by omega) (by omega)
    have HRD := Lib.hid hrd; clear hrd
    go_upto_region 12 with (go_at_call 31; refine HRD.out.mono ?_; rintro a w2' ⟨⟨k, rfl, hk⟩, rfl⟩)
    clear HRD g5 g6
    have hkN : k ≤ N := by omega
    clear hk
    obtain ⟨m, hm⟩ : ∃ m : Nat, (m : Int) = (r : Int) - (N : Int) := ⟨r - N, by omega⟩
    obtain ⟨j, hj⟩ : ∃ j : Nat, (j : Int) = (N : Int) - (k : Int) := ⟨N - k, by omega⟩
    have hm3 : m ≤ 3000 := by omega
    have hj3 : j ≤ 3000 := by omega
    obtain ⟨Z2, hZ2⟩ := rm.make m (by omega)
    obtain ⟨Z3, hZ3⟩ := rm.make j (by omega)
    have k2 := (hZ2 w2).1
    rw [hm] at k2
    have k3 := fun wx => (hZ3 wx).1
    rw [hj] at k3
    have K3 := Lib.hid k3; clear k3
    have HZ := Lib.hid (And.intro hZ2 hZ3); clear hZ2 hZ3
    have HJ := Lib.hid (And.intro hm hj); clear hm hj
    have km := fun wx : World => conv_mark (P := Try.prog) 34 5 Try.underlying34 Try.underlying5 wx #[.int .u8 120] 1 1 _ rfl
    have KM_ := Lib.hid km; clear km
    have hmj := HJ.out
    have hlN : (rm.Z N).length = N := List.length_replicate
    have hlm : (rm.Z m).length = m := List.length_replicate
    have hlj : (rm.Z j).length = j := List.length_replicate
    have hlk : ((rm.Z N).take k).length = k := by rw [List.length_take, hlN]; omega
    have HL := Lib.hid (And.intro hlN (And.intro hlm (And.intro hlj hlk))); clear hlN hlm hlj hlk
    have s3 := rm.second (r : Int) (rm.Z N) (rm.Z m) (by rw [HL.out.1, HL.out.2.1]; omega)
    have s4 := rm.full (R := (r : Int)) (a := ⟨rm.Z N, 0⟩) (b := rm.Z m) (c := [120]) (o := 2) rm.ok.2 (by rw [HL.out.1, HL.out.2.1]; simp; omega)
    have s6 := rm.more (R := (r : Int)) (a := ⟨(rm.Z N).take k, k⟩) (b := rm.Z m) (c := rm.Z j) (o := 4) (by rw [HL.out.2.2.2, HL.out.2.1, HL.out.2.2.1]; omega)
    have s7 := rm.full (R := (r : Int)) (a := ⟨(rm.Z N).take k, k⟩) (b := rm.Z m ++ rm.Z j) (c := [120]) (o := 5) rm.ok.1 (by rw [HL.out.2.2.2, List.length_append, HL.out.2.1, HL.out.2.2.1]; simp; omega)
    have HS := Lib.hid (And.intro s3 (And.intro s4 (And.intro s6 s7))); clear s3 s4 s6 s7 hmj
    go_upto_region 14 with (first
      | (go_at_call 22; refine (H6.out.1.app_x (E := 4) rm.ok.1 (rm.small (by omega)) (by omega) HS.out.2.2.2 hB H6.out.2.2 H6.out.2.1).mono ?_; rintro a w7 ⟨rfl, ⟨F7, h1, h2⟩, h3⟩; have H7 := Lib.hid (And.intro h1 (And.intro h2 h3)); clear h1 h2 h3)
      | (go_at_call 22; refine (H5.out.1.app_zero (E := 0) rm.ok.2 (rm.small (by omega)) j Z3 (by omega) (HZ.out.2 w5).2 (by omega) HS.out.2.2.1 hB H5.out.2.2 H5.out.2.1).mono ?_; rintro a w6 ⟨rfl, ⟨F6, h1, h2⟩, h3⟩; have H6 := Lib.hid (And.intro h1 (And.intro h2 h3)); clear h1 h2 h3; have k6 := KM_.out w6)
      | (go_at_call 32; refine (rm.cut_is H4.out.1 (by dsimp only; rw [HL.out.1]; omega) (by omega) (by omega) hB H4.out.2.2 H4.out.2.1).mono ?_; rintro a w5 ⟨rfl, ⟨F5, h1, h2⟩, h3⟩; have H5 := Lib.hid (And.intro h1 (And.intro h2 h3)); clear h1 h2 h3; have k5 := K3.out w5)
      | (go_at_call 22; refine (H3.out.1.app_x (E := 4) rm.ok.2 (rm.small (by omega)) (by omega) HS.out.2.1 hB H3.out.2.2 H3.out.2.1).mono ?_; rintro a w4 ⟨rfl, ⟨F4, h1, h2⟩, h3⟩; have H4 := Lib.hid (And.intro h1 (And.intro h2 h3)); clear h1 h2 h3)
      | (go_at_call 22; refine (H2.out.1.app_zero (E := 0) rm.ok.2 (by unfold RDisk.small rm.M1; dsimp only; omega) m Z2 (by omega) (HZ.out.1 w2).2 (by omega) HS.out.1 hB H2.out.2.2 H2.out.2.1).mono ?_; rintro a w3 ⟨rfl, ⟨F3, h1, h2⟩, h3⟩; have H3 := Lib.hid (And.intro h1 (And.intro h2 h3)); clear h1 h2 h3; have k4 := KM_.out w3))
    have hus := H7.out.1.used
    rw [rm.used] at hus
    dsimp only at hus
    rw [HL.out.2.2.2, List.length_append, HL.out.2.1, HL.out.2.2.1, show (k : Int) + ((m + j : Nat) : Int) = (r : Int) from by have := HJ.out; omega] at hus
    have HUS := Lib.hid hus; clear hus
    go_wp2_with (first
      | (go_at_call 11; refine (law4.awake_any w8).mono ?_; rintro a w9 ⟨rfl, h1⟩; have H9 := Lib.hid h1; clear h1)
      | (go_at_call 27; refine H8.out.1.used.mono ?_; rintro a w8' ⟨rfl, h3⟩; subst h3; rw [rm.used7]; dsimp only; rw [HL.out.2.2.2])
      | (go_at_call 33; refine (rm.gone_is H7.out.1 (by omega) hB H7.out.2.2 H7.out.2.1).mono ?_; rintro a w8 ⟨rfl, ⟨F8, h1, h2⟩, h3⟩; have H8 := Lib.hid (And.intro h1 (And.intro h2 h3)); clear h1 h2 h3)
      | (go_at_call 27; refine HUS.out.mono ?_; rintro a w7' ⟨rfl, h3⟩; subst h3))
    go_ret
    exact ⟨rfl, by rw [← hB]; exact H8.out.2.2.trans (H9.out.mono (by have := H8.out.2.2.size; omega))⟩
end Go.Proofs.Ythffkbcjidbdaaa

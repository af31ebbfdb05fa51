/- The walk of the law DiskPlays. -/
import Derived.Test.YthffkbcjidbdaaaDpE
import Derived.Test.YthffkbcjidbdaaaDsF
namespace Go.Proofs.Ythffkbcjidbdaaa
open Go.RowKit Go.Maps
set_option maxRecDepth 100000

theorem pl.two {B : Nat} {w w1 w2 : World} {p q : Nat} {room : Int} (hB : B ≤ w.heap.size) (hroom : 0 ≤ room ∧ room ≤ 1099511627776) (h : PDisk w1 p (RDisk.new room) (dk.fresh w w1) 0) (hr : RefD w2 q (RDisk.new room) (dk.fresh w1 w2)) (hb1 : Below w.heap.size w w1) (hb : Below w1.heap.size w1 w2) : DTwo B w2 p q (RDisk.new room) (RDisk.new room) 0 := by
  have hl := h.up.2.2.1
  refine ⟨dk.fresh w w1, dk.fresh w1 w2, h.below hb, hr, RDisk.new_wf hroom, fun k hk => Nat.le_trans hB hk.1, fun k hk => Nat.le_trans hB (Nat.le_trans hb1.size hk.1), fun k hk hg => ?_, ⟨Nat.le_refl _, Nat.le_refl _, Nat.le_refl _⟩, ⟨Int.le_refl _, Int.le_refl _⟩, Int.le_refl _, Int.le_refl _⟩
  have h1 := hl k hk
  have h2 := hg.1
  omega
theorem pl.shows {B : Nat} {w : World} {p q n : Nat} {M : RDisk} (h : DTwo B w p q M M n) (hn : n ≤ 900) (hB : B ≤ w.heap.size) :
    Calls Try.prog 15 #[.pointer (some ⟨p, 0, none⟩), .pointer (some ⟨q, 0, none⟩)] w fun e w' => e = .returned (.bool true) ∧ DTwo B w' p q M M n ∧ Below B w w' := by
  have h' := h
  obtain ⟨F, G, h1, h2, h3, -⟩ := h
  refine (law4.shows_any p q n M F G w h1 h2 h3 hn).mono ?_
  rintro e w' ⟨rfl, hb⟩
  exact ⟨rfl, h'.below hb, hb.mono hB⟩
/-- What the law asks of a name at the end. -/
theorem pl.case (M : RDisk) (s : ByteArray) : (M.readE s = 5 ∧ M.bytes s = [] ∧ M.size s = -1) ∨ (M.readE s = 0 ∧ M.size s = ((M.bytes s).length : Int)) := by
  unfold RDisk.readE RDisk.bytes RDisk.size
  cases h : rd.look M.now s with
  | none => exact .inl ⟨rfl, rfl, rfl⟩
  | some f => exact .inr ⟨rfl, rfl⟩

set_option maxHeartbeats 8000000 in
theorem law4.plays (room : Int) (X : Option Addr) (q d : Nat) (xs : List DStep) (look : ByteArray) (w : World) (hx : xs.length = q ∧ q ≤ d ∧ d ≤ maxLen) (hatx : DSteps w X xs) (hlook : look.size ≤ maxLen) :
    Calls Try.prog 3 #[.int .i64 room, .slice X q d, .string look] w fun a w' => a = .returned (.bool true) ∧ Below w.heap.size w w' := by
  have hsml := law4.small_any X q d xs w hx hatx
  obtain ⟨hx1, hx2, hx3⟩ := hx
  unfold maxLen at hx3
  have HX := Lib.hid (And.intro hatx hx1); clear hatx hx1
  have HLK := Lib.hid hlook; clear hlook
  have haw : ∀ wx, Below w.heap.size w wx → Calls Try.prog 11 #[] wx fun a w' => a = .returned (.bool true) ∧ Below w.heap.size w w' := fun wx h => by
    refine (law4.awake_any wx).mono ?_
    rintro a w' ⟨h1, h2⟩
    exact ⟨h1, h.trans (h2.mono h.size)⟩
  have HAW := Lib.hid haw; clear haw
  go_enter Try.func3, Try.ntmps3
  by_cases hsm : ds.small xs q = true
  case neg =>
    rw [Bool.eq_false_iff.2 hsm] at hsml
    have HSML := Lib.hid hsml; clear hsml hsm
    go_wp2_with (first
      | (go_at_call 11; refine (HAW.out w1 HB.out).mono ?_; rintro a w2 ⟨rfl, hb⟩; have HB2 := Lib.hid hb; clear hb)
      | (go_at_call 10; refine HSML.out.mono ?_; rintro a w1 ⟨rfl, hb⟩; have HB := Lib.hid hb; clear hb))
    go_ret
    exact ⟨rfl, HB2.out⟩
  rw [hsm] at hsml
  have hsm' : ds.sum xs q ≤ 1000 ∧ q ≤ 80 := of_decide_eq_true hsm
  obtain ⟨hs1, hs2⟩ := hsm'
  have HS1 := Lib.hid hs1; clear hs1 hsm
  have HSML := Lib.hid hsml; clear hsml
  by_cases h1 : 200 < look.size
  · have g1 : decide (200 < (look.size : Int)) = true := decide_eq_true (by omega)
    go_wp2_with (first
      | (go_at_call 11; refine (HAW.out w1 HB.out).mono ?_; rintro a w2 ⟨rfl, hb⟩; have HB2 := Lib.hid hb; clear hb)
      | (go_at_call 10; refine HSML.out.mono ?_; rintro a w1 ⟨rfl, hb⟩; have HB := Lib.hid hb; clear hb))
    go_ret
    exact ⟨rfl, HB2.out⟩
  have g1 : decide (200 < (look.size : Int)) = false := decide_eq_false (by omega)
  by_cases hr : 0 ≤ room ∧ room ≤ 1099511627776
  case neg =>
    go_wp2_with (first
      | (go_at_call 11; refine (HAW.out w1 HB.out).mono ?_; rintro a w2 ⟨rfl, hb⟩; have HB2 := Lib.hid hb; clear hb)
      | (go_at_call 13; refine (rf.New_bad room w1 hr).mono ?_; rintro a w1'' ⟨rfl, h3⟩; subst h3)
      | (go_at_call 12; refine (disk.New_bad room w1 hr).mono ?_; rintro a w1' ⟨rfl, h3⟩; subst h3)
      | (go_at_call 10; refine HSML.out.mono ?_; rintro a w1 ⟨rfl, hb⟩; have HB := Lib.hid hb; clear hb))
    go_ret
    exact ⟨rfl, HB2.out⟩
  have HR := Lib.hid hr; clear hr
  go_upto_region 10 with (first
    | (go_at_call 13; refine (rf.New_any room w2 HR.out).mono ?_; rintro a w3 ⟨qq, rfl, h1, h2⟩; have H3 := Lib.hid (show DTwo w.heap.size w3 p qq (RDisk.new room) (RDisk.new room) 0 ∧ Below w.heap.size w w3 from ⟨pl.two HB.out.size HR.out H2.out.1 h1 H2.out.2 h2, HB.out.trans ((H2.out.2.trans (h2.mono H2.out.2.size)).mono HB.out.size)⟩); clear h1 h2)
    | (go_at_call 12; refine (PDisk.new (room := room) w1 HR.out).mono ?_; rintro a w2 ⟨p, rfl, h1, h2⟩; have H2 := Lib.hid (And.intro h1 h2); clear h1 h2)
    | (go_at_call 10; refine HSML.out.mono ?_; rintro a w1 ⟨rfl, hb⟩; have HB := Lib.hid hb; clear hb))
  clear g1 HSML h1
  have hinv : ∃ M, DTwo w.heap.size w3 p qq M M (2 * 0) ∧ Below w.heap.size w w3 := ⟨_, H3.out⟩
  have HINV := Lib.hid hinv; clear hinv H2 H3 HB
  go_loopw [11] (fun i wx => ∃ (j : Nat), j ≤ q ∧ i = .int .i64 (j : Int) ∧ ∃ M, DTwo w.heap.size wx p qq M M (2 * j) ∧ Below w.heap.size w wx) (fun i _ => q - (intOf i).toNat)
  case atStart => exact ⟨0, by omega, rfl, HINV.out⟩
  case round =>
    obtain ⟨j, hj, rfl, M, hd, hbw⟩ := hrel
    clear HINV
    by_cases hlt : j < q
    · have hlt' : (j : Int) < (q : Int) := by omega
      have hjx : j < xs.length := by rw [HX.out.2]; exact hlt
      have hsum := ds.sum_succ xs j hjx
      have hle := ds.sum_mono xs (show j + 1 ≤ q from hlt)
      have h1000 := HS1.out
      have hat' := HX.out.1.at' j hjx
      obtain ⟨⟨kind, sa, st, bs, nn⟩, hy⟩ : ∃ y, xs[j] = y := ⟨_, rfl⟩
      rw [hy] at hsum hat'
      clear hy
      dsimp only at hat'
      rw [show (DStep.mk kind sa st bs nn).weight = sa.size + st.size + bs.length + 1 from rfl] at hsum
      obtain ⟨b, off, rfl, hbb, V, cV, c0, c1, c2, c3, c4, hatV, -, hb256, hsa, hst, -, hnb⟩ := hat'
      obtain ⟨m, hm⟩ : ∃ m, m = bs.length := ⟨_, rfl⟩
      rw [← hm] at c3 hsum hatV
      have hVB : ∀ g o2, V = some ⟨g, o2, none⟩ → 0 < m → g < w.heap.size := fun g o2 ev h0 => by
        obtain ⟨b2, o3, e2, hb2, -⟩ := hatV h0
        rw [ev] at e2
        obtain rfl : g = b2 := by simpa using congrArg (fun o => o.map Addr.block) e2
        exact hb2
      have d0 := (hbw.cell (p := ⟨b, off + j * 5, none⟩) hbb).trans c0
      have d1 := (hbw.cell (p := ⟨b, off + j * 5 + 1, none⟩) hbb).trans c1
      have d2 := (hbw.cell (p := ⟨b, off + j * 5 + 2, none⟩) hbb).trans c2
      have d3 := (hbw.cell (p := ⟨b, off + j * 5 + 3, none⟩) hbb).trans c3
      have d4 := (hbw.cell (p := ⟨b, off + j * 5 + 4, none⟩) hbb).trans c4
      clear c0 c1 c2 c3 c4
      have hm4 : m ≤ 4294967296 := by omega
      have hdoes := law4.does_any kind sa st bs nn V m cV w.heap.size p qq M M (2 * j) wr hd hbw.size (by omega) (hatV.below hbw (Nat.le_refl _)) hm.symm hVB hm4 hb256 hsa hst hnb
      obtain ⟨M', hM'⟩ : ∃ M', M' = M.step ⟨kind, sa, st, bs, nn⟩ := ⟨_, rfl⟩
      obtain ⟨E, hE⟩ : ∃ E, E = M.stepE ⟨kind, sa, st, bs, nn⟩ := ⟨_, rfl⟩
      rw [← hM', ← hE] at hdoes
      have HD := Lib.hid (And.intro hdoes hbw)
      clear hdoes hsum hle h1000 hatV hb256 hsa hst hnb hm hVB hd hbw hm4 hM' hE
      go_upto_region 13 with (go_at_call 14; refine HD.out.1.mono ?_; rintro a wd ⟨rfl, h1, h2⟩; have HZ := Lib.hid (And.intro h1 (HD.out.2.trans h2)); clear h1 h2)
      clear d0 d1 d2 d3 d4
      go_wp2_with (go_at_call 15; refine (pl.shows HZ.out.1 (by omega) HZ.out.2.size).mono ?_; rintro a we ⟨rfl, h1, h2⟩; have HY := Lib.hid (And.intro h1 (HZ.out.2.trans h2)); clear h1 h2)
      go_roundw
      case rel => exact ⟨j + 1, by omega, by go_num, M', HY.out.1, HY.out.2⟩
      case measure => simp [intOf]; omega
    · obtain rfl : j = q := by omega
      obtain ⟨F, G, hpd, hrd, hwf, -⟩ := hd
      obtain ⟨N, hN⟩ : ∃ N, N = M.now.length := ⟨_, rfl⟩
      obtain ⟨u, hu⟩ : ∃ u : Nat, u = min 1 N := ⟨_, rfl⟩
      obtain ⟨L, hL⟩ : ∃ L, L = M.bytes look := ⟨_, rfl⟩
      obtain ⟨k, hk⟩ : ∃ k, k = L.length := ⟨_, rfl⟩
      have hNb : N ≤ 2 * j := by
        obtain ⟨D, ι, m', -, -, -, -, -, h6, -⟩ := hpd
        omega
      have hwk : ∀ wx, Below wr.heap.size wr wx → Calls Try.prog 18 #[.pointer (some ⟨p, 0, none⟩), .int .i64 1] wx fun e w' => ∃ Aa ca Al cl, e = .returned (.tuple #[.slice Aa u ca, .slice Al u cl]) ∧ Below wx.heap.size wx w' := fun wx hb => by
        refine (law4.walk_any p M F _ 1 wx (hpd.below hb) (by omega) (by omega)).mono ?_
        rintro e w' ⟨ys, Aa, ca, Al, cl, hys, he, -, -, -, -, h3⟩
        have hyl : ys.length = u := by
          rw [hys, List.length_take, hu, hN]
          unfold RDisk.shown
          rw [List.length_map]
          rfl
        rw [hyl] at he
        exact ⟨Aa, ca, Al, cl, he, h3⟩
      have hrw : ∀ wx, Below wr.heap.size wr wx → ∃ An cn, wx.cell? ⟨qq, 2, none⟩ = some (.slice An N cn) ∧ qq < wx.heap.size := fun wx hb => by
        obtain ⟨A, c, h1, -, -, h3⟩ := (hrd.below hb).row
        rw [← hN] at h1
        exact ⟨A, c, h1, h3⟩
      have hre := hpd.read (s := look) HLK.out
      have hrr := fun wx (hb : Below wr.heap.size wr wx) => rf.Read_any look qq M G wx (hrd.below hb) hwf (by omega)
      have hsz := fun wx (hb : Below wr.heap.size wr wx) => (hpd.below hb).size (s := look) HLK.out
      have hcase := pl.case M look
      rw [← hL] at hre hrr hcase
      rw [← hk] at hre hrr hcase
      have HW := Lib.hid (And.intro hwk (And.intro hrw (And.intro hbw (And.intro hk.symm hsz)))); clear hwk hrw hbw hsz hpd hrd hwf hL hk
      have hu' : (u = 0 ∧ N = 0) ∨ (u = 1 ∧ 1 ≤ N) := by omega
      clear hu hN hlt
      rcases hcase with ⟨e1, -, e3⟩ | ⟨e1, e3⟩
      · have hsz := HW.out.2.2.2.2
        rw [e3] at hsz
        rw [e1] at hre hrr
        have HRE := Lib.hid (And.intro hre (And.intro hrr hsz)); clear hre hrr hsz e1 e3
        go_upto_region 16 with (go_at_call 16; refine HRE.out.1.mono ?_; rintro a w4 ⟨v9, rfl, h4, h5⟩; obtain ⟨A9, c9, hv9, hc9, -, hat9⟩ := own_bytes h4; subst hv9; have H4 := Lib.hid (And.intro hat9 h5); clear h4 h5 hat9 hc9)
        go_upto_region 20 with (go_at_call 17; refine (HRE.out.2.1 w4 H4.out.2).mono ?_; rintro a w5 ⟨v10, rfl, h4, h5, -⟩; obtain ⟨A10, c10, hv10, hc10, -, hat10⟩ := own_bytes h4; subst hv10; have H5 := Lib.hid (And.intro hat10 (And.intro h5 (H4.out.2.trans (h5.mono H4.out.2.size)))); clear h4 h5 hat10 hc10)
        go_upto_region 21 with (go_at_call 18; refine (HW.out.1 w5 H5.out.2.2).mono ?_; rintro a w6 ⟨Aa, ca, Al, cl, rfl, h5⟩; have H6 := Lib.hid (And.intro h5 (H5.out.2.2.trans (h5.mono H5.out.2.2.size))); clear h5)
        have cv1 := conv_any (P := Try.prog) Try.underlying34 Try.underlying5 Try.underlying9 (c := c9) L HW.out.2.2.2.1 (H4.out.1.below (H5.out.2.1.trans (H6.out.1.mono H5.out.2.1.size)) (Nat.le_refl _))
        have cv2 := conv_any (P := Try.prog) Try.underlying34 Try.underlying5 Try.underlying9 (c := c10) L HW.out.2.2.2.1 (H5.out.1.below H6.out.1 (Nat.le_refl _))
        obtain ⟨str, hstr⟩ : ∃ str, str = strOf L := ⟨_, rfl⟩
        rw [← hstr] at cv1 cv2
        clear hstr
        rcases hu' with ⟨rfl, hN0⟩ | ⟨rfl, hN1⟩
        · have hmn : min (1 : Int) (N : Int) = 0 := by omega
          have hlt1 : decide ((N : Int) < 1) = true := decide_eq_true (by omega)
          clear hN0
          go_wp2_with (first
            | (go_at_call 11; refine (HAW.out w7 H7.out).mono ?_; rintro a w8 ⟨rfl, hb⟩; have HB8 := Lib.hid hb; clear hb)
            | (go_at_call 19; refine (HRE.out.2.2 w6 H6.out.2).mono ?_; rintro a w7 ⟨rfl, h3, -⟩; obtain ⟨An, cn, k3, hq7⟩ := HW.out.2.1 w7 (H6.out.2.trans (h3.mono H6.out.2.size)); have H7 := Lib.hid (show Below w.heap.size w w7 from HW.out.2.2.1.trans ((H6.out.2.trans (h3.mono H6.out.2.size)).mono HW.out.2.2.1.size)); clear h3))
          go_ret
          exact ⟨rfl, HB8.out⟩
        · have hmn : min (1 : Int) (N : Int) = 1 := by omega
          have hlt1 : decide ((N : Int) < 1) = false := decide_eq_false (by omega)
          go_wp2_with (first
            | (go_at_call 11; refine (HAW.out w7 H7.out).mono ?_; rintro a w8 ⟨rfl, hb⟩; have HB8 := Lib.hid hb; clear hb)
            | (go_at_call 19; refine (HRE.out.2.2 w6 H6.out.2).mono ?_; rintro a w7 ⟨rfl, h3, -⟩; obtain ⟨An, cn, k3, hq7⟩ := HW.out.2.1 w7 (H6.out.2.trans (h3.mono H6.out.2.size)); have H7 := Lib.hid (show Below w.heap.size w w7 from HW.out.2.2.1.trans ((H6.out.2.trans (h3.mono H6.out.2.size)).mono HW.out.2.2.1.size)); clear h3))
          go_ret
          exact ⟨rfl, HB8.out⟩
      · have hsz := HW.out.2.2.2.2
        rw [e3] at hsz
        rw [e1] at hre hrr
        have HRE := Lib.hid (And.intro hre (And.intro hrr hsz)); clear hre hrr hsz e1 e3
        go_upto_region 16 with (go_at_call 16; refine HRE.out.1.mono ?_; rintro a w4 ⟨v9, rfl, h4, h5⟩; obtain ⟨A9, c9, hv9, hc9, -, hat9⟩ := own_bytes h4; subst hv9; have H4 := Lib.hid (And.intro hat9 h5); clear h4 h5 hat9 hc9)
        go_upto_region 20 with (go_at_call 17; refine (HRE.out.2.1 w4 H4.out.2).mono ?_; rintro a w5 ⟨v10, rfl, h4, h5, -⟩; obtain ⟨A10, c10, hv10, hc10, -, hat10⟩ := own_bytes h4; subst hv10; have H5 := Lib.hid (And.intro hat10 (And.intro h5 (H4.out.2.trans (h5.mono H4.out.2.size)))); clear h4 h5 hat10 hc10)
        go_upto_region 21 with (go_at_call 18; refine (HW.out.1 w5 H5.out.2.2).mono ?_; rintro a w6 ⟨Aa, ca, Al, cl, rfl, h5⟩; have H6 := Lib.hid (And.intro h5 (H5.out.2.2.trans (h5.mono H5.out.2.2.size))); clear h5)
        have cv1 := conv_any (P := Try.prog) Try.underlying34 Try.underlying5 Try.underlying9 (c := c9) L HW.out.2.2.2.1 (H4.out.1.below (H5.out.2.1.trans (H6.out.1.mono H5.out.2.1.size)) (Nat.le_refl _))
        have cv2 := conv_any (P := Try.prog) Try.underlying34 Try.underlying5 Try.underlying9 (c := c10) L HW.out.2.2.2.1 (H5.out.1.below H6.out.1 (Nat.le_refl _))
        obtain ⟨str, hstr⟩ : ∃ str, str = strOf L := ⟨_, rfl⟩
        rw [← hstr] at cv1 cv2
        clear hstr
        rcases hu' with ⟨rfl, hN0⟩ | ⟨rfl, hN1⟩
        · have hmn : min (1 : Int) (N : Int) = 0 := by omega
          have hlt1 : decide ((N : Int) < 1) = true := decide_eq_true (by omega)
          clear hN0
          go_wp2_with (first
            | (go_at_call 11; refine (HAW.out w7 H7.out).mono ?_; rintro a w8 ⟨rfl, hb⟩; have HB8 := Lib.hid hb; clear hb)
            | (go_at_call 19; refine (HRE.out.2.2 w6 H6.out.2).mono ?_; rintro a w7 ⟨rfl, h3, -⟩; obtain ⟨An, cn, k3, hq7⟩ := HW.out.2.1 w7 (H6.out.2.trans (h3.mono H6.out.2.size)); have H7 := Lib.hid (show Below w.heap.size w w7 from HW.out.2.2.1.trans ((H6.out.2.trans (h3.mono H6.out.2.size)).mono HW.out.2.2.1.size)); clear h3))
          go_ret
          exact ⟨rfl, HB8.out⟩
        · have hmn : min (1 : Int) (N : Int) = 1 := by omega
          have hlt1 : decide ((N : Int) < 1) = false := decide_eq_false (by omega)
          go_wp2_with (first
            | (go_at_call 11; refine (HAW.out w7 H7.out).mono ?_; rintro a w8 ⟨rfl, hb⟩; have HB8 := Lib.hid hb; clear hb)
            | (go_at_call 19; refine (HRE.out.2.2 w6 H6.out.2).mono ?_; rintro a w7 ⟨rfl, h3, -⟩; obtain ⟨An, cn, k3, hq7⟩ := HW.out.2.1 w7 (H6.out.2.trans (h3.mono H6.out.2.size)); have H7 := Lib.hid (show Below w.heap.size w w7 from HW.out.2.2.1.trans ((H6.out.2.trans (h3.mono H6.out.2.size)).mono HW.out.2.2.1.size)); clear h3))
          go_ret
          exact ⟨rfl, HB8.out⟩
end Go.Proofs.Ythffkbcjidbdaaa

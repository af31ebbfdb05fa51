/- The walk of the law DiskCrash. -/
import Derived.Test.YthffkbcjidbdaaaDpF
import Derived.Test.YthffkbcjidbdaaaRfY
namespace Go.Proofs.Ythffkbcjidbdaaa
open Go.RowKit Go.Maps
set_option maxRecDepth 100000

/-- The document's disk crashes, beside the program's. -/
theorem dc.ref {B : Nat} {w : World} {p q n : Nat} {M : RDisk} (h : DTwo B w p q M M n) (hn : n ≤ 40000) (A : Option Addr) (k c : Nat) (ps : List Int) (w1 : World) (hb : Below w.heap.size w w1) (hP : dk.Picks w1 A k c ps) :
    Calls Try.prog 21 #[.pointer (some ⟨q, 0, none⟩), .slice A k c] w1 fun e w' => ∃ z, e = .returned (.pointer (some ⟨z, 0, none⟩)) ∧ RefD w' z (M.crash ps) (dk.fresh w1 w') ∧ Below w1.heap.size w1 w' := by
  obtain ⟨F, G, h1, h2, h3, -⟩ := h
  have hs : M.safe.length + M.acts.length ≤ n := by
    obtain ⟨D, ι, m', -, -, -, -, -, -, h7⟩ := h1
    exact h7
  exact rf.Crash_any A k c ps q M G w1 (h2.below hb) h3 hP (by omega) (by omega)
/-- Both crashed disks, side by side; and the old ones as they were. -/
theorem dc.two {B : Nat} {w w1 w2 : World} {p q x y n : Nat} {M : RDisk} {ps : List Int} (h : DTwo B w p q M M n) (hB : B ≤ w.heap.size) (h1 : PDisk w1 x (M.crash ps) (dk.fresh w w1) n) (hb1 : Below w.heap.size w w1) (h2 : RefD w2 y (M.crash ps) (dk.fresh w1 w2)) (hb2 : Below w1.heap.size w1 w2) :
    DTwo B w2 x y (M.crash ps) (M.crash ps) n ∧ DTwo B w2 p q M M n ∧ Below B w w2 := by
  have hs1 := hb1.size
  have hbb : Below w.heap.size w w2 := hb1.trans (hb2.mono hs1)
  have hl := h1.up.2.2.1
  have hnow : (M.crash ps).now.length ≤ n := by
    obtain ⟨D, ι, m', -, -, -, -, -, h6, -⟩ := h1
    omega
  have hlen := rd.crashAll_len M (M.keptN ps) (M.restP ps)
  have hfl : (M.crash ps).files.length = (M.crash ps).now.length := hlen.1.trans hlen.2.symm
  refine ⟨⟨dk.fresh w w1, dk.fresh w1 w2, h1.below hb2, h2, h1.up.2.2.2, fun k hk => Nat.le_trans hB hk.1, fun k hk => Nat.le_trans hB (Nat.le_trans hs1 hk.1), fun k hk hg => ?_, ⟨hnow, Nat.zero_le _, by omega⟩, ⟨Int.le_refl _, Int.natCast_nonneg _⟩, Int.le_refl _, Int.natCast_nonneg _⟩, h.below hbb, hbb.mono hB⟩
  have h3 := hl k hk
  have h4 := hg.1
  omega
/-- Both disks show the same. -/
theorem pl.showsX {B : Nat} {w : World} {p q n : Nat} {M : RDisk} (h : DTwo B w p q M M n) (hn : n ≤ 900) (_ : B ≤ w.heap.size) :
    Calls Try.prog 15 #[.pointer (some ⟨p, 0, none⟩), .pointer (some ⟨q, 0, none⟩)] w fun e w' => e = .returned (.bool true) ∧ Below w.heap.size w w' := by
  obtain ⟨F, G, h1, h2, h3, -⟩ := h
  exact law4.shows_any p q n M F G w h1 h2 h3 hn
theorem dc.mine {B : Nat} {w : World} {p q n : Nat} {M : RDisk} (h : DTwo B w p q M M n) (hn : n ≤ 40000) (A : Option Addr) (k c : Nat) (ps : List Int) (hP : dk.Picks w A k c ps) :
    Calls Try.prog 20 #[.pointer (some ⟨p, 0, none⟩), .slice A k c] w fun e w' => ∃ q, e = .returned (.pointer (some ⟨q, 0, none⟩)) ∧ PDisk w' q (M.crash ps) (dk.fresh w w') n ∧ Below w.heap.size w w' := by
  obtain ⟨F, G, h1, -⟩ := h
  exact h1.crash hP (by omega)

set_option maxHeartbeats 8000000 in
theorem law4.crash (room : Int) (X : Option Addr) (q d : Nat) (xs : List DStep) (P : Option Addr) (np cp : Nat) (ps : List Int) (Y : Option Addr) (r e : Nat) (ys : List DStep) (Z : Option Addr) (nz cz : Nat) (zs : List Int) (w : World)
    (hx : xs.length = q ∧ q ≤ d ∧ d ≤ maxLen) (hatx : DSteps w X xs) (hp : ps.length = np ∧ np ≤ cp ∧ cp ≤ maxLen) (hatp : At w P np (fun j => .int .i64 (ps.getD j 0))) (hwp : ∀ x ∈ ps, (Lit.int .i64 x).wf = true)
    (hy : ys.length = r ∧ r ≤ e ∧ e ≤ maxLen) (haty : DSteps w Y ys) (hz : zs.length = nz ∧ nz ≤ cz ∧ cz ≤ maxLen) (hatz : At w Z nz (fun j => .int .i64 (zs.getD j 0))) (hwz : ∀ x ∈ zs, (Lit.int .i64 x).wf = true) :
    Calls Try.prog 4 #[.int .i64 room, .slice X q d, .slice P np cp, .slice Y r e, .slice Z nz cz] w fun a w' => a = .returned (.bool true) ∧ Below w.heap.size w w' := by
  have hsm1 := law4.small_any X q d xs w hx hatx
  have hsm2 : ∀ wx, Below w.heap.size w wx → Calls Try.prog 10 #[.slice Y r e] wx fun a w' => a = .returned (.bool (ds.small ys r)) ∧ Below wx.heap.size wx w' := fun wx hb => law4.small_any Y r e ys wx hy (haty.below hb (Nat.le_refl _))
  obtain ⟨hx1, hx2, hx3⟩ := hx
  obtain ⟨hy1, hy2, hy3⟩ := hy
  obtain ⟨hp1, hp2, hp3⟩ := hp
  obtain ⟨hz1, hz2, hz3⟩ := hz
  have hpk : dk.Picks w P np cp ps := ⟨hatp, hp1, hp2, hp3, fun x hx => wf_bd (hwp x hx)⟩
  have hpz : dk.Picks w Z nz cz zs := ⟨hatz, hz1, hz2, hz3, fun x hx => wf_bd (hwz x hx)⟩
  unfold maxLen at hx3 hy3 hp3 hz3
  clear hatp hp1 hwp hatz hz1 hwz
  have HX := Lib.hid (And.intro hatx hx1); clear hatx hx1
  have HYS := Lib.hid (And.intro haty hy1); clear haty hy1
  have hpick : ∀ wx, Below w.heap.size w wx → dk.Picks wx P np cp ps ∧ dk.Picks wx Z nz cz zs := fun wx h => ⟨hpk.chg (chg_of (P := fun _ => False) h) fun _ q => q.elim, hpz.chg (chg_of (P := fun _ => False) h) fun _ q => q.elim⟩
  have HPK := Lib.hid hpick; clear hpk hpz hpick
  have haw : ∀ wx, Below w.heap.size w wx → Calls Try.prog 11 #[] wx fun a w' => a = .returned (.bool true) ∧ Below w.heap.size w w' := fun wx h => by
    refine (law4.awake_any wx).mono ?_
    rintro a w' ⟨h1, h2⟩
    exact ⟨h1, h.trans (h2.mono h.size)⟩
  have HAW := Lib.hid haw; clear haw
  go_enter Try.func4, Try.ntmps4
  by_cases hs1 : ds.small xs q = true
  case neg =>
    rw [Bool.eq_false_iff.2 hs1] at hsm1
    have HSM1 := Lib.hid hsm1; clear hsm1 hs1 hsm2
    go_wp2_with (first
      | (go_at_call 11; refine (HAW.out w1 HB.out).mono ?_; rintro a w9 ⟨rfl, hb⟩; have HB9 := Lib.hid hb; clear hb)
      | (go_at_call 10; refine HSM1.out.mono ?_; rintro a w1 ⟨rfl, hb⟩; have HB := Lib.hid hb; clear hb))
    go_ret
    exact ⟨rfl, HB9.out⟩
  rw [hs1] at hsm1
  have hs1' : ds.sum xs q ≤ 1000 ∧ q ≤ 80 := of_decide_eq_true hs1
  obtain ⟨hs11, hs12⟩ := hs1'
  have HS1 := Lib.hid hs11; clear hs11 hs1
  have HSM1 := Lib.hid hsm1; clear hsm1
  by_cases hs2 : ds.small ys r = true
  case neg =>
    rw [Bool.eq_false_iff.2 hs2] at hsm2
    have HSM2 := Lib.hid hsm2; clear hsm2 hs2
    go_wp2_with (first
      | (go_at_call 11; refine (HAW.out w2 HB2.out).mono ?_; rintro a w9 ⟨rfl, hb⟩; have HB9 := Lib.hid hb; clear hb)
      | (go_at_call 10; refine (HSM2.out w1 HB.out).mono ?_; rintro a w2 ⟨rfl, hb⟩; have HB2 := Lib.hid (HB.out.trans (hb.mono HB.out.size)); clear hb)
      | (go_at_call 10; refine HSM1.out.mono ?_; rintro a w1 ⟨rfl, hb⟩; have HB := Lib.hid hb; clear hb))
    go_ret
    exact ⟨rfl, HB9.out⟩
  rw [hs2] at hsm2
  have hs2' : ds.sum ys r ≤ 1000 ∧ r ≤ 80 := of_decide_eq_true hs2
  obtain ⟨hs21, hs22⟩ := hs2'
  have HS2 := Lib.hid hs21; clear hs21 hs2
  have HSM2 := Lib.hid hsm2; clear hsm2
  by_cases hg1 : 60 < np
  · have g1 : decide (60 < (np : Int)) = true := decide_eq_true (by omega)
    go_wp2_with (first
      | (go_at_call 11; refine (HAW.out w2 HB2.out).mono ?_; rintro a w9 ⟨rfl, hb⟩; have HB9 := Lib.hid hb; clear hb)
      | (go_at_call 10; refine (HSM2.out w1 HB.out).mono ?_; rintro a w2 ⟨rfl, hb⟩; have HB2 := Lib.hid (HB.out.trans (hb.mono HB.out.size)); clear hb)
      | (go_at_call 10; refine HSM1.out.mono ?_; rintro a w1 ⟨rfl, hb⟩; have HB := Lib.hid hb; clear hb))
    go_ret
    exact ⟨rfl, HB9.out⟩
  have g1 : decide (60 < (np : Int)) = false := decide_eq_false (by omega)
  by_cases hg2 : 60 < nz
  · have g2 : decide (60 < (nz : Int)) = true := decide_eq_true (by omega)
    go_wp2_with (first
      | (go_at_call 11; refine (HAW.out w2 HB2.out).mono ?_; rintro a w9 ⟨rfl, hb⟩; have HB9 := Lib.hid hb; clear hb)
      | (go_at_call 10; refine (HSM2.out w1 HB.out).mono ?_; rintro a w2 ⟨rfl, hb⟩; have HB2 := Lib.hid (HB.out.trans (hb.mono HB.out.size)); clear hb)
      | (go_at_call 10; refine HSM1.out.mono ?_; rintro a w1 ⟨rfl, hb⟩; have HB := Lib.hid hb; clear hb))
    go_ret
    exact ⟨rfl, HB9.out⟩
  have g2 : decide (60 < (nz : Int)) = false := decide_eq_false (by omega)
  by_cases hg3 : room < 0
  · have g3 : decide (room < 0) = true := decide_eq_true (by omega)
    go_wp2_with (first
      | (go_at_call 11; refine (HAW.out w2 HB2.out).mono ?_; rintro a w9 ⟨rfl, hb⟩; have HB9 := Lib.hid hb; clear hb)
      | (go_at_call 10; refine (HSM2.out w1 HB.out).mono ?_; rintro a w2 ⟨rfl, hb⟩; have HB2 := Lib.hid (HB.out.trans (hb.mono HB.out.size)); clear hb)
      | (go_at_call 10; refine HSM1.out.mono ?_; rintro a w1 ⟨rfl, hb⟩; have HB := Lib.hid hb; clear hb))
    go_ret
    exact ⟨rfl, HB9.out⟩
  have g3 : decide (room < 0) = false := decide_eq_false (by omega)
  by_cases hg4 : 1099511627776 < room
  · have g4 : decide (1099511627776 < room) = true := decide_eq_true (by omega)
    go_wp2_with (first
      | (go_at_call 11; refine (HAW.out w2 HB2.out).mono ?_; rintro a w9 ⟨rfl, hb⟩; have HB9 := Lib.hid hb; clear hb)
      | (go_at_call 10; refine (HSM2.out w1 HB.out).mono ?_; rintro a w2 ⟨rfl, hb⟩; have HB2 := Lib.hid (HB.out.trans (hb.mono HB.out.size)); clear hb)
      | (go_at_call 10; refine HSM1.out.mono ?_; rintro a w1 ⟨rfl, hb⟩; have HB := Lib.hid hb; clear hb))
    go_ret
    exact ⟨rfl, HB9.out⟩
  have g4 : decide (1099511627776 < room) = false := decide_eq_false (by omega)
  have HR := Lib.hid (show 0 ≤ room ∧ room ≤ 1099511627776 by omega)
  clear hg3 hg4
  go_upto_region 8 with (first
    | (go_at_call 13; refine (rf.New_any room w3 HR.out).mono ?_; rintro a w4 ⟨qq, rfl, h1, h2⟩; have H4 := Lib.hid (show DTwo w.heap.size w4 p qq (RDisk.new room) (RDisk.new room) 0 ∧ Below w.heap.size w w4 from ⟨pl.two HB2.out.size HR.out H3.out.1 h1 H3.out.2 h2, HB2.out.trans ((H3.out.2.trans (h2.mono H3.out.2.size)).mono HB2.out.size)⟩); clear h1 h2)
    | (go_at_call 12; refine (PDisk.new (room := room) w2 HR.out).mono ?_; rintro a w3 ⟨p, rfl, h1, h2⟩; have H3 := Lib.hid (And.intro h1 h2); clear h1 h2)
    | (go_at_call 10; refine (HSM2.out w1 HB.out).mono ?_; rintro a w2 ⟨rfl, hb⟩; have HB2 := Lib.hid (HB.out.trans (hb.mono HB.out.size)); clear hb)
    | (go_at_call 10; refine HSM1.out.mono ?_; rintro a w1 ⟨rfl, hb⟩; have HB := Lib.hid hb; clear hb))
  clear g1 g2 g3 g4 HSM1 HSM2 hg1 hg2
  have hinv : ∃ M, DTwo w.heap.size w4 p qq M M (2 * 0) ∧ Below w.heap.size w w4 := ⟨_, H4.out⟩
  have HINV := Lib.hid hinv; clear hinv H3 H4 HB HB2
  go_loopw [15] (fun i wx => ∃ (j : Nat), j ≤ q ∧ i = .int .i64 (j : Int) ∧ ∃ M, DTwo w.heap.size wx p qq M M (2 * j) ∧ Below w.heap.size w wx) (fun i _ => q - (intOf i).toNat)
  case atStart => exact ⟨0, by omega, rfl, HINV.out⟩
  case round =>
    obtain ⟨j, hj, rfl, M, hd, hbw⟩ := hrel
    clear HINV
    by_cases hlt : j < q
    · have hlt' : (j : Int) < (q : Int) := by omega
      have hjx : j < xs.length := by rw [HX.out.2]; exact hlt
      have hsum := ds.sum_succ xs j hjx
      have hle := ds.sum_mono xs (show j + 1 ≤ q from hlt)
      have h1000 := HS1.out
      have hat' := HX.out.1.at' j hjx
      obtain ⟨⟨kind, sa, st, bs, nn⟩, hy⟩ : ∃ y, xs[j] = y := ⟨_, rfl⟩
      rw [hy] at hsum hat'
      clear hy
      dsimp only at hat'
      rw [show (DStep.mk kind sa st bs nn).weight = sa.size + st.size + bs.length + 1 from rfl] at hsum
      obtain ⟨b, off, rfl, hbb, V, cV, c0, c1, c2, c3, c4, hatV, -, hb256, hsa, hst, -, hnb⟩ := hat'
      obtain ⟨m, hm⟩ : ∃ m, m = bs.length := ⟨_, rfl⟩
      rw [← hm] at c3 hsum hatV
      have hVB : ∀ g o2, V = some ⟨g, o2, none⟩ → 0 < m → g < w.heap.size := fun g o2 ev h0 => by
        obtain ⟨b2, o3, e2, hb2, -⟩ := hatV h0
        rw [ev] at e2
        obtain rfl : g = b2 := by simpa using congrArg (fun o => o.map Addr.block) e2
        exact hb2
      have d0 := (hbw.cell (p := ⟨b, off + j * 5, none⟩) hbb).trans c0
      have d1 := (hbw.cell (p := ⟨b, off + j * 5 + 1, none⟩) hbb).trans c1
      have d2 := (hbw.cell (p := ⟨b, off + j * 5 + 2, none⟩) hbb).trans c2
      have d3 := (hbw.cell (p := ⟨b, off + j * 5 + 3, none⟩) hbb).trans c3
      have d4 := (hbw.cell (p := ⟨b, off + j * 5 + 4, none⟩) hbb).trans c4
      clear c0 c1 c2 c3 c4
      have hm4 : m ≤ 4294967296 := by omega
      have hdoes := law4.does_any kind sa st bs nn V m cV w.heap.size p qq M M (2 * j) wr hd hbw.size (by omega) (hatV.below hbw (Nat.le_refl _)) hm.symm hVB hm4 hb256 hsa hst hnb
      obtain ⟨M', hM'⟩ : ∃ M', M' = M.step ⟨kind, sa, st, bs, nn⟩ := ⟨_, rfl⟩
      obtain ⟨E, hE⟩ : ∃ E, E = M.stepE ⟨kind, sa, st, bs, nn⟩ := ⟨_, rfl⟩
      rw [← hM', ← hE] at hdoes
      have HD := Lib.hid (And.intro hdoes hbw)
      clear hdoes hsum hle h1000 hatV hb256 hsa hst hnb hm hVB hd hbw hm4 hM' hE
      go_wp2_with (go_at_call 14; refine HD.out.1.mono ?_; rintro a wd ⟨rfl, h1, h2⟩; have HZ := Lib.hid (And.intro h1 (HD.out.2.trans h2)); clear h1 h2)
      go_roundw
      case rel => exact ⟨j + 1, by omega, by go_num, M', HZ.out.1, HZ.out.2⟩
      case measure => simp [intOf]; omega
    · obtain rfl : j = q := by omega
      have HDT := Lib.hid (And.intro hd hbw); clear hd hbw hlt
      go_upto_region 17 with (first
        | (go_at_call 15; refine (pl.showsX H7.out.2.1 (by omega) H7.out.2.2.size).mono ?_; rintro a w8 ⟨rfl, h1⟩; have H8 := Lib.hid (show DTwo w.heap.size w8 x y (M.crash ps) (M.crash ps) (2 * j + 2 * 0) ∧ Below w.heap.size w w8 from ⟨H7.out.1.below h1, H7.out.2.2.trans (h1.mono H7.out.2.2.size)⟩); clear h1)
        | (go_at_call 15; refine (pl.showsX H6.out.1 (by omega) H6.out.2.2.size).mono ?_; rintro a w7 ⟨rfl, h1⟩; have H7 := Lib.hid (And.intro (H6.out.1.below h1) (And.intro (H6.out.2.1.below h1) (H6.out.2.2.trans (h1.mono H6.out.2.2.size)))); clear h1)
        | (go_at_call 21; refine (dc.ref HDT.out.1 (by omega) P np cp ps w5 H5.out.2 (HPK.out w5 (HDT.out.2.trans (H5.out.2.mono HDT.out.2.size))).1).mono ?_; rintro a w6 ⟨y, rfl, h1, h2⟩; have h3 := dc.two HDT.out.1 HDT.out.2.size H5.out.1 H5.out.2 h1 h2; have H6 := Lib.hid (And.intro h3.1 (And.intro h3.2.1 (HDT.out.2.trans h3.2.2))); clear h1 h2 h3)
        | (go_at_call 20; refine (dc.mine HDT.out.1 (by omega) P np cp ps (HPK.out wr HDT.out.2).1).mono ?_; rintro a w5 ⟨x, rfl, h1, h2⟩; have H5 := Lib.hid (And.intro h1 h2); clear h1 h2))
      have hinv : ∃ M', DTwo w.heap.size w8 x y M' M' (2 * j + 2 * 0) ∧ Below w.heap.size w w8 := ⟨_, H8.out⟩
      have HINV := Lib.hid hinv; clear hinv H5 H6 H7 H8 HDT
      obtain ⟨n1, hn1⟩ : ∃ n1, n1 = 2 * j := ⟨_, rfl⟩
      have hn160 : n1 ≤ 160 := by omega
      rw [← hn1] at HINV
      clear hn1
      go_loopw [20] (fun i wx => ∃ (j : Nat), j ≤ r ∧ i = .int .i64 (j : Int) ∧ ∃ M, DTwo w.heap.size wx x y M M (n1 + 2 * j) ∧ Below w.heap.size w wx) (fun i _ => r - (intOf i).toNat)
      case atStart => exact ⟨0, by omega, rfl, HINV.out⟩
      case round =>
        obtain ⟨i, hi, rfl, M2, hd, hbw⟩ := hrel
        clear HINV
        by_cases hlt : i < r
        · have hlt' : (i : Int) < (r : Int) := by omega
          have hjx : i < ys.length := by rw [HYS.out.2]; exact hlt
          have hsum := ds.sum_succ ys i hjx
          have hle := ds.sum_mono ys (show i + 1 ≤ r from hlt)
          have h1000 := HS2.out
          have hat' := HYS.out.1.at' i hjx
          obtain ⟨⟨kind, sa, st, bs, nn⟩, hy⟩ : ∃ y, ys[i] = y := ⟨_, rfl⟩
          rw [hy] at hsum hat'
          clear hy
          dsimp only at hat'
          rw [show (DStep.mk kind sa st bs nn).weight = sa.size + st.size + bs.length + 1 from rfl] at hsum
          obtain ⟨b, off, rfl, hbb, V, cV, c0, c1, c2, c3, c4, hatV, -, hb256, hsa, hst, -, hnb⟩ := hat'
          obtain ⟨m, hm⟩ : ∃ m, m = bs.length := ⟨_, rfl⟩
          rw [← hm] at c3 hsum hatV
          have hVB : ∀ g o2, V = some ⟨g, o2, none⟩ → 0 < m → g < w.heap.size := fun g o2 ev h0 => by
            obtain ⟨b2, o3, e2, hb2, -⟩ := hatV h0
            rw [ev] at e2
            obtain rfl : g = b2 := by simpa using congrArg (fun o => o.map Addr.block) e2
            exact hb2
          have d0 := (hbw.cell (p := ⟨b, off + i * 5, none⟩) hbb).trans c0
          have d1 := (hbw.cell (p := ⟨b, off + i * 5 + 1, none⟩) hbb).trans c1
          have d2 := (hbw.cell (p := ⟨b, off + i * 5 + 2, none⟩) hbb).trans c2
          have d3 := (hbw.cell (p := ⟨b, off + i * 5 + 3, none⟩) hbb).trans c3
          have d4 := (hbw.cell (p := ⟨b, off + i * 5 + 4, none⟩) hbb).trans c4
          clear c0 c1 c2 c3 c4
          have hm4 : m ≤ 4294967296 := by omega
          have hdoes := law4.does_any kind sa st bs nn V m cV w.heap.size x y M2 M2 (n1 + 2 * i) wr hd hbw.size (by omega) (hatV.below hbw (Nat.le_refl _)) hm.symm hVB hm4 hb256 hsa hst hnb
          obtain ⟨M', hM'⟩ : ∃ M', M' = M2.step ⟨kind, sa, st, bs, nn⟩ := ⟨_, rfl⟩
          obtain ⟨E, hE⟩ : ∃ E, E = M2.stepE ⟨kind, sa, st, bs, nn⟩ := ⟨_, rfl⟩
          rw [← hM', ← hE] at hdoes
          have HD := Lib.hid (And.intro hdoes hbw)
          clear hdoes hsum hle h1000 hatV hb256 hsa hst hnb hm hVB hd hbw hm4 hM' hE
          go_wp2_with (go_at_call 14; refine HD.out.1.mono ?_; rintro a wd ⟨rfl, h1, h2⟩; have HZ := Lib.hid (And.intro h1 (HD.out.2.trans h2)); clear h1 h2)
          go_roundw
          case rel => exact ⟨i + 1, by omega, by go_num, M', HZ.out.1, HZ.out.2⟩
          case measure => simp [intOf]; omega
        · obtain rfl : i = r := by omega
          have HDT := Lib.hid (And.intro hd hbw); clear hd hbw hlt
          go_wp2_with (first
            | (go_at_call 11; refine (HAW.out w8 H8.out).mono ?_; rintro a w9 ⟨rfl, hb⟩; have HB9 := Lib.hid hb; clear hb)
            | (go_at_call 15; refine (pl.showsX H7.out.1 (by omega) H7.out.2.size).mono ?_; rintro a w8 ⟨rfl, h1⟩; have H8 := Lib.hid (H7.out.2.trans (h1.mono H7.out.2.size)); clear h1)
            | (go_at_call 15; refine (pl.showsX H6.out.1 (by omega) H6.out.2.2.size).mono ?_; rintro a w7 ⟨rfl, h1⟩; have H7 := Lib.hid (And.intro (H6.out.2.1.below h1) (H6.out.2.2.trans (h1.mono H6.out.2.2.size))); clear h1)
            | (go_at_call 21; refine (dc.ref HDT.out.1 (by omega) Z nz cz zs w5 H5.out.2 (HPK.out w5 (HDT.out.2.trans (H5.out.2.mono HDT.out.2.size))).2).mono ?_; rintro a w6 ⟨y2, rfl, h1, h2⟩; have h3 := dc.two HDT.out.1 HDT.out.2.size H5.out.1 H5.out.2 h1 h2; have H6 := Lib.hid (And.intro h3.1 (And.intro h3.2.1 (HDT.out.2.trans h3.2.2))); clear h1 h2 h3)
            | (go_at_call 20; refine (dc.mine HDT.out.1 (by omega) Z nz cz zs (HPK.out wr HDT.out.2).2).mono ?_; rintro a w5 ⟨x2, rfl, h1, h2⟩; have H5 := Lib.hid (And.intro h1 h2); clear h1 h2))
          go_ret
          exact ⟨rfl, HB9.out⟩
end Go.Proofs.Ythffkbcjidbdaaa

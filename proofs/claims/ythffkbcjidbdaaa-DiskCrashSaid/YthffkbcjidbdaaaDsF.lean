/- The walk of the law DiskSafe. -/
import Derived.Test.YthffkbcjidbdaaaDsX
import Derived.Test.YthffkbcjidbdaaaDsE
import Derived.Test.YthffkbcjidbdaaaDmJ
namespace Go.Proofs.Ythffkbcjidbdaaa
open Go.RowKit Go.Maps
set_option maxRecDepth 100000

theorem sf.call1 (L : List Nat) (hl : L.length ≤ 300) (hb : ∀ x ∈ L, x < 256) (A : Option Addr) (c p : Nat) (w : World) (F : Nat → Prop) (h : PDisk w p (RDisk.new 1048576) F 0) (hat : At w A L.length (byteAt L)) (hX : ∀ g off, A = some ⟨g, off, none⟩ → 0 < L.length → ¬ F g) :
    Calls Try.prog 22 #[.pointer (some ⟨p, 0, none⟩), .string sf.S, .slice A L.length c] w fun e w' => e = .returned (.int .i64 0) ∧ PDisk w' p (sf.M1 L) (dk.grow F w w') 2 ∧ Chg w w' F := by
  have := h.append (s := sf.S) (c := c) (dk.ok_le sf.ok) (by unfold RDisk.small RDisk.new; dsimp only; omega) hat rfl hb hX (by omega) (by omega)
  rw [(sf.step1 L hl).1, (sf.step1 L hl).2] at this
  exact this
theorem sf.call2 (L : List Nat) (p : Nat) (w : World) (F : Nat → Prop) (h : PDisk w p (sf.M1 L) F 2) :
    Calls Try.prog 23 #[.pointer (some ⟨p, 0, none⟩), .string sf.S] w fun e w' => e = .returned (.int .i64 0) ∧ PDisk w' p (sf.M2 L) (dk.grow F w w') 2 ∧ Chg w w' F := by
  have := h.sync (s := sf.S) (dk.ok_le sf.ok) (by unfold RDisk.small sf.M1; dsimp only; omega)
  rw [(sf.step2 L).1, (sf.step2 L).2] at this
  exact this
theorem sf.call3 (L : List Nat) (p : Nat) (w : World) (F : Nat → Prop) (h : PDisk w p (sf.M2 L) F 2) :
    Calls Try.prog 24 #[.pointer (some ⟨p, 0, none⟩)] w fun e w' => e = .returned (.int .i64 0) ∧ PDisk w' p (sf.M3 L) (dk.grow F w w') 2 ∧ Chg w w' F := by
  have := h.syncDir (by unfold RDisk.small sf.M2; dsimp only; omega) (by omega)
  rw [(sf.step3 L).1, (sf.step3 L).2] at this
  exact this
/-- Behind New of the document's: both disks, side by side. -/
theorem sf.two {B : Nat} {w w' : World} {p q : Nat} {L : List Nat} {cut : Int} {F : Nat → Prop} (h : PDisk w p ((sf.M3 L).cutAt cut) F 2) (hF : ∀ k, F k → B ≤ k) (hB : B ≤ w.heap.size) (hr : RefD w' q (RDisk.new 1048576) (dk.fresh w w')) (hb : Below w.heap.size w w') : DTwo B w' p q ((sf.M3 L).cutAt cut) (RDisk.new 1048576) 4 := by
  have hl := h.up.2.2.1
  refine ⟨F, dk.fresh w w', (h.below hb).mono (by omega), hr, RDisk.new_wf (by omega), hF, fun k hk => Nat.le_trans hB hk.1, fun k hk hg => ?_, ⟨Nat.zero_le _, Nat.zero_le _, Nat.zero_le _⟩, ⟨by show (0 : Int) ≤ 3; decide, by show (3 : Int) ≤ 4; decide⟩, by show (0 : Int) ≤ 0; decide, by show (0 : Int) ≤ 4; decide⟩
  have h1 := hl k hk
  have h2 := hg.1
  omega
/-- What the law keeps, step by step. -/
def sf.Inv (w : World) (p q : Nat) (L : List Nat) (xs : List DStep) (j : Nat) (wx : World) : Prop :=
  ∃ M Q : RDisk, DTwo w.heap.size wx p q M Q (4 + 2 * j) ∧ SafeIn M L (300 + ds.sum xs j) (1 + j) ∧ Below w.heap.size w wx
theorem sf.inv_mono {w wx : World} {p q : Nat} {L : List Nat} {xs : List DStep} {j : Nat} (h : sf.Inv w p q L xs j wx) : sf.Inv w p q L xs (j + 1) wx := by
  obtain ⟨M, Q, ⟨F, G, h1, h2, h3, h4, h5, h6, ⟨a1, a2, a3⟩, ⟨a4, a5⟩, a6, a7⟩, h8, h9⟩ := h
  exact ⟨M, Q, ⟨F, G, h1.mono (by omega), h2, h3, h4, h5, h6, ⟨by omega, by omega, by omega⟩, ⟨by omega, by omega⟩, by omega, by omega⟩, h8.mono (by have := ds.sum_mono xs (show j ≤ j + 1 from Nat.le_succ j); omega) (by omega), h9⟩
theorem sf.inv_below {w wx wy : World} {p q : Nat} {L : List Nat} {xs : List DStep} {j : Nat} (h : sf.Inv w p q L xs j wx) (hb : Below wx.heap.size wx wy) : sf.Inv w p q L xs j wy := by
  obtain ⟨M, Q, h1, h2, h3⟩ := h
  exact ⟨M, Q, h1.below hb, h2, h3.trans (hb.mono h3.size)⟩

theorem sf.list : sf.S.toList = [115, 97, 102, 101] := by rw [ByteArray.toList_eq]; rfl
theorem sf.is {s : ByteArray} (h : s = sf.S) : s.toList = [115, 97, 102, 101] ∧ (s.toList == [115, 97, 102, 101]) = true := by rw [h, sf.list]; exact ⟨rfl, rfl⟩
theorem sf.no {s : ByteArray} (h : s ≠ sf.S) : ¬ s.toList = [115, 97, 102, 101] ∧ (s.toList == [115, 97, 102, 101]) = false := by
  have := dk.str_ne h
  rw [sf.list] at this
  exact ⟨beq_eq_false_iff_ne.1 this, this⟩
set_option maxHeartbeats 8000000 in
theorem law4.safe (A : Option Addr) (n c : Nat) (z : List Int) (X : Option Addr) (q d : Nat) (xs : List DStep) (cut : Int) (Y : Option Addr) (r e : Nat) (ps : List Int) (w : World) (hz : z.length = n ∧ n ≤ c ∧ c ≤ maxLen) (hatz : At w A n (fun j => .int .u8 (z.getD j 0))) (hwf : ∀ x ∈ z, (Lit.int .u8 x).wf = true)
    (hx : xs.length = q ∧ q ≤ d ∧ d ≤ maxLen) (hatx : DSteps w X xs) (hcut : -9223372036854775808 ≤ cut ∧ cut ≤ 9223372036854775807)
    (hp : ps.length = r ∧ r ≤ e ∧ e ≤ maxLen) (hatp : At w Y r (fun j => .int .i64 (ps.getD j 0))) (hwp : ∀ x ∈ ps, (Lit.int .i64 x).wf = true) :
    Calls Try.prog 5 #[.slice A n c, .slice X q d, .int .i64 cut, .slice Y r e] w fun a w' => a = .returned (.bool true) ∧ Below w.heap.size w w' := by
  have hsml := law4.small_any X q d xs w hx hatx
  obtain ⟨hz1, hnc, hcm⟩ := hz
  unfold maxLen at hcm
  obtain ⟨L, hL1, hL2, hL3⟩ := ints_list hatz hz1 hwf
  obtain ⟨hx1, hx2, hx3⟩ := hx
  unfold maxLen at hx3
  obtain ⟨hp1, hp2, hp3⟩ := hp
  have hpk : dk.Picks w Y r e ps := ⟨hatp, hp1, hp2, hp3, fun x hx => wf_bd (hwp x hx)⟩
  unfold maxLen at hp3
  clear hatz hz1 hwf hatp hp1 hwp
  have HA := Lib.hid (And.intro hL1 (And.intro hL2 hL3)); clear hL1 hL2 hL3
  have HX := Lib.hid (And.intro hatx hx1); clear hatx hx1
  have hpick : ∀ wx, Below w.heap.size w wx → dk.Picks wx Y r e ps := fun wx h => hpk.chg (chg_of (P := fun _ => False) h) fun _ q => q.elim
  have HPK := Lib.hid hpick; clear hpk hpick
  have haw : ∀ wx, Below w.heap.size w wx → Calls Try.prog 11 #[] wx fun a w' => a = .returned (.bool true) ∧ Below w.heap.size w w' := fun wx h => by
    refine (law4.awake_any wx).mono ?_
    rintro a w' ⟨h1, h2⟩
    exact ⟨h1, h.trans (h2.mono h.size)⟩
  have HAW := Lib.hid haw; clear haw
  have HCUT := Lib.hid hcut; clear hcut
  go_enter Try.func5, Try.ntmps5
  by_cases hsm : ds.small xs q = true
  case neg =>
    rw [Bool.eq_false_iff.2 hsm] at hsml
    have HSML := Lib.hid hsml; clear hsml hsm
    go_wp2_with (first
      | (go_at_call 11; refine (HAW.out w1 HB.out).mono ?_; rintro a w2 ⟨rfl, hb⟩; have HB2 := Lib.hid hb; clear hb)
      | (go_at_call 10; refine HSML.out.mono ?_; rintro a w1 ⟨rfl, hb⟩; have HB := Lib.hid hb; clear hb))
    go_ret
    exact ⟨rfl, HB2.out⟩
  rw [hsm] at hsml
  have hsm' : ds.sum xs q ≤ 1000 ∧ q ≤ 80 := of_decide_eq_true hsm
  obtain ⟨hs1, hs2⟩ := hsm'
  have HS1 := Lib.hid hs1; clear hs1 hsm
  have HSML := Lib.hid hsml; clear hsml
  by_cases h1 : 300 < n
  · have g1 : decide (300 < (n : Int)) = true := decide_eq_true (by omega)
    go_wp2_with (first
      | (go_at_call 11; refine (HAW.out w1 HB.out).mono ?_; rintro a w2 ⟨rfl, hb⟩; have HB2 := Lib.hid hb; clear hb)
      | (go_at_call 10; refine HSML.out.mono ?_; rintro a w1 ⟨rfl, hb⟩; have HB := Lib.hid hb; clear hb))
    go_ret
    exact ⟨rfl, HB2.out⟩
  have g1 : decide (300 < (n : Int)) = false := decide_eq_false (by omega)
  by_cases h2 : 60 < r
  · have g2 : decide (60 < (r : Int)) = true := decide_eq_true (by omega)
    go_wp2_with (first
      | (go_at_call 11; refine (HAW.out w1 HB.out).mono ?_; rintro a w2 ⟨rfl, hb⟩; have HB2 := Lib.hid hb; clear hb)
      | (go_at_call 10; refine HSML.out.mono ?_; rintro a w1 ⟨rfl, hb⟩; have HB := Lib.hid hb; clear hb))
    go_ret
    exact ⟨rfl, HB2.out⟩
  have g2 : decide (60 < (r : Int)) = false := decide_eq_false (by omega)
  by_cases h3 : cut < 0
  · have g3 : decide (cut < 0) = true := decide_eq_true h3
    go_wp2_with (first
      | (go_at_call 11; refine (HAW.out w1 HB.out).mono ?_; rintro a w2 ⟨rfl, hb⟩; have HB2 := Lib.hid hb; clear hb)
      | (go_at_call 10; refine HSML.out.mono ?_; rintro a w1 ⟨rfl, hb⟩; have HB := Lib.hid hb; clear hb))
    go_ret
    exact ⟨rfl, HB2.out⟩
  have g3 : decide (cut < 0) = false := decide_eq_false h3
  obtain ⟨hLl, hLb⟩ := HA.out.2
  have hn3 : n ≤ 300 := by omega
  subst hLl
  have HLB := Lib.hid hLb; clear hLb
  go_upto_region 6 with (first
    | (go_at_call 12; refine (PDisk.new (room := 1048576) w1 (by omega)).mono ?_; rintro a w2 ⟨p, rfl, h1, h2⟩; have H2 := Lib.hid (And.intro h1 (show Below w.heap.size w w2 ∧ ∀ k, dk.fresh w1 w2 k → w.heap.size ≤ k from ⟨HB.out.trans (h2.mono HB.out.size), fun k hk => Nat.le_trans HB.out.size hk.1⟩)); clear h1 h2)
    | (go_at_call 10; refine HSML.out.mono ?_; rintro a w1 ⟨rfl, hb⟩; have HB := Lib.hid hb; clear hb))
  clear g1 g2 g3 HSML h1 h2
  go_upto_region 11 with (first
    | (go_at_call 13; refine (rf.New_any 1048576 w6 (by omega)).mono ?_; rintro a w7 ⟨qq, rfl, h1, h2⟩; have H7 := Lib.hid (And.intro (sf.two H6.out HB6.out.2 HB6.out.1.size h1 h2) (HB6.out.1.trans (h2.mono HB6.out.1.size))); clear h1 h2)
    | (go_at_call 25; refine (H5.out.cut HCUT.out).mono ?_; rintro a w6 ⟨rfl, h1, h2⟩; have HB6 := Lib.hid (show Below w.heap.size w w6 ∧ _ from ⟨(act_on rfl HB5.out.1 HB5.out.2 h2).1, HB5.out.2⟩); have H6 := Lib.hid h1; clear h1 h2)
    | (go_at_call 24; refine (sf.call3 L p w4 _ H4.out).mono ?_; rintro a w5 ⟨rfl, h1, h2⟩; have HB5 := Lib.hid (act_on rfl HB4.out.1 HB4.out.2 h2); have H5 := Lib.hid h1; clear h1 h2)
    | (go_at_call 23; refine (sf.call2 L p w3 _ H3.out).mono ?_; rintro a w4 ⟨rfl, h1, h2⟩; have HB4 := Lib.hid (act_on rfl HB3.out.1 HB3.out.2 h2); have H4 := Lib.hid h1; clear h1 h2)
    | (go_at_call 22; refine (sf.call1 L hn3 HLB.out A c p w2 _ H2.out.1 (HA.out.1.below H2.out.2.1 (Nat.le_refl _)) (HA.out.1.apart fun k hk => H2.out.2.2 k hk)).mono ?_; rintro a w3 ⟨rfl, h1, h2⟩; have HB3 := Lib.hid (act_on rfl H2.out.2.1 H2.out.2.2 h2); have H3 := Lib.hid h1; clear h1 h2))
  have hinv : sf.Inv w p qq L xs 0 w7 := ⟨_, _, H7.out.1, (sf.begin L hn3 cut).mono (by omega) (by omega), H7.out.2⟩
  have HINV := Lib.hid hinv; clear hinv H2 HB3 H3 HB4 H4 HB5 H5 HB6 H6 HB
  go_loopw [13] (fun i wx => ∃ (j : Nat), j ≤ q ∧ i = .int .i64 (j : Int) ∧ sf.Inv w p qq L xs j wx) (fun i _ => q - (intOf i).toNat)
  case atStart => exact ⟨0, by omega, rfl, HINV.out⟩
  case round =>
    obtain ⟨j, hj, rfl, hinv⟩ := hrel
    clear HINV H7
    have HI := Lib.hid hinv; clear hinv
    by_cases hlt : j < q
    · have hlt' : (j : Int) < (q : Int) := by omega
      have hjx : j < xs.length := by rw [HX.out.2]; exact hlt
      have hsum := ds.sum_succ xs j hjx
      have hle := ds.sum_mono xs (show j + 1 ≤ q from hlt)
      have h1000 := HS1.out
      have hat' := HX.out.1.at' j hjx
      obtain ⟨⟨kind, sa, st, bs, nn⟩, hy⟩ : ∃ y, xs[j] = y := ⟨_, rfl⟩
      rw [hy] at hsum hat'
      clear hy
      dsimp only at hat'
      rw [show (DStep.mk kind sa st bs nn).weight = sa.size + st.size + bs.length + 1 from rfl] at hsum
      obtain ⟨b, off, rfl, hbb, V, cV, c0, c1, c2, c3, c4, hatV, -, hb256, hsa, hst, -, hnb⟩ := hat'
      obtain ⟨m, hm⟩ : ∃ m, m = bs.length := ⟨_, rfl⟩
      rw [← hm] at c3 hsum hatV
      have hVB : ∀ g o2, V = some ⟨g, o2, none⟩ → 0 < m → g < w.heap.size := fun g o2 ev h0 => by
        obtain ⟨b2, o3, e2, hb2, -⟩ := hatV h0
        rw [ev] at e2
        obtain rfl : g = b2 := by simpa using congrArg (fun o => o.map Addr.block) e2
        exact hb2
      obtain ⟨M, Q, hd, hsf, hbw⟩ := HI.out
      have d0 := (hbw.cell (p := ⟨b, off + j * 5, none⟩) hbb).trans c0
      have d1 := (hbw.cell (p := ⟨b, off + j * 5 + 1, none⟩) hbb).trans c1
      have d2 := (hbw.cell (p := ⟨b, off + j * 5 + 2, none⟩) hbb).trans c2
      have d3 := (hbw.cell (p := ⟨b, off + j * 5 + 3, none⟩) hbb).trans c3
      have d4 := (hbw.cell (p := ⟨b, off + j * 5 + 4, none⟩) hbb).trans c4
      clear c0 c1 c2 c3 c4
      have hMw := hd.mine.choose_spec.2.2.1
      have hnext : ∀ wx, DTwo w.heap.size wx p qq (M.step ⟨kind, sa, st, bs, nn⟩) (Q.step ⟨kind, sa, st, bs, nn⟩) (4 + 2 * j + 2) → Below w.heap.size w wx → sa ≠ sf.S → st ≠ sf.S → kind ≠ 7 → sf.Inv w p qq L xs (j + 1) wx := fun wx q1 q2 q3 q4 q5 =>
        ⟨_, _, q1, (hsf.step hMw q3 q4 q5).mono (by show 300 + ds.sum xs j + bs.length ≤ 300 + ds.sum xs (j + 1); omega) (by omega), q2⟩
      have hm4 : m ≤ 4294967296 := by omega
      obtain ⟨ws, hws⟩ : ∃ ws, ws = wr.alloc (.cells #[.int .i64 kind, .string sa, .string st, .slice V m cV, .int .i64 nn] 36) := ⟨_, rfl⟩
      have hbs : Blk ws wr.heap.size 36 #[.int .i64 kind, .string sa, .string st, .slice V m cV, .int .i64 nn] := by rw [hws]; exact Blk.new _ _ _
      have hbws : Below wr.heap.size wr ws := by rw [hws]; exact (Below.refl _ _).alloc (Nat.le_refl _) _
      have hdoes := law4.does_any kind sa st bs nn V m cV w.heap.size p qq M Q (4 + 2 * j) ws (hd.below hbws) (Nat.le_trans hbw.size hbws.size) (by omega) (hatV.below (hbw.trans (hbws.mono hbw.size)) (Nat.le_refl _)) hm.symm hVB hm4 hb256 hsa hst hnb
      have hskip : sf.Inv w p qq L xs (j + 1) ws := sf.inv_below (sf.inv_mono HI.out) hbws
      have hin : Below w.heap.size w ws := hbw.trans (hbws.mono hbw.size)
      have k0 : ws.cell? ⟨wr.heap.size, 0, none⟩ = some (.int .i64 kind) := hbs.cell 0 rfl
      have k1 : ws.cell? ⟨wr.heap.size, 1, none⟩ = some (.string sa) := hbs.cell 1 rfl
      have k2 : ws.cell? ⟨wr.heap.size, 2, none⟩ = some (.string st) := hbs.cell 2 rfl
      have k3 : ws.cell? ⟨wr.heap.size, 3, none⟩ = some (.slice V m cV) := hbs.cell 3 rfl
      have k4 : ws.cell? ⟨wr.heap.size, 4, none⟩ = some (.int .i64 nn) := hbs.cell 4 rfl
      have HWS := Lib.hid hws
      have HD := Lib.hid (And.intro hdoes (And.intro hskip (And.intro hnext hin)))
      clear hws hdoes hskip hnext hin hsum hle h1000 hatV hb256 hsa hst hnb hm hVB hd hsf hbw hMw hbws hbs hm4 HI
      go_upto_region 14 with fail
      rw [← HWS.out]
      clear d0 d1 d2 d3 d4
      by_cases hA : sa = sf.S
      · obtain ⟨e1, f1⟩ := sf.is hA
        clear hA
        go_wp2_with fail
        go_roundw
        case rel => exact ⟨j + 1, by omega, by go_num, HD.out.2.1⟩
        case measure => simp [intOf]; omega
      · obtain ⟨e1, f1⟩ := sf.no hA
        have HNA := Lib.hid hA; clear hA
        by_cases hT : st = sf.S
        · obtain ⟨e2, f2⟩ := sf.is hT
          clear hT
          go_wp2_with fail
          go_roundw
          case rel => exact ⟨j + 1, by omega, by go_num, HD.out.2.1⟩
          case measure => simp [intOf]; omega
        · obtain ⟨e2, f2⟩ := sf.no hT
          have HNT := Lib.hid hT; clear hT
          by_cases h7 : kind = 7
          · subst h7
            go_wp2_with fail
            go_roundw
            case rel => exact ⟨j + 1, by omega, by go_num, HD.out.2.1⟩
            case measure => simp [intOf]; omega
          · have HN7 := Lib.hid h7
            go_wp2_with (go_at_call 14; refine HD.out.1.mono ?_; rintro a wd ⟨rfl, h1, h2⟩; have HZ := Lib.hid (HD.out.2.2.1 wd h1 (HD.out.2.2.2.trans h2) HNA.out HNT.out HN7.out); clear h1 h2)
            go_roundw
            case rel => exact ⟨j + 1, by omega, by go_num, HZ.out⟩
            case measure => simp [intOf]; omega
    · obtain rfl : j = q := by omega
      obtain ⟨M, Q, hd, hsf, hbw⟩ := HI.out
      obtain ⟨F, hpd, -, -, ho1, ho2⟩ := hd.mine
      have h1000 := HS1.out
      obtain ⟨q1, q2, q3⟩ := sf.crash hsf (by omega) (by omega) ps
      have hcr := hpd.crash (HPK.out wr hbw) (by omega)
      have HCR := Lib.hid (And.intro hcr hbw)
      clear hcr hd hsf hpd ho1 ho2 h1000 hbw hlt HI
      go_upto_region 19 with (go_at_call 20; refine HCR.out.1.mono ?_; rintro a w8 ⟨q8, rfl, h1, h2⟩; have H8 := Lib.hid (And.intro h1 (And.intro h2 (HCR.out.2.trans (h2.mono HCR.out.2.size)))); clear h1 h2)
      have hre := H8.out.1.read (s := sf.S) (dk.ok_le sf.ok)
      rw [q1, q2] at hre
      have HRE := Lib.hid (And.intro hre q3); clear hre q1 q2 q3
      go_upto_region 20 with (go_at_call 16; refine HRE.out.1.mono ?_; rintro a w9 ⟨v9, rfl, h4, h5⟩; obtain ⟨A9, c9, hv9, hc9, -, hat9⟩ := own_bytes h4; subst hv9; have H9 := Lib.hid (And.intro hat9 h5); clear h4 h5 hat9 hc9)
      have hb9 : Below w.heap.size w w9 := H8.out.2.2.trans (H9.out.2.mono H8.out.2.2.size)
      have cv1 := conv_any (P := Try.prog) Try.underlying34 Try.underlying5 Try.underlying9 (c := c9) L rfl H9.out.1
      have cv2 := conv_any (P := Try.prog) Try.underlying34 Try.underlying5 Try.underlying9 (c := c) L rfl (HA.out.1.below hb9 (Nat.le_refl _))
      obtain ⟨str, hstr⟩ : ∃ str, str = strOf L := ⟨_, rfl⟩
      rw [← hstr] at cv1 cv2
      clear hstr
      have km := conv_mark (P := Try.prog) 34 5 Try.underlying34 Try.underlying5 w9 #[.int .u8 120] 1 1 _ rfl
      have hap := (H8.out.1.below H9.out.2).app_x (fr := (1, 2)) (E := 0) (M' := (M.crash ps).app sf.S [120]) sf.ok (by unfold RDisk.small RDisk.crash; dsimp only; omega) (by omega) ⟨HRE.out.2, rfl⟩ rfl hb9 (fun k hk => Nat.le_trans HCR.out.2.size hk.1)
      have HAP := Lib.hid hap; clear hap hb9
      go_wp2_with (first
        | (go_at_call 11; refine (HAW.out w10 H10.out).mono ?_; rintro a w11 ⟨rfl, hb⟩; have HB11 := Lib.hid hb; clear hb)
        | (go_at_call 22; refine HAP.out.mono ?_; rintro a w10 ⟨rfl, -, h3⟩; have H10 := Lib.hid h3; clear h3))
      go_ret
      exact ⟨rfl, HB11.out⟩
end Go.Proofs.Ythffkbcjidbdaaa

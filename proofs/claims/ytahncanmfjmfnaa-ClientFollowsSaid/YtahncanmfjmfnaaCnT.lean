/- The walk of the law ClientFollows. -/
import Derived.Test.YtahncanmfjmfnaaCnS
import Derived.Test.YtahncanmfjmfnaaBwW
namespace Go.Proofs.Ytahncanmfjmfnaa
open Go.RowKit Go.Maps
set_option maxRecDepth 100000

theorem cf.self : ∀ rs : List Rec, recsSame rs rs = true
  | [] => rfl
  | r :: rs => by
    show (decide (r.Same r) && recsSame rs rs) = true
    rw [cf.self rs, decide_eq_true (show r.Same r from ⟨rfl, rfl, rfl, rfl, rfl, rfl⟩)]
    rfl
theorem cf.bytes {x : Bat} (hc : x.check = 0) (hr : ∀ r ∈ x.recs, (∀ y ∈ r.key, y < 256) ∧ ∀ y ∈ r.val, y < 256) : ∀ y ∈ x.bytes, y < 256 := by
  obtain ⟨hm, -, ho, -⟩ := Bat.check_ok hc
  have hs := Bat.summed_byte hm ho hr
  unfold Bat.bytes Bat.front
  intro y hy
  simp only [List.mem_append] at hy
  rcases hy with ((h | h) | h) | h
  · exact wire.be_byte _ _ y h
  · exact wire.be_byte _ _ y h
  · exact wire.be_byte _ _ y h
  · exact hs y h
set_option maxHeartbeats 8000000 in
theorem law24.follows (A : Option Addr) (q d : Nat) (bs : List Bat) (offset : Int) (w : World) (hx : bs.length = q ∧ q ≤ d ∧ d ≤ maxLen) (hat : BatsAt w A bs) : Calls Try.prog 7 #[.slice A q d, .int .i64 offset] w fun e w' => e = .returned (.bool true) ∧ Below w.heap.size w w' := by
  have hsum := alike.batches_any A bs d 3000 w hat (by omega) (by omega)
  obtain ⟨hx1, hx2, hx3⟩ := hx
  rw [hx1] at hsum
  have haw : ∀ wx, Below w.heap.size w wx → Calls Try.prog 9 #[] wx fun a w' => a = .returned (.bool true) ∧ Below w.heap.size w w' := fun wx h => by
    refine (law24.awake wx).mono ?_
    rintro a w' ⟨h1, h2⟩
    exact ⟨h1, h.trans (h2.mono h.size)⟩
  have HAX := Lib.hid haw; clear haw
  have HX := Lib.hid (And.intro hat hx1); clear hat hx1
  have HS := Lib.hid hsum; clear hsum
  unfold maxLen at hx3
  go_enter Try.func7, Try.ntmps7
  go_wp2_with fail
  refine HS.out.mono ?_
  rintro e w1 ⟨⟨nn, rfl, -⟩, hb⟩
  have HB := Lib.hid hb; clear hb
  by_cases n0 : 3000 < nn
  · have gn0 : decide (3000 < nn) = true := decide_eq_true (by omega)
    go_wp2_with (go_at_call 9; refine (HAX.out w1 HB.out).mono ?_; rintro a w9 ⟨rfl, hb⟩; have HB9 := Lib.hid hb; clear hb)
    go_ret
    exact ⟨rfl, HB9.out⟩
  have gn0 : decide (3000 < nn) = false := decide_eq_false (by omega)
  by_cases n1 : 20 < q
  · have gn1 : decide (20 < (q : Int)) = true := decide_eq_true (by omega)
    go_wp2_with (go_at_call 9; refine (HAX.out w1 HB.out).mono ?_; rintro a w9 ⟨rfl, hb⟩; have HB9 := Lib.hid hb; clear hb)
    go_ret
    exact ⟨rfl, HB9.out⟩
  have gn1 : decide (20 < (q : Int)) = false := decide_eq_false (by omega)
  by_cases n2 : offset < 0
  · have gn2 : decide (offset < 0) = true := decide_eq_true (by omega)
    go_wp2_with (go_at_call 9; refine (HAX.out w1 HB.out).mono ?_; rintro a w9 ⟨rfl, hb⟩; have HB9 := Lib.hid hb; clear hb)
    go_ret
    exact ⟨rfl, HB9.out⟩
  have gn2 : decide (offset < 0) = false := decide_eq_false (by omega)
  by_cases n3 : 4611686018427387904 < offset
  · have gn3 : decide (4611686018427387904 < offset) = true := decide_eq_true (by omega)
    go_wp2_with (go_at_call 9; refine (HAX.out w1 HB.out).mono ?_; rintro a w9 ⟨rfl, hb⟩; have HB9 := Lib.hid hb; clear hb)
    go_ret
    exact ⟨rfl, HB9.out⟩
  have gn3 : decide (4611686018427387904 < offset) = false := decide_eq_false (by omega)
  go_upto_region 8 with (go_at_call 18; refine (cn.reader_ok (ByteArray.mk #[116]) 0 offset w1 (by omega)).mono ?_; rintro e w2 ⟨rfl, h1, h2⟩; have H2 := Lib.hid (And.intro h1 h2); clear h1 h2)
  obtain ⟨r, hr⟩ : ∃ r, r = w1.heap.size := ⟨_, rfl⟩
  have hwr : w.heap.size ≤ r := by rw [hr]; exact HB.out.size
  have hb2 : Below w.heap.size w w2 := HB.out.trans (H2.out.2.mono HB.out.size)
  rw [← hr] at H2 ⊢
  have H3 := Lib.hid (And.intro H2.out.1 (And.intro hb2 hwr)); clear hb2 hwr H2 hr HB
  clear gn0 gn1 gn2 gn3
  go_loopw [7, 8] (fun x i wx => ∃ (j : Nat) (at_ c : Int), j ≤ q ∧ i = .int .i64 (j : Int) ∧ x = .int .i64 at_ ∧ RdrAt wx r (ByteArray.mk #[116]) 0 at_ c ∧ (0 ≤ c ∧ c ≤ j) ∧ (0 ≤ at_ ∧ at_ ≤ 4611686018427387905) ∧ Below w.heap.size w wx) (fun _ i _ => q - (intOf i).toNat)
  case atStart => exact ⟨0, offset, 0, by omega, rfl, rfl, H3.out.1, by omega, by omega, H3.out.2.1⟩
  case round =>
    obtain ⟨j, at_, c, hj, rfl, rfl, hrd, hc, hat_, hbw⟩ := hrel
    by_cases hlt : j < q
    · have hlt' : (j : Int) < (q : Int) := by omega
      obtain ⟨x, hx⟩ : ∃ x, bs[j]? = some x := ⟨_, List.getElem?_eq_getElem (by have := HX.out.2; omega)⟩
      obtain ⟨b, off, v, rfl, hbl, c0, c1, c2, c3, c4, c5, hv, -⟩ := HX.out.1.at' hx
      obtain ⟨Av, cv, V, rfl, -⟩ := id hv
      obtain ⟨nr, hnr⟩ : ∃ nr, nr = x.recs.length := ⟨_, rfl⟩
      rw [← hnr] at c5
      have d0 := (hbw.cell (p := ⟨b, off + j * 6, none⟩) hbl).trans c0
      have d1 := (hbw.cell (p := ⟨b, off + j * 6 + 1, none⟩) hbl).trans c1
      have d2 := (hbw.cell (p := ⟨b, off + j * 6 + 2, none⟩) hbl).trans c2
      have d3 := (hbw.cell (p := ⟨b, off + j * 6 + 3, none⟩) hbl).trans c3
      have d4 := (hbw.cell (p := ⟨b, off + j * 6 + 4, none⟩) hbl).trans c4
      have d5 := (hbw.cell (p := ⟨b, off + j * 6 + 5, none⟩) hbl).trans c5
      have HV := Lib.hid (And.intro hv (And.intro hnr (And.intro hx (And.intro c5 (And.intro hrd (And.intro hbw hbl)))))); clear hv hnr hx c0 c1 c2 c3 c4 c5 hrd hbw
      by_cases h100 : 100 < nr
      · have g100 : decide (100 < (nr : Int)) = true := decide_eq_true (by omega)
        go_wp2_with (go_at_call 9; refine (HAX.out wr HV.out.2.2.2.2.2.1).mono ?_; rintro a w9 ⟨rfl, hb⟩; have HB9 := Lib.hid hb; clear hb)
        go_ret
        exact ⟨rfl, HB9.out⟩
      have g100 : decide (100 < (nr : Int)) = false := decide_eq_false (by omega)
      have hvr := HV.out.1.below HV.out.2.2.2.2.2.1 (Nat.le_refl _)
      by_cases hck : x.check = 0
      case neg =>
        have herr := ref.encode_err x Av cv wr hvr hck
        unfold Bat.hval at herr
        rw [← HV.out.2.1] at herr
        obtain ⟨ck, hckk⟩ : ∃ ck, ck = x.check := ⟨_, rfl⟩
        rw [← hckk] at herr hck
        have dck : (ck == 0) = false := by simp [hck]
        have HE := Lib.hid herr; clear herr hckk hvr
        go_upto_region 13 with (go_at_call 14; refine HE.out.mono ?_; rintro e w2 ⟨rfl, h2⟩; have H4 := Lib.hid h2; clear h2)
        clear d0 d1 d2 d3 d4 d5
        have hrel : RdrAt w2 r (ByteArray.mk #[116]) 0 at_ c ∧ Below w.heap.size w w2 := ⟨(chg_of (P := fun _ => False) H4.out).blk HV.out.2.2.2.2.1 fun q => q, HV.out.2.2.2.2.2.1.trans (H4.out.mono HV.out.2.2.2.2.2.1.size)⟩
        have HREL := Lib.hid hrel; clear hrel
        go_wp2_with fail
        exact ⟨⟨j + 1, at_, c, by omega, by go_num, rfl, HREL.out.1, by omega, hat_, HREL.out.2⟩, by simp [intOf]; omega⟩
      obtain ⟨L, hL⟩ : ∃ L, L = x.bytes := ⟨_, rfl⟩
      obtain ⟨m, hm⟩ : ∃ m, m = L.length := ⟨_, rfl⟩
      have hle := Bat.summed_le hck
      rw [← hL, ← hm] at hle
      have henc := (ref.Encode_any x Av cv wr hvr hck)
      unfold Bat.hval at henc
      rw [← HV.out.2.1, ← hL] at henc
      have HE := Lib.hid (And.intro henc (And.intro hck (And.intro hL hm))); clear henc hck hL hm
      go_upto_region 13 with (go_at_call 14; refine HE.out.1.mono ?_; rintro e w2 ⟨v2, rfl, h1⟩; obtain ⟨A2, c2, rfl, hmc, hcm, hat2⟩ := own_bytes h1.1; have H4 := Lib.hid (And.intro h1.1 (And.intro hmc (And.intro hcm h1.2))); clear h1 hat2 hmc hcm)
      clear d0 d1 d2 d3 d4 d5
      have hrd2 : RdrAt w2 r (ByteArray.mk #[116]) 0 at_ c := (chg_of (P := fun _ => False) H4.out.2.2.2).blk HV.out.2.2.2.2.1 fun q => q
      have hb2 : Below w.heap.size w w2 := HV.out.2.2.2.2.2.1.trans (H4.out.2.2.2.mono HV.out.2.2.2.2.2.1.size)
      have hask := cn.ask_any r (ByteArray.mk #[116]) 0 at_ c 10 w2 hrd2 (by omega)
      have HA := Lib.hid (And.intro hask (And.intro hrd2 hb2)); clear hask hrd2 hb2
      go_upto_region 15 with (go_at_call 19; refine HA.out.1.mono ?_; rintro e w3 ⟨rfl, h1, h2⟩; unfold cn.fetch; have H5 := Lib.hid (And.intro h1 h2); clear h1 h2)
      obtain ⟨w4, hw4⟩ : ∃ w4, w4 = w3.alloc (.cells #[.int .i64 5, .int .i64 (c + 1), .string (ByteArray.mk #[]), .string (ByteArray.mk #[116]), .int .i64 0, .int .i64 at_, .int .i64 0, .int .i64 10, .string (ByteArray.mk #[]), .string (ByteArray.mk #[]), .int .i64 0, .slice none 0 0, .slice none 0 0] 35) := ⟨_, rfl⟩
      obtain ⟨b1, hb1⟩ : ∃ b1, b1 = w3.heap.size := ⟨_, rfl⟩
      rw [← hw4, ← hb1]
      have hk4 : Blk w4 b1 35 #[.int .i64 5, .int .i64 (c + 1), .string (ByteArray.mk #[]), .string (ByteArray.mk #[116]), .int .i64 0, .int .i64 at_, .int .i64 0, .int .i64 10, .string (ByteArray.mk #[]), .string (ByteArray.mk #[]), .int .i64 0, .slice none 0 0, .slice none 0 0] := by rw [hw4, hb1]; exact Blk.new _ _ _
      have hc34 : Chg w3 w4 (fun _ => False) := by rw [hw4]; exact Chg.alloc _ _ _
      have hrd4 : RdrAt w4 r (ByteArray.mk #[116]) 0 at_ (c + 1) := hc34.blk H5.out.1 fun q => q
      have hrb : b1 ≠ r := by have := H5.out.1.lt; omega
      have hc04 : Chg w w4 (fun k => w.heap.size ≤ k) := (((chg_of (P := fun k => w.heap.size ≤ k) HA.out.2.2).trans H5.out.2 fun k _ e => by rw [show k = r from e]; exact H3.out.2.2).trans hc34 fun _ _ q => q.elim)
      have ho4 := (H5.out.2.trans hc34 fun _ _ q => q.elim).own H4.out.1 fun k hk e => by
        have h1 := (H4.out.1.lt k hk).1
        have h2 := HV.out.2.2.2.2.1.lt
        have e : k = r := e
        omega
      obtain ⟨A9, c9, e9, -, -, hat4⟩ := own_bytes ho4
      obtain ⟨rfl, rfl⟩ : A2 = A9 ∧ c2 = c9 := by injection e9 with e1 e2 e3; exact ⟨e1, e3⟩
      clear e9 ho4
      have hdp : dec.decode L = some x := by rw [HE.out.2.2.1]; exact dec.decode_put HE.out.2.1
      have hby : ∀ y ∈ L, y < 256 := by rw [HE.out.2.2.1]; exact cf.bytes HE.out.2.1 HV.out.1.byte
      have hck := HE.out.2.1
      obtain ⟨hmay, hl100, hok, -⟩ := Bat.check_ok hck
      have hgot := cn.got_any r (ByteArray.mk #[116]) 0 at_ (c + 1) 0 A2 c2 L w4 hrd4 (by omega) hat4 hby H4.out.2.1 (own_cap H4.out.1) (by rw [← HE.out.2.2.2]; omega) (fun y hy z hz => by
        rw [hdp] at hy
        obtain rfl : x = y := Option.some.inj hy
        have := hok z hz
        exact ⟨this.2.2.1, this.2.2.2.1⟩) (by omega) (fun y hy => by
        rw [hdp] at hy
        obtain rfl : x = y := Option.some.inj hy
        exact hl100)
      have hR : ((dec.decode L).bind fun y => (cn.next at_ y.recs).map fun nx => (y, nx)) = (cn.next at_ x.recs).map fun nx => (x, nx) := by rw [hdp]; rfl
      rw [hR] at hgot
      unfold cn.resp at hgot
      have y1 := hk4.cell 1 rfl
      have yl := hk4.lt
      have HG := Lib.hid (And.intro hgot (And.intro hc04 (And.intro hk4 hrb))); clear hgot hc04 hk4 hrb hdp hby hR hmay hl100 hrd4 hat4 hc34 hw4 hb1
      have hnr := HV.out.2.1
      have hv := HV.out.1
      cases hxr : x.recs with
      | nil =>
        have hn0 : nr = 0 := by rw [hnr, hxr]; rfl
        subst hn0
        have hgs : Calls Try.prog 21 #[.pointer (some ⟨r, 0, none⟩), .agg #[.int .i64 (c + 1), .int .i64 0, .int .i64 0, .int .i64 0, .int .i64 0, .string (ByteArray.mk #[]), .string (ByteArray.mk #[]), .slice none 0 0, .slice none 0 0, .slice A2 L.length c2]] w4 fun e w' => ∃ A5 c5, e = .returned (.tuple #[.slice A5 0 c5, .int .i64 0]) ∧ RecsV w' (.slice A5 0 c5) x.recs ∧ RdrAt w' r (ByteArray.mk #[116]) 0 at_ (c + 1) ∧ Chg w4 w' (fun k => k = r) := by
          refine HG.out.1.mono ?_
          rintro e w' ⟨h1, h2⟩
          rw [hxr] at h1
          obtain ⟨A5, c5, h3, h4, h5⟩ := h1
          rw [hxr] at h3 h4
          exact ⟨A5, c5, h3, by rw [hxr]; exact h4, h5, h2⟩
        have hsame : ∀ (wx : World) (A5 : Option Addr) (c5 : Nat), RecsV wx (.slice A5 0 c5) x.recs → RecsV wx (.slice Av 0 cv) x.recs → Calls Try.prog 23 #[.slice A5 0 c5, .slice Av 0 cv] wx fun e w' => e = .returned (.bool true) ∧ Below wx.heap.size wx w' := fun wx A5 c5 h1 h2 => by
          have := ref.samerecs_any x.recs x.recs A5 c5 Av cv wx (by rw [hxr] at h1 ⊢; exact h1) (by rw [hxr] at h2 ⊢; exact h2)
          rw [cf.self] at this
          rw [hxr] at this
          exact this
        have hv0 : RecsV w (.slice Av 0 cv) x.recs := by rw [hxr] at hv ⊢; exact hv
        have HGS := Lib.hid (And.intro hgs (And.intro hsame (And.intro hv0 hxr))); clear hgs hsame hv hv0 hnr hxr
        go_upto_region 16 with (go_at_call 21; refine HGS.out.1.mono ?_; rintro e w5 ⟨A5, c5, rfl, h1, h2, h3⟩; have H6 := Lib.hid (And.intro h1 (And.intro h2 h3)); clear h1 h2 h3)
        clear y1 yl
        have hc05 : Chg w w5 (fun k => w.heap.size ≤ k) := HG.out.2.1.trans H6.out.2.2 fun k _ e => by rw [show k = r from e]; exact H3.out.2.2
        have hk5 := H6.out.2.2.blk HG.out.2.2.1 HG.out.2.2.2
        have y5 := hk5.cell 5 rfl
        have yl := hk5.lt
        have d5 : w5.cell? ⟨b, off + j * 6 + 5, none⟩ = some (.slice Av 0 cv) := cn.cellP hc05 HV.out.2.2.2.1 HV.out.2.2.2.2.2.2 (Nat.not_le.2 HV.out.2.2.2.2.2.2)
        have dl : b < w5.heap.size := Nat.lt_of_lt_of_le HV.out.2.2.2.2.2.2 hc05.size
        have hb5 : Below w.heap.size w w5 := hc05.below (Nat.le_refl _) fun _ q => q
        have hsm := HGS.out.2.1 w5 A5 c5 H6.out.1 (HGS.out.2.2.1.below hb5 (Nat.le_refl _))
        have H7 := Lib.hid (And.intro hsm hb5); clear hsm hb5 hc05 hk5
        go_upto_region 24 with (go_at_call 23; refine H7.out.1.mono ?_; rintro e w6 ⟨rfl, h1⟩; have H8 := Lib.hid h1; clear h1)
        clear y5 yl d5 dl
        have hrd6 : RdrAt w6 r (ByteArray.mk #[116]) 0 at_ (c + 1) := (chg_of (P := fun _ => False) H8.out).blk H6.out.2.1 fun q => q
        have hof := cn.offset_any r (ByteArray.mk #[116]) 0 at_ (c + 1) w6 hrd6
        have hb6 : Below w.heap.size w w6 := H7.out.2.trans (H8.out.mono H7.out.2.size)
        have H9 := Lib.hid (And.intro hof (And.intro hrd6 hb6)); clear hof hrd6 hb6
        go_wp2_with (go_at_call 22; refine H9.out.1.mono ?_; rintro e w6' ⟨rfl, h3⟩; subst h3)
        exact ⟨⟨j + 1, at_, c + 1, by omega, by go_num, rfl, H9.out.2.1, by omega, hat_, H9.out.2.2⟩, by simp [intOf]; omega⟩
      | cons f fs =>
        obtain ⟨k, hk⟩ : ∃ k, k = fs.length := ⟨_, rfl⟩
        have hn1 : nr = k + 1 := by rw [hnr, hxr, hk]; rfl
        subst hn1
        have hv2 := hv
        rw [← hnr] at hv2
        have hx0 : x.recs[0]? = some f := by rw [hxr]; rfl
        obtain ⟨bv, ov, cc, kv, vv, eA, -, -, hbv, f0, -⟩ := hv.at' hx0
        obtain ⟨rfl, rfl⟩ : Av = some ⟨bv, ov, none⟩ ∧ cv = cc := by injection eA with e1 e2 e3; exact ⟨e1, e3⟩
        rw [Nat.zero_mul, Nat.add_zero] at f0
        obtain ⟨z, hz, hzb⟩ := cn.behind_last fs at_ f
        have hxz : x.recs[k]? = some z := by rw [hxr, hk]; exact hz
        obtain ⟨b8, o8, c8, k8, v8, e8, -, -, -, z0, -⟩ := hv.at' hxz
        obtain ⟨rfl, rfl⟩ : bv = b8 ∧ ov = o8 := by injection e8 with e1 e2 e3; injection e1 with e1; injection e1 with e1 e2; exact ⟨e1, e2⟩
        have hokz := (hok z (List.mem_of_getElem? hxz))
        have hzo : 0 ≤ z.off ∧ z.off ≤ 4611686018427387904 := ⟨hokz.2.2.1, hokz.2.2.2.1⟩
        clear eA e8 hokz hok
        by_cases hfo : f.off < at_
        · have hgs : Calls Try.prog 21 #[.pointer (some ⟨r, 0, none⟩), .agg #[.int .i64 (c + 1), .int .i64 0, .int .i64 0, .int .i64 0, .int .i64 0, .string (ByteArray.mk #[]), .string (ByteArray.mk #[]), .slice none 0 0, .slice none 0 0, .slice A2 L.length c2]] w4 fun e w' => e = .returned (.tuple #[.slice none 0 0, .int .i64 2]) ∧ RdrAt w' r (ByteArray.mk #[116]) 0 at_ (c + 1) ∧ Chg w4 w' (fun k => k = r) := by
            refine HG.out.1.mono ?_
            rintro e w' ⟨h1, h2⟩
            rw [cn.next_bad hxr at_ hfo] at h1
            exact ⟨h1.1, h1.2, h2⟩
          have hdfo : decide (f.off < at_) = true := decide_eq_true hfo
          have HGS := Lib.hid (And.intro hgs hxr); clear hgs hv hv2 hnr hxr hx0 hxz hz hzb hk z0
          go_upto_region 16 with (go_at_call 21; refine HGS.out.1.mono ?_; rintro e w5 ⟨rfl, h1, h2⟩; have H6 := Lib.hid (And.intro h1 h2); clear h1 h2)
          clear y1 yl
          have hc05 : Chg w w5 (fun k => w.heap.size ≤ k) := HG.out.2.1.trans H6.out.2 fun k _ e => by rw [show k = r from e]; exact H3.out.2.2
          have hk5 := H6.out.2.blk HG.out.2.2.1 HG.out.2.2.2
          have y5 := hk5.cell 5 rfl
          have yl := hk5.lt
          have d5 : w5.cell? ⟨b, off + j * 6 + 5, none⟩ = some (.slice (some ⟨bv, ov, none⟩) (k + 1) cv) := cn.cellP hc05 HV.out.2.2.2.1 HV.out.2.2.2.2.2.2 (Nat.not_le.2 HV.out.2.2.2.2.2.2)
          have dl : b < w5.heap.size := Nat.lt_of_lt_of_le HV.out.2.2.2.2.2.2 hc05.size
          have g0 : w5.cell? ⟨bv, ov, none⟩ = some (.int .i64 f.off) := cn.cellP hc05 f0 hbv (Nat.not_le.2 hbv)
          have gl : bv < w5.heap.size := Nat.lt_of_lt_of_le hbv hc05.size
          have hof := cn.offset_any r (ByteArray.mk #[116]) 0 at_ (c + 1) w5 H6.out.1
          have hb5 : Below w.heap.size w w5 := hc05.below (Nat.le_refl _) fun _ q => q
          have H7 := Lib.hid (And.intro hof hb5); clear hof hb5 hc05 hk5
          go_wp2_with (go_at_call 22; refine H7.out.1.mono ?_; rintro e w6' ⟨rfl, h3⟩; subst h3)
          exact ⟨⟨j + 1, at_, c + 1, by omega, by go_num, rfl, H6.out.1, by omega, hat_, H7.out.2⟩, by simp [intOf]; omega⟩
        · have hgs : Calls Try.prog 21 #[.pointer (some ⟨r, 0, none⟩), .agg #[.int .i64 (c + 1), .int .i64 0, .int .i64 0, .int .i64 0, .int .i64 0, .string (ByteArray.mk #[]), .string (ByteArray.mk #[]), .slice none 0 0, .slice none 0 0, .slice A2 L.length c2]] w4 fun e w' => ∃ A5 c5, e = .returned (.tuple #[.slice A5 (k + 1) c5, .int .i64 0]) ∧ RecsV w' (.slice A5 (k + 1) c5) x.recs ∧ RdrAt w' r (ByteArray.mk #[116]) 0 (z.off + 1) (c + 1) ∧ Chg w4 w' (fun k => k = r) := by
            refine HG.out.1.mono ?_
            rintro e w' ⟨h1, h2⟩
            rw [cn.next_ok HE.out.2.1 hxr at_ hfo] at h1
            obtain ⟨A5, c5, h3, h4, h5⟩ := h1
            have e1 : cn.behind (f.off + 1) fs = z.off + 1 := hzb
            rw [e1] at h5
            rw [← hnr] at h3 h4
            exact ⟨A5, c5, h3, h4, h5, h2⟩
          have hsame : ∀ (wx : World) (A5 : Option Addr) (c5 : Nat), RecsV wx (.slice A5 (k + 1) c5) x.recs → RecsV wx (.slice (some ⟨bv, ov, none⟩) (k + 1) cv) x.recs → Calls Try.prog 23 #[.slice A5 (k + 1) c5, .slice (some ⟨bv, ov, none⟩) (k + 1) cv] wx fun e w' => e = .returned (.bool true) ∧ Below wx.heap.size wx w' := fun wx A5 c5 h1 h2 => by
            have := ref.samerecs_any x.recs x.recs A5 c5 (some ⟨bv, ov, none⟩) cv wx (by rw [← hnr]; exact h1) (by rw [← hnr]; exact h2)
            rw [cf.self, ← hnr] at this
            exact this
          have hdfo : decide (f.off < at_) = false := decide_eq_false hfo
          have HGS := Lib.hid (And.intro hgs (And.intro hsame hv2)); clear hgs hsame hv hv2 hnr hxr hx0 hxz hz hzb hk
          go_upto_region 16 with (go_at_call 21; refine HGS.out.1.mono ?_; rintro e w5 ⟨A5, c5, rfl, h1, h2, h3⟩; have H6 := Lib.hid (And.intro h1 (And.intro h2 h3)); clear h1 h2 h3)
          clear y1 yl
          have hc05 : Chg w w5 (fun k => w.heap.size ≤ k) := HG.out.2.1.trans H6.out.2.2 fun k _ e => by rw [show k = r from e]; exact H3.out.2.2
          have hk5 := H6.out.2.2.blk HG.out.2.2.1 HG.out.2.2.2
          have y5 := hk5.cell 5 rfl
          have yl := hk5.lt
          have d5 : w5.cell? ⟨b, off + j * 6 + 5, none⟩ = some (.slice (some ⟨bv, ov, none⟩) (k + 1) cv) := cn.cellP hc05 HV.out.2.2.2.1 HV.out.2.2.2.2.2.2 (Nat.not_le.2 HV.out.2.2.2.2.2.2)
          have dl : b < w5.heap.size := Nat.lt_of_lt_of_le HV.out.2.2.2.2.2.2 hc05.size
          have g0 : w5.cell? ⟨bv, ov, none⟩ = some (.int .i64 f.off) := cn.cellP hc05 f0 hbv (Nat.not_le.2 hbv)
          have gl : bv < w5.heap.size := Nat.lt_of_lt_of_le hbv hc05.size
          have hb5 : Below w.heap.size w w5 := hc05.below (Nat.le_refl _) fun _ q => q
          have hsm := HGS.out.2.1 w5 A5 c5 H6.out.1 (HGS.out.2.2.below hb5 (Nat.le_refl _))
          have H7 := Lib.hid (And.intro hsm hb5); clear hsm hb5 hc05 hk5
          go_upto_region 24 with (go_at_call 23; refine H7.out.1.mono ?_; rintro e w6 ⟨rfl, h1⟩; have H8 := Lib.hid h1; clear h1)
          clear y5 yl d5 dl g0 gl
          have hb6 : Below w.heap.size w w6 := H7.out.2.trans (H8.out.mono H7.out.2.size)
          have d5 : w6.cell? ⟨b, off + j * 6 + 5, none⟩ = some (.slice (some ⟨bv, ov, none⟩) (k + 1) cv) := (hb6.cell (p := ⟨b, off + j * 6 + 5, none⟩) HV.out.2.2.2.2.2.2).trans HV.out.2.2.2.1
          have dl : b < w6.heap.size := Nat.lt_of_lt_of_le HV.out.2.2.2.2.2.2 hb6.size
          have gz : w6.cell? ⟨bv, ov + k * 6, none⟩ = some (.int .i64 z.off) := (hb6.cell (p := ⟨bv, ov + k * 6, none⟩) hbv).trans z0
          have gl : bv < w6.heap.size := Nat.lt_of_lt_of_le hbv hb6.size
          have hrd6 : RdrAt w6 r (ByteArray.mk #[116]) 0 (z.off + 1) (c + 1) := (chg_of (P := fun _ => False) H8.out).blk H6.out.2.1 fun q => q
          have hof := cn.offset_any r (ByteArray.mk #[116]) 0 (z.off + 1) (c + 1) w6 hrd6
          have H9 := Lib.hid (And.intro hof (And.intro hrd6 hb6)); clear hof hrd6 hb6
          go_wp2_with (go_at_call 22; refine H9.out.1.mono ?_; rintro e w6' ⟨rfl, h3⟩; subst h3)
          exact ⟨⟨j + 1, z.off + 1, c + 1, by omega, by go_num, rfl, H9.out.2.1, by omega, by omega, H9.out.2.2⟩, by simp [intOf]; omega⟩
    · obtain rfl : j = q := by omega
      have HBW := Lib.hid hbw; clear hbw
      go_wp2_with (go_at_call 9; refine (HAX.out wr HBW.out).mono ?_; rintro a w9 ⟨rfl, hb⟩; have HB9 := Lib.hid hb; clear hb)
      go_ret
      exact ⟨rfl, HB9.out⟩
end Go.Proofs.Ytahncanmfjmfnaa

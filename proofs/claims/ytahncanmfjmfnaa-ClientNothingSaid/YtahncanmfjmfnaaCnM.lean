/- Law 24: what the document fixes. -/
import Derived.Test.YtahncanmfjmfnaaCnL
namespace Go.Proofs.Ytahncanmfjmfnaa
open Go.RowKit Go.Maps
set_option maxRecDepth 100000

def aw.t : SlotK := ⟨ByteArray.mk #[116], 0, by unfold maxLen; decide, by unfold intOk; decide⟩
theorem aw.check : (cn.bat 1 0 0 (cn.recs 2 1)).check = 0 := by decide +kernel
set_option maxHeartbeats 8000000 in
theorem law24.awake (w : World) : Calls Try.prog 9 #[] w fun e w' => e = .returned (.bool true) ∧ Below w.heap.size w w' := by
  obtain ⟨rs, hrs⟩ : ∃ rs, rs = cn.recs 2 1 := ⟨_, rfl⟩
  have hl2 : rs.length = 2 := by rw [hrs]; exact cn.recs_len 2 1
  have hck : (cn.bat 1 0 0 rs).check = 0 := by rw [hrs]; exact aw.check
  have h0 := cn.new_ok 1 0 w (by omega) (by omega)
  have H0 := Lib.hid (And.intro h0 (And.intro hl2 (And.intro hck hrs))); clear h0 hl2 hck hrs
  go_enter Try.func9, Try.ntmps9
  go_upto_region 2 with (go_at_call 10; refine H0.out.1.mono ?_; rintro e w1 ⟨p, rfl, h1, h2⟩; have H1 := Lib.hid (And.intro h1 h2); clear h1 h2)
  go_upto_region 3 with (go_at_call 18; refine (cn.reader_ok (ByteArray.mk #[116]) 0 5 w1 (by omega)).mono ?_; rintro e w2 ⟨rfl, h1, h2⟩; have H2 := Lib.hid (And.intro h1 h2); clear h1 h2)
  go_upto_region 6 with (go_at_call 10; refine (cn.new_bad 0 0 w2 (by omega)).mono ?_; rintro e w2' ⟨rfl, h3⟩; subst h3)
  have h3 : ∀ wx, Calls Try.prog 12 #[.int .i64 2, .int .i64 1] wx fun e w' => ∃ A3 c3, e = .returned (.slice A3 rs.length c3) ∧ RecsV w' (.slice A3 rs.length c3) rs ∧ Below wx.heap.size wx w' := fun wx => by
    refine (cn.records_any 2 1 wx (by omega)).mono ?_
    rintro e w' ⟨v, rfl, h1, h2⟩
    rw [← H0.out.2.2.2] at h1
    obtain ⟨A3, c3, rfl, h4⟩ := h1.recsV
    exact ⟨A3, c3, rfl, h4, h2⟩
  have h5 : ∀ wx, ∃ m, Calls Try.prog 12 #[.int .i64 1, .int .i64 1] wx fun e w' => ∃ A3 c3, e = .returned (.slice A3 m c3) ∧ Below wx.heap.size wx w' := fun wx => by
    refine ⟨(cn.recs 1 1).length, (cn.records_any 1 1 wx (by omega)).mono ?_⟩
    rintro e w' ⟨v, rfl, h1, h2⟩
    obtain ⟨A3, c3, rfl, -⟩ := h1.recsV
    exact ⟨A3, c3, rfl, h2⟩
  have hmk : ∀ (wx : World) (A3 : Option Addr) (c3 : Nat), CnAt wx p 1 0 0 none (fun _ => 0) (cn.fresh w w1) 0 → RecsV wx (.slice A3 rs.length c3) rs → Calls Try.prog 13 #[.pointer (some ⟨p, 0, none⟩), .string (ByteArray.mk #[116]), .int .i64 0, .slice A3 rs.length c3] wx fun e w' => ∃ A4 m c4 F4, e = .returned (.tuple #[.agg #[.int .i64 4, .int .i64 1, .string (ByteArray.mk #[]), .string (ByteArray.mk #[116]), .int .i64 0, .int .i64 0, .int .i64 0, .int .i64 0, .string (ByteArray.mk #[]), .string (ByteArray.mk #[]), .int .i64 0, .slice none 0 0, .slice A4 m c4], .int .i64 0]) ∧
      CnAt w' p 1 0 1 (some ⟨1, aw.t.s, aw.t.p, (cn.bat 1 0 0 rs).bytes, 2⟩) (fun _ => 0) F4 0 ∧ (∀ k, F4 k → cn.fresh w w1 k ∨ wx.heap.size ≤ k) ∧ Chg wx w' (cn.fresh w w1) := fun wx A3 c3 hcn hv => by
    refine (cn.make_ok p 1 0 0 (fun _ => 0) (cn.fresh w w1) 0 aw.t A3 c3 rs wx hcn hv (by rw [H0.out.2.1]; omega) (by rw [H0.out.2.1]; omega) H0.out.2.2.1 (by omega)).mono ?_
    rintro e w' ⟨A4, c4, M, rfl, h1, h2, h4, h6⟩
    rw [H0.out.2.1] at h4
    exact ⟨A4, _, c4, _, rfl, h4, fun k hk => hk.1, h6⟩
  have HF := Lib.hid (And.intro h3 (And.intro h5 hmk)); clear h3 h5 hmk
  go_upto_region 7 with (first
    | (go_at_call 13; refine (HF.out.2.2 w3 A3 c3 ((H1.out.1.below H2.out.2).below H3.out.2) H3.out.1).mono ?_; rintro e w4 ⟨A4, m, c4, F4, rfl, h1, h2, h4⟩; have H4 := Lib.hid (And.intro h1 (And.intro h2 h4)); clear h1 h2 h4)
    | (go_at_call 12; refine (HF.out.1 w2).mono ?_; rintro e w3 ⟨A3, c3, rfl, h1, h2⟩; have H3 := Lib.hid (And.intro h1 h2); clear h1 h2))
  obtain ⟨w5, hw5⟩ : ∃ w5, w5 = w4.alloc (.cells #[.int .i64 4, .int .i64 1, .string (ByteArray.mk #[]), .string (ByteArray.mk #[116]), .int .i64 0, .int .i64 0, .int .i64 0, .int .i64 0, .string (ByteArray.mk #[]), .string (ByteArray.mk #[]), .int .i64 0, .slice none 0 0, .slice A4 m c4] 35) := ⟨_, rfl⟩
  obtain ⟨b7, hb7⟩ : ∃ b7, b7 = w4.heap.size := ⟨_, rfl⟩
  rw [← hw5, ← hb7]
  have hk5 : Blk w5 b7 35 #[.int .i64 4, .int .i64 1, .string (ByteArray.mk #[]), .string (ByteArray.mk #[116]), .int .i64 0, .int .i64 0, .int .i64 0, .int .i64 0, .string (ByteArray.mk #[]), .string (ByteArray.mk #[]), .int .i64 0, .slice none 0 0, .slice A4 m c4] := by rw [hw5, hb7]; exact Blk.new _ _ _
  have hc5 : Chg w4 w5 (fun _ => False) := by rw [hw5]; exact Chg.alloc _ _ _
  have hcn5 := H4.out.1.keep hc5 fun _ _ q => q
  have hb7F : ¬ F4 b7 := fun q => by have := H4.out.1.lt.2 b7 q; omega
  obtain ⟨m6, h6⟩ := HF.out.2.1 w5
  have H5 := Lib.hid (And.intro hk5 (And.intro hc5 (And.intro hcn5 (And.intro hb7F (And.intro h6 hb7))))); clear hk5 hc5 hcn5 hb7F h6 hw5 hb7
  go_upto_region 8 with (first
    | (go_at_call 13; refine (cn.make_wait p 1 0 1 _ _ F4 0 _ _ _ w6 (H5.out.2.2.1.below H6.out)).mono ?_; rintro e w7 ⟨rfl, h1⟩; unfold cn.zero; have H7 := Lib.hid h1; clear h1)
    | (go_at_call 12; refine H5.out.2.2.2.2.1.mono ?_; rintro e w6 ⟨A6, c6, rfl, h1⟩; have H6 := Lib.hid h1; clear h1))
  obtain ⟨w8, hw8⟩ : ∃ w8, w8 = w7.alloc (.cells #[.int .i64 0, .int .i64 0, .string (ByteArray.mk #[]), .string (ByteArray.mk #[]), .int .i64 0, .int .i64 0, .int .i64 0, .int .i64 0, .string (ByteArray.mk #[]), .string (ByteArray.mk #[]), .int .i64 0, .slice none 0 0, .slice none 0 0] 35) := ⟨_, rfl⟩
  rw [← hw8]
  have hc58 : Chg w5 w8 (fun _ => False) := by rw [hw8]; exact ((chg_of (P := fun _ => False) H6.out).trans (chg_of (P := fun _ => False) H7.out) fun _ _ q => q).trans (Chg.alloc _ _ _) fun _ _ q => q
  have hcn8 := H5.out.2.2.1.keep hc58 fun _ _ q => q
  have hk8 := hc58.blk H5.out.1 fun q => q
  have hdone := cn.done_ok p 1 0 1 _ (fun _ => 0) F4 0 aw.t ⟨rfl, rfl⟩ 9 none 0 0 w8 hcn8 (by omega) (by omega) (by show (0 : Int) ≤ 2 ∧ (2 : Int) ≤ 1000000; omega)
  have H8 := Lib.hid (And.intro hc58 (And.intro hk8 hdone)); clear hc58 hcn8 hk8 hdone hw8
  go_upto_region 9 with (go_at_call 15; refine H8.out.2.2.mono ?_; rintro e w9 ⟨rfl, h1, h2⟩; have H9 := Lib.hid (And.intro h1 h2); clear h1 h2)
  obtain ⟨r, hr⟩ : ∃ r, r = w1.heap.size := ⟨_, rfl⟩
  have hs1 := H1.out.2.size
  have hs2 := H2.out.2.size
  have hs3 := H3.out.2.size
  have hs4 := H4.out.2.2.size
  have hrl := H2.out.1.lt
  have hr4F : ¬ F4 r := fun q => (H4.out.2.1 r q).elim (fun q => by have := q.2; omega) fun q => by omega
  have hrd3 : RdrAt w3 r (ByteArray.mk #[116]) 0 5 0 := by rw [hr]; exact (chg_of (P := fun _ => False) H3.out.2).blk H2.out.1 fun q => q
  have hrd4 : RdrAt w4 r (ByteArray.mk #[116]) 0 5 0 := H4.out.2.2.blk hrd3 fun q => by have := q.2; omega
  have hrd9 : RdrAt w9 r (ByteArray.mk #[116]) 0 5 0 := H9.out.2.blk (H8.out.1.blk (H5.out.2.1.blk hrd4 fun q => q) fun q => q) hr4F
  have hask : Calls Try.prog 19 #[.pointer (some ⟨r, 0, none⟩), .int .i64 100] w9 fun e w' => e = .returned (.agg #[.int .i64 5, .int .i64 1, .string (ByteArray.mk #[]), .string (ByteArray.mk #[116]), .int .i64 0, .int .i64 5, .int .i64 0, .int .i64 100, .string (ByteArray.mk #[]), .string (ByteArray.mk #[]), .int .i64 0, .slice none 0 0, .slice none 0 0]) ∧ Chg w9 w' (fun k => k = r) := by
    refine (cn.ask_any r (ByteArray.mk #[116]) 0 5 0 100 w9 hrd9 (by omega)).mono ?_
    rintro e w' ⟨rfl, -, h2⟩
    exact ⟨rfl, h2⟩
  have hb7 := H5.out.2.2.2.2.2
  have hbr : b7 ≠ r := by rw [hr] at *; omega
  have hk9 := H9.out.2.blk H8.out.2.1 H5.out.2.2.2.1
  have hch : Chg w w9 (fun k => w.heap.size ≤ k) := by
    have a1 : Chg w w3 (fun k => w.heap.size ≤ k) := (((chg_of (P := fun _ => False) H1.out.2).trans (chg_of (P := fun _ => False) H2.out.2) fun _ _ q => q).trans (chg_of (P := fun _ => False) H3.out.2) fun _ _ q => q).mono fun _ _ q => q.elim
    have a2 : Chg w w4 (fun k => w.heap.size ≤ k) := a1.trans H4.out.2.2 fun k _ q => q.1
    have a3 : Chg w w8 (fun k => w.heap.size ≤ k) := (a2.trans H5.out.2.1 fun _ _ q => q.elim).trans H8.out.1 fun _ _ q => q.elim
    exact a3.trans H9.out.2 fun k _ q => (H4.out.2.1 k q).elim (fun q => q.1) fun q => by omega
  have hrF : ∀ k, F4 k → k ≠ r := fun k q e => hr4F (e ▸ q)
  have HA := Lib.hid (And.intro hask (And.intro hk9 (And.intro hch (And.intro hbr (And.intro hrF (And.intro hr (by omega : w.heap.size ≤ r))))))); clear hask hk9 hch hbr hrF hs1 hs2 hs3 hs4 hrl hr4F hrd3 hrd4 hrd9 hb7
  rw [← HA.out.2.2.2.2.2.1]
  clear hr
  go_upto_region 10 with (go_at_call 19; refine HA.out.1.mono ?_; rintro e w10 ⟨rfl, h1⟩; have H10 := Lib.hid h1; clear h1)
  obtain ⟨w11, hw11⟩ : ∃ w11, w11 = w10.alloc (.cells #[.int .i64 5, .int .i64 1, .string (ByteArray.mk #[]), .string (ByteArray.mk #[116]), .int .i64 0, .int .i64 5, .int .i64 0, .int .i64 100, .string (ByteArray.mk #[]), .string (ByteArray.mk #[]), .int .i64 0, .slice none 0 0, .slice none 0 0] 35) := ⟨_, rfl⟩
  obtain ⟨g13, hg13⟩ : ∃ g13, g13 = w10.heap.size := ⟨_, rfl⟩
  rw [← hw11, ← hg13]
  have hk13 : Blk w11 g13 35 #[.int .i64 5, .int .i64 1, .string (ByteArray.mk #[]), .string (ByteArray.mk #[116]), .int .i64 0, .int .i64 5, .int .i64 0, .int .i64 100, .string (ByteArray.mk #[]), .string (ByteArray.mk #[]), .int .i64 0, .slice none 0 0, .slice none 0 0] := by rw [hw11, hg13]; exact Blk.new _ _ _
  have hc11 : Chg w9 w11 (fun k => k = r) := by rw [hw11]; exact H10.out.trans (Chg.alloc _ _ (fun _ => False)) fun _ _ q => q.elim
  have hk11 := hc11.blk HA.out.2.1 HA.out.2.2.2.1
  have hcn11 := H9.out.1.keep hc11 HA.out.2.2.2.2.1
  have hseq := cn.seq_any aw.t p 1 0 1 none _ F4 1 w11 hcn11
  have hu : cn.upd (fun _ => 0) aw.t (0 + 2) aw.t = 2 := by unfold cn.upd; rw [if_pos rfl]; rfl
  have hseq2 : Calls Try.prog 17 #[.pointer (some ⟨p, 0, none⟩), .string (ByteArray.mk #[116]), .int .i64 0] w11 fun e w' => e = .returned (.int .i64 2) ∧ w11 = w' := by
    refine hseq.mono ?_
    rintro e w' ⟨rfl, h⟩
    exact ⟨congrArg (fun v => Ending.returned (Value.int .i64 v)) hu, h⟩
  have y0 := hk11.cell 0 rfl
  have y1 := hk11.cell 1 rfl
  have yl := hk11.lt
  have x0 := hk13.cell 0 rfl
  have x5 := hk13.cell 5 rfl
  have xl := hk13.lt
  have hfin : Below w.heap.size w w11 := (HA.out.2.2.1.trans hc11 fun k _ q => by rw [show k = r from q]; exact HA.out.2.2.2.2.2.2).below (Nat.le_refl _) fun _ q => q
  have HZ := Lib.hid (And.intro hseq2 hfin); clear hseq2 hfin hseq hu hcn11 hk11 hc11 hk13 hw11 hg13
  go_wp2_with (go_at_call 17; refine HZ.out.1.mono ?_; rintro e w11' ⟨rfl, h3⟩; subst h3)
  go_ret
  exact ⟨rfl, HZ.out.2⟩
end Go.Proofs.Ytahncanmfjmfnaa

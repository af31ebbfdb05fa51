/- client: a producer refuses what is no batch. -/
import Derived.Test.YtahncanmfjmfnaaCnX
import Derived.Test.YtahncanmfjmfnaaBwW
namespace Go.Proofs.Ytahncanmfjmfnaa
open Go.RowKit Go.Maps
set_option maxRecDepth 100000

set_option maxHeartbeats 8000000 in
theorem cn.make_bad (p : Nat) (id epoch corr : Int) (D : SlotK → Int) (F : Nat → Prop) (n : Nat) (x : SlotK) (A : Option Addr) (c : Nat) (rs : List Rec) (w : World) (h : CnAt w p id epoch corr none D F n) (hv : RecsV w (.slice A rs.length c) rs) (hl : rs.length ≤ 1000)
    (hbad : rs.length = 0 ∨ (cn.bat id epoch (D x) rs).check ≠ 0) :
    Calls Try.prog 13 #[.pointer (some ⟨p, 0, none⟩), .string x.s, .int .i64 x.p, .slice A rs.length c] w fun e w' => e = .returned (.tuple #[.agg cn.zero, .int .i64 1]) ∧ Below w.heap.size w w' := by
  obtain ⟨b, hb⟩ : ∃ b, b = cn.bat id epoch (D x) rs := ⟨_, rfl⟩
  obtain ⟨g, hg⟩ : ∃ g, g = w.heap.size := ⟨_, rfl⟩
  obtain ⟨w1, hw1⟩ : ∃ w1, w1 = w.alloc (.cells cn.zero 35) := ⟨_, rfl⟩
  have hb1 : Below w.heap.size w w1 := by rw [hw1]; exact (Below.refl _ _).alloc (Nat.le_refl _) _
  have hz1 : Blk w1 g 35 cn.zero := by rw [hw1, hg]; exact Blk.new _ _ _
  have hcn1 := h.below hb1
  have hv1 : RecsV w1 (.slice A rs.length c) rs := hv.below hb1 (Nat.le_refl _)
  have hseq := cn.seq_any x p id epoch corr none D F n w1 hcn1
  have hbat := cn.batch_any p id epoch corr none D F n A c rs (D x) w1 hcn1 hv1 hl
  have hlen : b.recs.length = rs.length := by rw [hb]; exact cn.numbered_len rs
  have hre : b.recs = cn.numbered rs := by rw [hb]; rfl
  rw [← hb] at hbat hbad
  obtain ⟨nr, hnr⟩ : ∃ nr, nr = rs.length := ⟨_, rfl⟩
  obtain ⟨ck, hck⟩ : ∃ ck, ck = b.check := ⟨_, rfl⟩
  have henc : ∀ wx A2 c2, RecsV wx (.slice A2 rs.length c2) (cn.numbered rs) → Calls Try.prog 26 #[b.hval A2 rs.length c2] wx fun e w' => (∃ Ad m cd, e = .returned (.tuple #[.slice Ad m cd, .int .i64 ck])) ∧ Below wx.heap.size wx w' := fun wx A2 c2 hr => by
    by_cases h0 : b.check = 0
    · have := bat.encode_any b A2 c2 wx (by rw [hlen, hre]; exact hr) h0
      rw [hlen] at this
      refine this.mono ?_
      rintro e w' ⟨⟨v, rfl, h1⟩, h2⟩
      obtain ⟨Ad, cd, rfl, -⟩ := own_at h1
      exact ⟨⟨Ad, _, cd, by rw [hck, h0]⟩, h2⟩
    · have := bat.encode_err b A2 c2 wx (by rw [hlen, hre]; exact hr) h0
      rw [hlen] at this
      refine this.mono ?_
      rintro e w' ⟨rfl, h2⟩
      exact ⟨⟨none, 0, 0, by rw [hck]⟩, h2⟩
  rw [← hnr] at hbat henc hl hbad ⊢
  rw [← hck] at hbad
  obtain ⟨uv, mb, N, gm, hblk, -, -, -, hrow, -⟩ := hcn1
  obtain ⟨Au, cu, rfl, -, -⟩ := own_at (show w1.ownsRow 0 83 14 uv 0 [] from hrow)
  have c3 := hblk.cell 3 rfl
  have l3 := hblk.lt
  unfold cn.zero at hw1
  have HA := Lib.hid (And.intro hseq (And.intro hbat (And.intro henc (And.intro hz1 (And.intro hb1 (And.intro hw1 hg)))))); clear hseq hbat henc hz1 hb1 hw1 hg hblk hrow hv hv1 h hb hlen hre hnr hck
  have hend : ∀ w3 : World, Below w1.heap.size w1 w3 → Blk w3 g 35 cn.zero ∧ Below w.heap.size w w3 := fun w3 h => ⟨(chg_of (P := fun _ => False) h).blk HA.out.2.2.2.1 fun q => q, HA.out.2.2.2.2.1.trans (h.mono HA.out.2.2.2.2.1.size)⟩
  have HE := Lib.hid hend; clear hend
  by_cases h0 : ck = 0
  · obtain rfl : nr = 0 := hbad.resolve_right fun q => q h0
    subst h0
    clear hbad
    go_enter Try.func13, Try.ntmps13
    go_upto_region 1 with fail
    rw [← HA.out.2.2.2.2.2.1, ← HA.out.2.2.2.2.2.2]
    go_upto_region 7 with (first
      | (go_at_call 26; refine (HA.out.2.2.1 w2 A2 c2 H2.out.1).mono ?_; rintro e w3 ⟨⟨Ad, m, cd, rfl⟩, h2⟩; have H3 := Lib.hid (HE.out w3 (H2.out.2.trans (h2.mono H2.out.2.size))); clear h2)
      | (go_at_call 27; refine HA.out.2.1.mono ?_; rintro e w2 ⟨A2, c2, rfl, h1, h2⟩; have H2 := Lib.hid (And.intro h1 h2); clear h1 h2)
      | (go_at_call 17; refine HA.out.1.mono ?_; rintro e w1' ⟨rfl, h3⟩; subst h3))
    clear c3 l3
    go_wp2_with (refine wpList_store_row rfl 35 (.tmp 8) (.tmp 41) rfl g cn.zero rfl rfl 35 _ H3.out.1 cn.infoReq rfl (by simp [Value.oneCell', cn.zero]) ?_)
    have hz9 := cn.blk_row H3.out.1 cn.zero
    have hc9 := cn.chg_row w3 g cn.zero
    generalize w3.setRow g cn.zero = w9 at *
    refine bodyPost_ret (cn.res_cell2 rfl _ _ g cn.zero _ rfl hz9 Try.underlying35 rfl cn.infoReq) rfl ?_
    exact ⟨rfl, H3.out.2.trans (hc9.below H3.out.2.size fun k hk => by have h1 : k = g := hk; have h2 := HA.out.2.2.2.2.2.2; omega)⟩
  · have d0 : (ck == 0) = false := by simp [h0]
    clear hbad
    go_enter Try.func13, Try.ntmps13
    go_upto_region 1 with fail
    rw [← HA.out.2.2.2.2.2.1, ← HA.out.2.2.2.2.2.2]
    go_upto_region 7 with (first
      | (go_at_call 26; refine (HA.out.2.2.1 w2 A2 c2 H2.out.1).mono ?_; rintro e w3 ⟨⟨Ad, m, cd, rfl⟩, h2⟩; have H3 := Lib.hid (HE.out w3 (H2.out.2.trans (h2.mono H2.out.2.size))); clear h2)
      | (go_at_call 27; refine HA.out.2.1.mono ?_; rintro e w2 ⟨A2, c2, rfl, h1, h2⟩; have H2 := Lib.hid (And.intro h1 h2); clear h1 h2)
      | (go_at_call 17; refine HA.out.1.mono ?_; rintro e w1' ⟨rfl, h3⟩; subst h3))
    clear c3 l3
    go_wp2_with (refine wpList_store_row rfl 35 (.tmp 8) (.tmp 41) rfl g cn.zero rfl rfl 35 _ H3.out.1 cn.infoReq rfl (by simp [Value.oneCell', cn.zero]) ?_)
    have hz9 := cn.blk_row H3.out.1 cn.zero
    have hc9 := cn.chg_row w3 g cn.zero
    generalize w3.setRow g cn.zero = w9 at *
    refine bodyPost_ret (cn.res_cell2 rfl _ _ g cn.zero _ rfl hz9 Try.underlying35 rfl cn.infoReq) rfl ?_
    exact ⟨rfl, H3.out.2.trans (hc9.below H3.out.2.size fun k hk => by have h1 : k = g := hk; have h2 := HA.out.2.2.2.2.2.2; omega)⟩
end Go.Proofs.Ytahncanmfjmfnaa

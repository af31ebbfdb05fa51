/- client: an answer is taken. -/
import Derived.Test.YtahncanmfjmfnaaCnJ
namespace Go.Proofs.Ytahncanmfjmfnaa
open Go.RowKit Go.Maps
set_option maxRecDepth 100000

def cn.resp (rc code off : Int) (dv0 : Value) : Array Value := #[.int .i64 rc, .int .i64 code, .int .i64 off, .int .i64 0, .int .i64 0, .string (ByteArray.mk #[]), .string (ByteArray.mk #[]), .slice none 0 0, .slice none 0 0, dv0]
/-- The cells of what is under way. -/
theorem cn.row_cells {w : World} {A : Option Addr} {c : Nat} {s : CSent} {Ad : Option Addr} {m cd : Nat} (h : w.ownsRow 0 83 14 (.slice A 1 c) 1 (cn.sent s (.slice Ad m cd))) :
    ∃ g, A = some ⟨g, 0, none⟩ ∧ g < w.heap.size ∧ ∀ (j : Nat) (v : Value), (cn.sentA s Ad m cd)[j]? = some v → w.cell? ⟨g, j, none⟩ = some v := by
  obtain ⟨g, hg⟩ : ∃ g, A = some ⟨g, 0, none⟩ := by
    rcases h.2 with ⟨h1, -⟩ | ⟨g, cap, cur, h1, -⟩
    · cases h1
    · exact ⟨g, by injection h1⟩
  subst hg
  refine ⟨g, rfl, (h.lt g rfl).2, fun j v hj => ?_⟩
  have := h.cells (g := g) rfl j v (by
    rw [← hj]
    unfold cn.sent cn.req cn.sentA
    simp)
  rw [add_none, Nat.zero_add] at this
  exact this
set_option maxHeartbeats 8000000 in
theorem cn.done_ok (p : Nat) (id epoch corr : Int) (s : CSent) (D : SlotK → Int) (F : Nat → Prop) (n : Nat) (x : SlotK) (hx : s.topic = x.s ∧ s.part = x.p) (off : Int) (A0 : Option Addr) (m0 c0 : Nat) (w : World) (h : CnAt w p id epoch corr (some s) D F n) (hn : n ≤ 1000000) (hD : 0 ≤ D x ∧ D x ≤ 1000000000) (hc : 0 ≤ s.count ∧ s.count ≤ 1000000) :
    Calls Try.prog 15 #[.pointer (some ⟨p, 0, none⟩), .agg (cn.resp s.corr 0 off (.slice A0 m0 c0))] w fun e w' => e = .returned (.tuple #[.int .i64 off, .int .i64 0]) ∧ CnAt w' p id epoch corr none (cn.upd D x (D x + s.count)) F (n + 1) ∧ Chg w w' F := by
  obtain ⟨w1, hw1⟩ : ∃ w1, w1 = w.alloc (.cells (cn.resp s.corr 0 off (.slice A0 m0 c0)) 53) := ⟨_, rfl⟩
  obtain ⟨g, hg⟩ : ∃ g, g = w.heap.size := ⟨_, rfl⟩
  have hltw := h.lt.2
  have hc1 : Chg w w1 (fun _ => False) := by rw [hw1]; exact Chg.alloc _ _ _
  have hr1 : Blk w1 g 53 (cn.resp s.corr 0 off (.slice A0 m0 c0)) := by rw [hw1, hg]; exact Blk.new _ _ _
  have hcn1 := h.keep hc1 fun _ _ q => q
  obtain ⟨uv, mb, N, gm, hblk, hgm, hDD, hN, ⟨dv, hrow, hdat, hdF⟩, hfoot, hlt⟩ := hcn1
  obtain ⟨Ad, cd, rfl, -, -⟩ := own_at hdat
  obtain ⟨m, hm⟩ : ∃ m, m = s.data.length := ⟨_, rfl⟩
  rw [← hm] at hrow hdat
  obtain ⟨Au, cu, rfl, -, -⟩ := own_at hrow
  obtain ⟨gu, rfl, hgu, hcel⟩ := cn.row_cells hrow
  unfold cn.sentA at hcel
  have e0 := hcel 0 _ rfl
  have e1 := hcel 1 _ rfl
  have e2 := hcel 2 _ rfl
  have e3 := hcel 3 _ rfl
  have e4 := hcel 4 _ rfl
  have e5 := hcel 5 _ rfl
  have e6 := hcel 6 _ rfl
  have e7 := hcel 7 _ rfl
  have e8 := hcel 8 _ rfl
  have e9 := hcel 9 _ rfl
  have e10 := hcel 10 _ rfl
  have e11 := hcel 11 _ rfl
  have e12 := hcel 12 _ rfl
  have e13 := hcel 13 _ rfl
  have c3 := hblk.cell 3 rfl
  have l3 := hblk.lt
  have k0 := hr1.cell 0 (v := .int .i64 s.corr) rfl
  have k1 := hr1.cell 1 (v := .int .i64 0) rfl
  have k2 := hr1.cell 2 (v := .int .i64 off) rfl
  have kl := hr1.lt
  unfold cn.resp at hw1 ⊢
  have H1 := Lib.hid (And.intro hc1 (And.intro hr1 (And.intro hblk (And.intro hgm (And.intro hDD (And.intro hN (And.intro hrow (And.intro hdat (And.intro hfoot (And.intro hlt (And.intro hltw (And.intro hw1 hg)))))))))))); clear hc1 hr1 hblk hgm hDD hN hrow hdat hdF hfoot hlt hltw hw1 hg hcel h
  have HM := Lib.hid hm; clear hm
  have HX := Lib.hid (And.intro hx (And.intro hn (And.intro hD hc))); clear hx hn hD hc
  go_enter Try.func15, Try.ntmps15
  go_upto_region 1 with fail
  rw [← H1.out.2.2.2.2.2.2.2.2.2.2.2.1, ← H1.out.2.2.2.2.2.2.2.2.2.2.2.2]
  go_upto_region 4 with fail
  go_loopw [16] (fun i wx => i = .int .i64 0 ∧ wx = w1) (fun i _ => 1 - (intOf i).toNat)
  case atStart => exact ⟨rfl, rfl⟩
  case round =>
    obtain ⟨rfl, rfl⟩ := hrel
    go_upto_region 6 with fail
    clear e0 e1 e2 e3 e4 e5 e6 e7 e8 e9 e10 e11 e12 e13 c3 l3 k0 k1 k2 kl
    obtain ⟨g2, hg2⟩ : ∃ g2, g2 = wr.heap.size := ⟨_, rfl⟩
    obtain ⟨w2, hw2⟩ : ∃ w2, w2 = wr.alloc (.cells #[.int .i64 4, .int .i64 s.corr, .string (ByteArray.mk #[]), .string s.topic, .int .i64 s.part, .int .i64 0, .int .i64 0, .int .i64 0, .string (ByteArray.mk #[]), .string (ByteArray.mk #[]), .int .i64 0, .slice none 0 0, .slice Ad m cd, .int .i64 s.count] 83) := ⟨_, rfl⟩
    rw [← hw2, ← hg2]
    obtain ⟨hc1, hr1, hblk, hgm, hDD, hN, hrow, hdat, ⟨f1, f2, f3⟩, hlt, hltw, hw1, hg⟩ := H1.out
    have hb2 : Blk w2 g2 83 #[.int .i64 4, .int .i64 s.corr, .string (ByteArray.mk #[]), .string s.topic, .int .i64 s.part, .int .i64 0, .int .i64 0, .int .i64 0, .string (ByteArray.mk #[]), .string (ByteArray.mk #[]), .int .i64 0, .slice none 0 0, .slice Ad m cd, .int .i64 s.count] := by rw [hw2, hg2]; exact Blk.new _ _ _
    have hc2 : Chg wr w2 (fun _ => False) := by rw [hw2]; exact Chg.alloc _ _ _
    have hr2 := hc2.blk hr1 fun q => q
    have hrow2 := hc2.own hrow fun _ _ q => q
    have hp2 := hc2.blk hblk fun q => q
    have hgl := hr1.lt
    have hFg : ∀ k, F k → k < g := fun k hk => by have := hltw k hk; omega
    have hguF : F gu := f3 gu rfl
    have hgg2 : g < g2 := by omega
    have hdel := cn.delete_any gu cu _ w2 hrow2
    have hag := cn.again_any 0 w2
    have k0 := hr2.cell 0 (v := .int .i64 s.corr) rfl
    have k1 := hr2.cell 1 (v := .int .i64 0) rfl
    have kl := hr2.lt
    have e1 := hb2.cell 1 rfl
    have el := hb2.lt
    have c3 := hp2.cell 3 rfl
    have l3 := hp2.lt
    have H2 := Lib.hid (And.intro hb2 (And.intro hc2 (And.intro hr2 (And.intro hrow2 (And.intro hp2 (And.intro hFg (And.intro hguF (And.intro hgg2 (And.intro hdel (And.intro hag (And.intro f1 f2))))))))))); clear hb2 hc2 hr2 hrow2 hp2 hFg hguF hgg2 hdel hag f1 f2 f3 hc1 hr1 hblk hgm hDD hN hrow hdat hlt hltw hw1 hg hgl hw2 hg2
    go_upto_region 11 with (first
      | (go_at_call 32; refine H2.out.2.2.2.2.2.2.2.2.1.mono ?_; rintro e w3 ⟨rfl, h1, h2⟩; have hp3 := h2.blk H2.out.2.2.2.2.1 (fun e => by have h9 := H2.out.2.2.2.2.1.not_row (by decide) H2.out.2.2.2.1; exact h9 (by rw [show p = gu from e]; rfl)); have n3 := hp3.cell 3 rfl; have z3 := hp3.frozen 3; have zl := hp3.lt; have H3 := Lib.hid (And.intro h1 (And.intro h2 hp3)); clear h1 h2 hp3)
      | (go_at_call 31; refine H2.out.2.2.2.2.2.2.2.2.2.1.mono ?_; rintro e w2' ⟨rfl, h3⟩; subst h3))
    clear n3 z3 zl k0 k1 kl e1 el c3 l3
    obtain ⟨w4, hw4⟩ : ∃ w4, w4 = w3.setCell ⟨p, 3, none⟩ (.slice (some ⟨gu, 0, none⟩) 0 cu) := ⟨_, rfl⟩
    rw [← hw4]
    obtain ⟨hc1, hr1, hblk, hgm, hDD, hN, hrow, hdat, ⟨f1, f2, f3⟩, hlt, hltw, hw1, hg⟩ := H1.out
    have hp4 : Blk w4 p 77 #[.int .i64 id, .int .i64 epoch, .int .i64 corr, .slice (some ⟨gu, 0, none⟩) 0 cu, .map (some mb)] := by rw [hw4]; exact H3.out.2.2.set 3 _
    have hc34 : Chg w3 w4 (fun k => k = p) := by rw [hw4]; exact Chg.setCell _ _ _ _
    have hc24 : Chg w2 w4 (fun k => k = gu ∨ k = p) := (H3.out.2.1.mono fun _ _ q => .inl q).trans hc34 fun _ _ q => .inr q
    have hpmb : p ≠ mb := hgm.not_blk hblk
    have hmbu : mb ≠ gu := fun e => by
      rcases hrow.2 with ⟨h1, -⟩ | ⟨k, cap, cur, h1, -, h4, -⟩
      · cases h1
      · obtain rfl : gu = k := by injection h1 with h1; injection h1 with h1; injection h1
        exact hgm.not_blk (T := 83) h4 e.symm
    have hrow4 := hc34.own H3.out.1 fun k hk e => by
      obtain rfl : gu = k := by cases hk; rfl
      exact hblk.not_row (by decide) hrow (by rw [← show gu = p from e]; rfl)
    have hcn4 : CnAt w4 p id epoch corr none D F n := ⟨.slice (some ⟨gu, 0, none⟩) 0 cu, mb, N, gm, hp4, (hgm.chg H2.out.2.1 fun q => q).chg hc24 fun q => q.elim hmbu fun e => hpmb e.symm, hDD, hN, hrow4, ⟨f1, f2, fun k hk => by cases hk; exact H2.out.2.2.2.2.2.2.1⟩, fun k hk => Nat.lt_of_lt_of_le (hlt k hk) (Nat.le_trans H2.out.2.1.size hc24.size)⟩
    have hF2 : ∀ k, k = gu ∨ k = p → F k := fun k q => q.elim (fun e => by rw [e]; exact H2.out.2.2.2.2.2.2.1) fun e => by rw [e]; exact f1
    have hg2F : ¬ F g2 := fun q => by have h1 := H2.out.2.2.2.2.2.1 _ q; have h2 := H2.out.2.2.2.2.2.2.2.1; omega
    have hgF : ¬ F g := fun q => Nat.lt_irrefl _ (H2.out.2.2.2.2.2.1 _ q)
    have hb4 := hc24.blk H2.out.1 fun q => hg2F (hF2 _ q)
    have hr4 := hc24.blk H2.out.2.2.1 fun q => hgF (hF2 _ q)
    have hadd := cn.add_any p id epoch corr D F n s x HX.out.1 Ad m cd w4 hcn4 HX.out.2.1 HX.out.2.2.1 HX.out.2.2.2
    unfold cn.sentA at hadd
    have hc04 : Chg w w4 F := ((hc1.mono fun _ _ q => q.elim).trans H2.out.2.1 fun _ _ q => q.elim).trans hc24 fun k _ q => hF2 k q
    have e0 := hb4.cell 0 rfl
    have e1 := hb4.cell 1 rfl
    have e2 := hb4.cell 2 rfl
    have e3 := hb4.cell 3 rfl
    have e4 := hb4.cell 4 rfl
    have e5 := hb4.cell 5 rfl
    have e6 := hb4.cell 6 rfl
    have e7 := hb4.cell 7 rfl
    have e8 := hb4.cell 8 rfl
    have e9 := hb4.cell 9 rfl
    have e10 := hb4.cell 10 rfl
    have e11 := hb4.cell 11 rfl
    have e12 := hb4.cell 12 rfl
    have e13 := hb4.cell 13 rfl
    have el := hb4.lt
    have H4 := Lib.hid (And.intro hadd (And.intro hr4 (And.intro hgF hc04))); clear hadd hr4 hgF hc04 hc1 hr1 hblk hgm hDD hN hrow hdat f1 f2 f3 hlt hltw hw1 hg hb4 hg2F hF2 hcn4 hrow4 hmbu hpmb hc24 hc34 hp4 hw4
    go_upto_region 14 with (go_at_call 33; refine H4.out.1.mono ?_; rintro e w5 ⟨rfl, h1, h2⟩; have hr5 := h2.blk H4.out.2.1 H4.out.2.2.1; have k2 := hr5.cell 2 (v := .int .i64 off) rfl; have kl := hr5.lt; have H5 := Lib.hid (And.intro h1 (H4.out.2.2.2.trans h2 fun _ _ q => q)); clear h1 h2 hr5)
    clear e0 e1 e2 e3 e4 e5 e6 e7 e8 e9 e10 e11 e12 e13 el
    go_wp2_with fail
    go_ret2
    exact ⟨rfl, H5.out.1, H5.out.2⟩
end Go.Proofs.Ytahncanmfjmfnaa

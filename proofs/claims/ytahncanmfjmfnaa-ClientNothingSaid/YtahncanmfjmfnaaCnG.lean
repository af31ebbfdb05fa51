/- client: a request is made. -/
import Derived.Test.YtahncanmfjmfnaaCnF
namespace Go.Proofs.Ytahncanmfjmfnaa
open Go.RowKit Go.Maps
set_option maxRecDepth 100000

theorem cn.infoSent : (Try.prog.info? 83).map (fun i => (i.zero, i.size, i.bytes)) = some (some (.agg (cn.zero ++ #[.int .i64 0])), 14, 176) := by kernel_rfl
set_option maxHeartbeats 2000000 in
theorem cn.make_wait (p : Nat) (id epoch corr : Int) (s : CSent) (D : SlotK → Int) (F : Nat → Prop) (n : Nat) (topic : ByteArray) (part : Int) (v : Value) (w : World) (h : CnAt w p id epoch corr (some s) D F n) :
    Calls Try.prog 13 #[.pointer (some ⟨p, 0, none⟩), .string topic, .int .i64 part, v] w fun e w' => e = .returned (.tuple #[.agg cn.zero, .int .i64 14]) ∧ Below w.heap.size w w' := by
  have hw := h.below ((Below.refl w.heap.size w).alloc (Nat.le_refl _) (.cells cn.zero 35))
  obtain ⟨uv, mb, N, g, h1, -, -, -, ⟨dv, h5, -⟩, -⟩ := hw
  obtain ⟨Au, cu, rfl, -, -⟩ := own_at h5
  have c3 := h1.cell 3 rfl
  have l3 := h1.lt
  unfold cn.zero at c3 l3
  clear h1 h5 h
  go_enter Try.func13, Try.ntmps13
  go_wp2_with fail
  refine bodyPost_ret (cn.res_cell2 rfl _ _ w.heap.size cn.zero _ rfl (Blk.new w 35 cn.zero) Try.underlying35 rfl cn.infoReq) rfl ?_
  exact ⟨rfl, (Below.refl _ _).alloc (Nat.le_refl _) _⟩
set_option maxHeartbeats 8000000 in
theorem cn.make_ok (p : Nat) (id epoch corr : Int) (D : SlotK → Int) (F : Nat → Prop) (n : Nat) (x : SlotK) (A : Option Addr) (c : Nat) (rs : List Rec) (w : World) (h : CnAt w p id epoch corr none D F n) (hv : RecsV w (.slice A rs.length c) rs) (hl : rs.length ≤ 1000) (hne : 0 < rs.length)
    (hck : (cn.bat id epoch (D x) rs).check = 0) (hcorr : 0 ≤ corr ∧ corr ≤ 1000000000) :
    Calls Try.prog 13 #[.pointer (some ⟨p, 0, none⟩), .string x.s, .int .i64 x.p, .slice A rs.length c] w fun e w' => ∃ A2 c2 M, e = .returned (.tuple #[.agg (cn.req (corr + 1) x.s x.p (.slice A2 (cn.bat id epoch (D x) rs).bytes.length c2)), .int .i64 0]) ∧
      w'.ownsRow M 5 1 (.slice A2 (cn.bat id epoch (D x) rs).bytes.length c2) (cn.bat id epoch (D x) rs).bytes.length (u8s (cn.bat id epoch (D x) rs).bytes) ∧ w.heap.size ≤ M ∧
      CnAt w' p id epoch (corr + 1) (some ⟨corr + 1, x.s, x.p, (cn.bat id epoch (D x) rs).bytes, rs.length⟩) D (fun k => (F k ∨ w.heap.size ≤ k) ∧ k < M) n ∧ Chg w w' F := by
  obtain ⟨b, hb⟩ : ∃ b, b = cn.bat id epoch (D x) rs := ⟨_, rfl⟩
  obtain ⟨L, hL⟩ : ∃ L, L = b.bytes := ⟨_, rfl⟩
  obtain ⟨m, hm⟩ : ∃ m, m = L.length := ⟨_, rfl⟩
  obtain ⟨g, hg⟩ : ∃ g, g = w.heap.size := ⟨_, rfl⟩
  obtain ⟨w1, hw1⟩ : ∃ w1, w1 = w.alloc (.cells cn.zero 35) := ⟨_, rfl⟩
  have hc1 : Chg w w1 (fun _ => False) := by rw [hw1]; exact Chg.alloc _ _ _
  have hz1 : Blk w1 g 35 cn.zero := by rw [hw1, hg]; exact Blk.new _ _ _
  have hs1 : w1.heap.size = g + 1 := by rw [hw1, hg]; exact World.size_alloc _ _
  have hcn1 := h.keep hc1 fun _ _ q => q
  have hv1 : RecsV w1 (.slice A rs.length c) rs := hv.below (by rw [hw1]; exact (Below.refl _ _).alloc (Nat.le_refl _) _) (Nat.le_refl _)
  have hseq := cn.seq_any x p id epoch corr none D F n w1 hcn1
  have hbat := cn.batch_any p id epoch corr none D F n A c rs (D x) w1 hcn1 hv1 hl
  have henc : ∀ wx A2 c2, RecsV wx (.slice A2 rs.length c2) (cn.numbered rs) → Calls Try.prog 26 #[b.hval A2 rs.length c2] wx fun e w' => ∃ Ad cd, e = .returned (.tuple #[.slice Ad m cd, .int .i64 0]) ∧ w'.ownsRow wx.heap.size 5 1 (.slice Ad m cd) m (u8s L) ∧ Below wx.heap.size wx w' := fun wx A2 c2 hr => by
    have hlen : b.recs.length = rs.length := by rw [hb]; exact cn.numbered_len rs
    have hre : b.recs = cn.numbered rs := by rw [hb]; rfl
    have := bat.encode_any b A2 c2 wx (by rw [hlen, hre]; exact hr) (by rw [hb]; exact hck)
    rw [hlen] at this
    refine this.mono ?_
    rintro e w' ⟨⟨v, rfl, h1⟩, h2⟩
    rw [← hL, ← hm] at h1
    obtain ⟨Ad, cd, rfl, -⟩ := own_at h1
    exact ⟨Ad, cd, rfl, h1, h2⟩
  rw [← hb] at hbat ⊢
  rw [← hL, ← hm]
  have hm6 : m ≤ 65536 := by rw [hm, hL, hb]; exact (Bat.summed_le hck).2.1
  obtain ⟨nr, hnr⟩ : ∃ nr, nr = rs.length := ⟨_, rfl⟩
  rw [← hnr] at hbat henc hl hne ⊢
  obtain ⟨uv, mb, N, gm, hblk, hgm, hD, hN, hrow, hfoot, hlt⟩ := hcn1
  obtain ⟨Au, cu, rfl, -, -⟩ := own_at (show w1.ownsRow 0 83 14 uv 0 [] from hrow)
  have c3 := hblk.cell 3 rfl
  have l3 := hblk.lt
  unfold cn.zero at hw1
  have HA := Lib.hid (And.intro hseq (And.intro hbat henc)); clear hseq hbat henc
  have H1 := Lib.hid (And.intro hc1 (And.intro hz1 (And.intro hs1 (And.intro hblk (And.intro hgm (And.intro hD (And.intro hN (And.intro hrow (And.intro hfoot (And.intro hlt hw1)))))))))); clear hc1 hz1 hs1 hblk hgm hD hN hrow hfoot hlt hw1
  have hltw := h.lt.2
  have HM := Lib.hid (And.intro hb (And.intro hL (And.intro hm (And.intro hg hltw)))); clear hb hL hm hg hck hv hv1 h hnr hltw
  have hne' : (nr : Int) ≠ 0 := by omega
  go_enter Try.func13, Try.ntmps13
  go_upto_region 1 with fail
  rw [← H1.out.2.2.2.2.2.2.2.2.2.2, ← HM.out.2.2.2.1]
  go_upto_region 8 with (first
    | (go_at_call 26; refine (HA.out.2.2 w2 A2 c2 H2.out.1).mono ?_; rintro e w3 ⟨Ad, cd, rfl, h1, h2⟩; have H3 := Lib.hid (And.intro h1 h2); clear h1 h2)
    | (go_at_call 27; refine HA.out.2.1.mono ?_; rintro e w2 ⟨A2, c2, rfl, h1, h2⟩; have H2 := Lib.hid (And.intro h1 h2); clear h1 h2)
    | (go_at_call 17; refine HA.out.1.mono ?_; rintro e w1' ⟨rfl, h3⟩; subst h3))
  clear c3 l3
  have hcp : Blk w3 p 77 #[.int .i64 id, .int .i64 epoch, .int .i64 corr, .slice Au 0 cu, .map (some mb)] := (chg_of (P := fun _ => False) H3.out.2).blk ((chg_of (P := fun _ => False) H2.out.2).blk H1.out.2.2.2.1 fun q => q) fun q => q
  have hc13 : Chg w1 w3 (fun _ => False) := (chg_of (P := fun _ => False) H2.out.2).trans (chg_of H3.out.2) fun _ _ q => q
  have c2' := hcp.cell 2 rfl
  have f2' := hcp.frozen 2
  have l2' := hcp.lt
  have HC3 := Lib.hid (And.intro hcp hc13); clear hcp hc13
  go_upto_region 9 with fail
  clear c2' f2' l2'
  obtain ⟨w4, hw4⟩ : ∃ w4, w4 = w3.setCell ⟨p, 2, none⟩ (.int .i64 (corr + 1)) := ⟨_, rfl⟩
  rw [← hw4]
  have hp4 : Blk w4 p 77 #[.int .i64 id, .int .i64 epoch, .int .i64 (corr + 1), .slice Au 0 cu, .map (some mb)] := by rw [hw4]; exact HC3.out.1.set 2 _
  have hc34 : Chg w3 w4 (fun k => k = p) := by rw [hw4]; exact Chg.setCell _ _ _ _
  clear hw4
  have c2 := hp4.cell 2 rfl
  have l2 := hp4.lt
  go_upto_region 10 with fail
  clear c2 l2
  obtain ⟨q5, hq5⟩ : ∃ q5, q5 = w4.heap.size := ⟨_, rfl⟩
  obtain ⟨w5, hw5⟩ : ∃ w5, w5 = w4.alloc (.cells #[.int .i64 4, .int .i64 (corr + 1), .string (ByteArray.mk #[]), .string x.s, .int .i64 x.p, .int .i64 0, .int .i64 0, .int .i64 0, .string (ByteArray.mk #[]), .string (ByteArray.mk #[]), .int .i64 0, .slice none 0 0, .slice Ad m cd] 35) := ⟨_, rfl⟩
  rw [← hw5, ← hq5]
  have hr5 : Blk w5 q5 35 #[.int .i64 4, .int .i64 (corr + 1), .string (ByteArray.mk #[]), .string x.s, .int .i64 x.p, .int .i64 0, .int .i64 0, .int .i64 0, .string (ByteArray.mk #[]), .string (ByteArray.mk #[]), .int .i64 0, .slice none 0 0, .slice Ad m cd] := by rw [hw5, hq5]; exact Blk.new _ _ _
  have hc45 : Chg w4 w5 (fun _ => False) := by rw [hw5]; exact Chg.alloc _ _ _
  have hp5 := hc45.blk hp4 fun q => q
  have hc15 : Chg w1 w5 (fun k => k = p) := ((HC3.out.2.mono fun _ _ q => q.elim).trans hc34 fun _ _ q => q).trans hc45 fun _ _ q => q.elim
  have hod5 := ((hc34.trans hc45 fun _ _ q => q.elim).own H3.out.1 fun k hk e => by have h1 := (H3.out.1.lt k hk).1; have h2 := H2.out.2.size; have h3 := H1.out.2.2.2.1.lt; have e : k = p := e; omega)
  have HOD := Lib.hid hod5; clear hod5
  have hs5 : w5.heap.size = q5 + 1 := by rw [hw5, hq5]; exact World.size_alloc _ _
  have hpu : ¬ (Value.slice Au 0 cu).ownBlock = some p := fun e => H1.out.2.2.2.1.not_row (by decide) H1.out.2.2.2.2.2.2.2.1 e
  have hrow5 : w5.ownsRow 0 83 14 (.slice Au 0 cu) 0 [] := hc15.own H1.out.2.2.2.2.2.2.2.1 fun k hk e => hpu (by rw [← show k = p from e]; exact hk)
  have hqu : ¬ (Value.slice Au 0 cu).ownBlock = some q5 := fun e => hr5.not_row (by decide) hrow5 e
  have hult : ∀ k, (Value.slice Au 0 cu).ownBlock = some k → k < w1.heap.size := fun k hk => (H1.out.2.2.2.2.2.2.2.1.lt k hk).2
  clear hw5 hp4
  have q3 : ∀ x : Later w5 (fun k => (Value.slice Au 0 cu).ownBlock = some k), x.1.cell? ⟨p, 3, none⟩ = some (.slice Au 0 cu) := fun x => (x.2.blk hp5 hpu).cell 3 rfl
  have hrd : Blk w5.drew q5 35 #[.int .i64 4, .int .i64 (corr + 1), .string (ByteArray.mk #[]), .string x.s, .int .i64 x.p, .int .i64 0, .int .i64 0, .int .i64 0, .string (ByteArray.mk #[]), .string (ByteArray.mk #[]), .int .i64 0, .slice none 0 0, .slice Ad m cd] := hr5
  have r0 := hrd.cell 0 rfl
  have r1 := hrd.cell 1 rfl
  have r2 := hrd.cell 2 rfl
  have r3 := hrd.cell 3 rfl
  have r4 := hrd.cell 4 rfl
  have r5 := hrd.cell 5 rfl
  have r6 := hrd.cell 6 rfl
  have r7 := hrd.cell 7 rfl
  have r8 := hrd.cell 8 rfl
  have r9 := hrd.cell 9 rfl
  have r10 := hrd.cell 10 rfl
  have r11 := hrd.cell 11 rfl
  have r12 := hrd.cell 12 rfl
  have rl := hrd.lt
  have H5 := Lib.hid (And.intro hr5 (And.intro hp5 (And.intro hc15 (And.intro hs5 (And.intro hrow5 (And.intro hpu (And.intro hqu (And.intro hult hq5)))))))); clear hr5 hp5 hc15 hs5 hrow5 hpu hqu hult hc34 hc45 hrd hq5
  obtain ⟨j0, hj0, hj1, hj2, hj3⟩ := info_parts cn.infoSent
  have HI := Lib.hid (And.intro hj0 (And.intro hj1 (And.intro hj2 hj3))); clear hj0 hj1 hj2 hj3
  have hS0 : later w5 (fun k => (Value.slice Au 0 cu).ownBlock = some k) w5.drew := later_of ((Chg.refl _ _).drew)
  refine wp_planz 13 (S := fun w0 => ∃ x : Later w5 (fun k => (Value.slice Au 0 cu).ownBlock = some k), w0 = x.1) (by kernel_rfl) hS0 ?_
  intro hS' K6 hK6
  have HS := Lib.hid hS'; clear hS' hS0
  refine planz_group [true, true, true, true, true, false, true, true] [0, 1, 2, 3, 4, 6, 7] 7 (by dsimp only [sel]) (by rfl) rfl (by kernel_rfl) (by kernel_rfl) (by kernel_rfl) HS.out ?_
  (repeat go_big_quiet_step (fail)); refine wpQuiet_nil ?_
  refine planz_one [false, false, false, false, false, true] 5 6 (by dsimp only [sel]) (by rfl) rfl (by kernel_rfl) ?_; intro K1 hK1; go_wp2_with fail
  refine ⟨by first | exact HS.out | exact fun _ => HS.out, ?_⟩
  clear r0 r1 r2 r3 r4 r5 r6 r7 r8 r9 r10 r11 r12 rl
  refine planz_group [false, false, false, false, false, false, false, false, true] [8] 5 (by dsimp only [sel]) (by rfl) rfl (by kernel_rfl) (by kernel_rfl) (by kernel_rfl) HS.out ?_
  (repeat go_big_quiet_step (fail)); refine wpQuiet_nil ?_
  refine planz_one [false, false, false, false, false, false, false, false, false, true] 9 4 (by dsimp only [sel]) (by rfl) rfl (by kernel_rfl) ?_; intro K1 hK1; go_wp2_with fail
  obtain ⟨w6, hw6⟩ : ∃ w6, w6 = (w5.alloc (.cells #[.int .i64 4, .int .i64 (corr + 1), .string (ByteArray.mk #[]), .string x.s, .int .i64 x.p, .int .i64 0, .int .i64 0, .int .i64 0, .string (ByteArray.mk #[]), .string (ByteArray.mk #[]), .int .i64 0, .slice none 0 0, .slice Ad m cd, .int .i64 (nr : Int)] 83)).drew := ⟨_, rfl⟩
  have hcel : ∀ j u, ([.int .i64 4, .int .i64 (corr + 1), .string (ByteArray.mk #[]), .string x.s, .int .i64 x.p, .int .i64 0, .int .i64 0, .int .i64 0, .string (ByteArray.mk #[]), .string (ByteArray.mk #[]), .int .i64 0, .slice none 0 0, .slice Ad m cd, .int .i64 (nr : Int)] : List Value)[j]? = some u → w6.cell? ((⟨w5.heap.size, 0, none⟩ : Addr).add j) = some u := by rw [hw6]; exact cells_new w5 _ _ _ rfl
  have hc6 : Chg w5 w6 (fun _ => False) := by rw [hw6]; exact (Chg.alloc _ _ _).drew
  have hs6 : w6.heap.size = w5.heap.size + 1 := by rw [hw6]; exact World.size_alloc _ _
  rw [← hw6]
  clear hw6
  have hl6 : later w5 (fun k => (Value.slice Au 0 cu).ownBlock = some k) w6 := later_of (hc6.mono fun _ _ q => q.elim)
  have HL6 := Lib.hid hl6; clear hl6
  refine ⟨by first | exact HL6.out | exact fun _ => HL6.out, ?_⟩
  have hown6 := hc6.own H5.out.2.2.2.2.1 fun _ _ q => q
  have hone : ∀ y ∈ ([.int .i64 4, .int .i64 (corr + 1), .string (ByteArray.mk #[]), .string x.s, .int .i64 x.p, .int .i64 0, .int .i64 0, .int .i64 0, .string (ByteArray.mk #[]), .string (ByteArray.mk #[]), .int .i64 0, .slice none 0 0, .slice Ad m cd, .int .i64 (nr : Int)] : List Value), y.oneCell' = true := fun y hx => by
    simp only [List.mem_cons, List.not_mem_nil, or_false] at hx
    rcases hx with rfl | rfl | rfl | rfl | rfl | rfl | rfl | rfl | rfl | rfl | rfl | rfl | rfl | rfl <;> rfl
  have HO := Lib.hid (And.intro hown6 (And.intro hcel (And.intro hone (And.intro hc6 hs6)))); clear hown6 hcel hone hc6 hs6
  refine planz_one [false, false, false, false, false, false, false, false, false, false, true] 10 3 (by dsimp only [sel]) (by rfl) rfl (by kernel_rfl) ?_; intro K1 hK1
  go_wp2_with (at_builtin; go_loud (refine wpList_append_own_at _ rfl (.tmp 61) (.tmp 66) 75 rfl 0 83 j0 _ 14 176 Try.underlying75 HI.out.1 HI.out.2.1 HI.out.2.2.1 HI.out.2.2.2 rfl (by decide) (.slice Au 0 cu) 0 _ rfl HO.out.1 ⟨w5.heap.size, 0, none⟩ 1 1 [.int .i64 4, .int .i64 (corr + 1), .string (ByteArray.mk #[]), .string x.s, .int .i64 x.p, .int .i64 0, .int .i64 0, .int .i64 0, .string (ByteArray.mk #[]), .string (ByteArray.mk #[]), .int .i64 0, .slice none 0 0, .slice Ad m cd, .int .i64 (nr : Int)] rfl rfl HO.out.2.1 HO.out.2.2.1 (by unfold maxLen; omega) (by omega) (by simp) ?_; intro v7 w7 h1 h2 _ h3; have H7 := Lib.hid (And.intro h1 (And.intro h2 h3)); clear h1 h2 h3))
  obtain ⟨A7, c7, hv7, -, -⟩ := own_at H7.out.1
  subst hv7
  have hc7 : Chg w5 w7 (fun k => (Value.slice Au 0 cu).ownBlock = some k) := (HO.out.2.2.2.1.mono fun _ _ q => q.elim).trans (Chg.grown H7.out.2.1) fun _ _ q => q
  have hbz7 := hc7.blk H5.out.2.1 H5.out.2.2.2.2.2.1
  have n3 : w7.cell? ⟨p, 3, none⟩ = some (.slice Au 0 cu) := q3 ⟨w7, hc7⟩
  have z3 := hbz7.frozen 3
  have zl7 := hbz7.lt
  have HB7 := Lib.hid (And.intro hbz7 hc7)
  have hl7 : later w5 (fun k => (Value.slice Au 0 cu).ownBlock = some k) w7 := later_of hc7
  have HL7 := Lib.hid hl7; clear hl7 hc7 hbz7
  refine ⟨by first | exact HL7.out | exact fun _ => HL7.out, ?_⟩
  go_simp
  refine planz_one [false, false, false, false, false, false, false, false, false, false, false, true] 11 2 (by dsimp only [sel]) (by rfl) rfl (by kernel_rfl) ?_; intro K1 hK1; go_wp2_with fail
  refine ⟨by first | exact HL7.out | exact fun _ => HL7.out, ?_⟩
  refine planz_one [false, false, false, false, false, false, false, false, false, false, false, false, true] 12 1 (by dsimp only [sel]) (by rfl) rfl (by kernel_rfl) ?_; intro K1 hK1; go_wp2_with fail
  refine ⟨by first | exact HL7.out | exact fun _ => HL7.out, ?_⟩
  refine planz_one [false, false, false, false, false, false, false, false, false, false, false, false, false, true] 13 0 (by dsimp only [sel]) (by rfl) rfl (by kernel_rfl) ?_; intro K1 hK1; go_wp2_with fail
  first | (refine ⟨fun h => absurd rfl h, ?_⟩; refine wp_planz_end (by kernel_rfl) ?_) | refine wp_planz_end (by kernel_rfl) ?_ | refine ⟨by kernel_rfl, ?_⟩
  obtain ⟨w8, hw8⟩ : ∃ w8, w8 = w7.setCell ⟨p, 3, none⟩ (.slice A7 1 c7) := ⟨_, rfl⟩
  rw [← hw8]
  clear n3 z3 zl7 q3
  have hp8 : Blk w8 p 77 #[.int .i64 id, .int .i64 epoch, .int .i64 (corr + 1), .slice A7 1 c7, .map (some mb)] := by rw [hw8]; exact HB7.out.1.set 3 _
  have hc78 : Chg w7 w8 (fun k => k = p) := by rw [hw8]; exact Chg.setCell _ _ _ _
  have hc58 : Chg w5 w8 (fun k => (Value.slice Au 0 cu).ownBlock = some k ∨ k = p) := (HB7.out.2.mono fun _ _ q => .inl q).trans hc78 fun _ _ q => .inr q
  have hr8 : Blk w8 q5 35 #[.int .i64 4, .int .i64 (corr + 1), .string (ByteArray.mk #[]), .string x.s, .int .i64 x.p, .int .i64 0, .int .i64 0, .int .i64 0, .string (ByteArray.mk #[]), .string (ByteArray.mk #[]), .int .i64 0, .slice none 0 0, .slice Ad m cd] := hc58.blk H5.out.1 fun q => q.elim H5.out.2.2.2.2.2.2.1 fun e => by have h1 := H5.out.2.1.lt; have e : q5 = p := e; subst e; have h2 := H5.out.1.symm.trans H5.out.2.1; simp at h2
  clear hw8
  have H8 := Lib.hid (And.intro hp8 (And.intro hc58 (And.intro hr8 hc78))); clear hp8 hc58 hr8 hc78
  have hud : ∀ k, w2.heap.size ≤ k → ¬ ((Value.slice Au 0 cu).ownBlock = some k ∨ k = p) := fun k hk q => by
    have h2 := H2.out.2.size
    have h3 := H1.out.2.2.2.1.lt
    rcases q with q | q
    · have := H5.out.2.2.2.2.2.2.2.1 k q
      omega
    · omega
  have hod8 := H8.out.2.1.own HOD.out fun k hk => hud k (HOD.out.lt k hk).1
  have hod8' := hod8
  rw [HM.out.2.2.1] at hod8'
  obtain ⟨A9', c9', e9, hm9, -, hat9⟩ := own_bytes hod8'
  obtain ⟨rfl, rfl⟩ : Ad = A9' ∧ cd = c9' := by injection e9 with e1 e2 e3; exact ⟨e1, e3⟩
  clear hod8'
  clear e9
  have hmc : L.length ≤ 140737488351232 := by rw [← HM.out.2.2.1]; omega
  have hcopy := cn.copy_any (corr + 1) x.s x.p Ad cd L w8 hmc hat9
  rw [← HM.out.2.2.1] at hcopy
  have hg := HM.out.2.2.2.1
  have hpg : p ≠ g := fun e => by have h1 := HM.out.2.2.2.2 p H1.out.2.2.2.2.2.2.2.2.1.1; omega
  have hz8 : Blk w8 g 35 cn.zero := H8.out.2.1.blk (H5.out.2.2.1.blk H1.out.2.1 fun e => hpg e.symm) fun q => q.elim (fun q => by have h1 := HM.out.2.2.2.2 g (H1.out.2.2.2.2.2.2.2.2.1.2.2 g q); omega) fun e => hpg e.symm
  have HC := Lib.hid (And.intro hcopy (And.intro hz8 (And.intro hod8 (And.intro hud hpg)))); clear hcopy hz8 hod8 hud hmc hat9 hm9
  have r0 := H8.out.2.2.1.cell 0 rfl
  have r1 := H8.out.2.2.1.cell 1 rfl
  have r2 := H8.out.2.2.1.cell 2 rfl
  have r3 := H8.out.2.2.1.cell 3 rfl
  have r4 := H8.out.2.2.1.cell 4 rfl
  have r5 := H8.out.2.2.1.cell 5 rfl
  have r6 := H8.out.2.2.1.cell 6 rfl
  have r7 := H8.out.2.2.1.cell 7 rfl
  have r8 := H8.out.2.2.1.cell 8 rfl
  have r9 := H8.out.2.2.1.cell 9 rfl
  have r10 := H8.out.2.2.1.cell 10 rfl
  have r11 := H8.out.2.2.1.cell 11 rfl
  have r12 := H8.out.2.2.1.cell 12 rfl
  have rl := H8.out.2.2.1.lt
  have hpg' := hpg
  clear hpg hg
  go_upto_region 11 with fail
  go_wp2_with (first
    | (refine wpList_store_row rfl 35 (.tmp 8) (.tmp 71) rfl g #[.int .i64 4, .int .i64 (corr + 1), .string (ByteArray.mk #[]), .string x.s, .int .i64 x.p, .int .i64 0, .int .i64 0, .int .i64 0, .string (ByteArray.mk #[]), .string (ByteArray.mk #[]), .int .i64 0, .slice none 0 0, .slice A9 m c9] rfl rfl 35 _ H9.out.2.2 cn.infoReq rfl (by simp [Value.oneCell']) ?_)
    | (go_at_call 28; refine HC.out.1.mono ?_; rintro e w9 ⟨A9, c9, rfl, h1, h2⟩; unfold cn.req; have hz9 := (chg_of (P := fun _ => False) h2).blk HC.out.2.1 fun q => q; have H9 := Lib.hid (And.intro h1 (And.intro h2 hz9)); clear h1 h2 hz9))
  clear r0 r1 r2 r3 r4 r5 r6 r7 r8 r9 r10 r11 r12 rl
  have hz10 := cn.blk_row H9.out.2.2 #[.int .i64 4, .int .i64 (corr + 1), .string (ByteArray.mk #[]), .string x.s, .int .i64 x.p, .int .i64 0, .int .i64 0, .int .i64 0, .string (ByteArray.mk #[]), .string (ByteArray.mk #[]), .int .i64 0, .slice none 0 0, .slice A9 m c9]
  have hc10 := cn.chg_row w9 g #[.int .i64 4, .int .i64 (corr + 1), .string (ByteArray.mk #[]), .string x.s, .int .i64 x.p, .int .i64 0, .int .i64 0, .int .i64 0, .string (ByteArray.mk #[]), .string (ByteArray.mk #[]), .int .i64 0, .slice none 0 0, .slice A9 m c9]
  generalize w9.setRow g #[.int .i64 4, .int .i64 (corr + 1), .string (ByteArray.mk #[]), .string x.s, .int .i64 x.p, .int .i64 0, .int .i64 0, .int .i64 0, .string (ByteArray.mk #[]), .string (ByteArray.mk #[]), .int .i64 0, .slice none 0 0, .slice A9 m c9] = w10 at *
  refine bodyPost_ret (cn.res_cell2 rfl _ _ _ _ _ rfl hz10 Try.underlying35 rfl cn.infoReq) rfl ?_
  have hg := HM.out.2.2.2.1
  have hc89 := chg_of (P := fun _ => False) H9.out.2.1
  have hc810 : Chg w8 w10 (fun k => k = g) := (hc89.mono fun _ _ q => q.elim).trans hc10 fun _ _ q => q
  have hs18 : w1.heap.size ≤ w8.heap.size := Nat.le_trans H5.out.2.2.1.size H8.out.2.1.size
  have hs1 := H1.out.2.2.1
  have hs2 := H2.out.2.size
  obtain ⟨f1, f2, f3⟩ := H1.out.2.2.2.2.2.2.2.2.1
  have hFg : ∀ k, F k → k ≠ g := fun k hk e => by have h1 := HM.out.2.2.2.2 k hk; omega
  have hFl : ∀ k, F k → k < w8.heap.size := fun k hk => by have h1 := HM.out.2.2.2.2 k hk; omega
  have hmbp : p ≠ mb := H1.out.2.2.2.2.1.not_blk H1.out.2.2.2.1
  have hmbu : ¬ (Value.slice Au 0 cu).ownBlock = some mb := fun e => by
    rcases H1.out.2.2.2.2.2.2.2.1.2 with ⟨h1, -⟩ | ⟨k, cap, cur, h1, -, h4, -⟩
    · rw [h1] at e; cases e
    · rw [h1] at e
      obtain rfl : k = mb := by cases e; rfl
      exact H1.out.2.2.2.2.1.not_blk (T := 83) h4 rfl
  have hgm8 := (H1.out.2.2.2.2.1.chg H5.out.2.2.1 fun e => hmbp e.symm).chg H8.out.2.1 fun q => q.elim hmbu fun e => hmbp e.symm
  have hrow7 := H7.out.1
  have hrow8 := H8.out.2.2.2.own hrow7 fun k hk e => by subst e; exact HB7.out.1.not_row (by decide) hrow7 hk
  have hz8 := HC.out.2.1
  have hrow10 := hc810.own hrow8 fun k hk e => by subst e; exact hz8.not_row (by decide) hrow8 hk
  have hdat10 := hc810.own HC.out.2.2.1 fun k hk e => by have h1 := (HC.out.2.2.1.lt k hk).1; have e : k = g := e; omega
  refine ⟨A9, c9, w8.heap.size, rfl, hc10.own H9.out.1 fun k hk e => by have h1 := (H9.out.1.lt k hk).1; have e : k = g := e; omega, by omega, ?_, ?_⟩
  · refine ⟨.slice A7 1 c7, mb, N, gm, hc810.blk H8.out.1 HC.out.2.2.2.2, hgm8.chg hc810 (hFg mb f2), H1.out.2.2.2.2.2.1, H1.out.2.2.2.2.2.2.1, ⟨.slice Ad m cd, hrow10, ?_, fun k hk => ?_⟩, ⟨⟨.inl f1, hFl p f1⟩, ⟨.inl f2, hFl mb f2⟩, fun k hk => ?_⟩, fun k hk => Nat.lt_of_lt_of_le hk.2 hc810.size⟩
    · dsimp only
      rw [← HM.out.2.2.1]
      exact ownsRow_base hdat10 (Nat.zero_le _)
    · have h1 := HC.out.2.2.1.lt k hk
      exact ⟨.inr (by omega), h1.2⟩
    · refine ⟨?_, (hrow8.lt k hk).2⟩
      rcases H7.out.2.2 with e | e
      · exact .inl (f3 k (by rw [← e]; exact hk))
      · rw [e] at hk
        have hk : w6.heap.size = k := by simpa using hk
        have h6 := HO.out.2.2.2.2
        have h5 := H5.out.2.2.1.size
        exact .inr (by omega)
  · have hc15 : Chg w w5 (fun k => k = p) := (H1.out.1.mono fun _ _ q => q.elim).trans H5.out.2.2.1 fun _ _ q => q
    refine ((hc15.mono fun k _ e => by have e : k = p := e; rw [e]; exact f1).trans H8.out.2.1 fun k hk q => q.elim (f3 k) fun e => by have e : k = p := e; rw [e]; exact f1).trans hc810 fun k hk q => absurd hk (by rw [show k = g from q, hg]; exact Nat.lt_irrefl _)
end Go.Proofs.Ytahncanmfjmfnaa

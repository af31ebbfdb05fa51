/- A disk's Crash. -/
import Derived.Test.YthffkbcjidbdaaaDkK
import Derived.Deep.CutRange
namespace Go.Proofs.Ythffkbcjidbdaaa
open Go.RowKit Go.Maps
set_option maxRecDepth 100000

/-- Names that a crash leaves. -/
def Dsk.kept (D : Dsk) (ps : List Int) : DNames := dk.run D.safe (D.since.take (dk.pick ps (D.since.length : Int)).1.toNat)
def Dsk.rest (D : Dsk) (ps : List Int) : List Int := (dk.pick ps (D.since.length : Int)).2
/-- Files are no longer than may be. -/
def Dsk.short (D : Dsk) : Prop := ∀ f, D.Has f → (D.file f).safe ≤ (D.file f).data.length ∧ (D.file f).data.length ≤ 1099511627776
def dk.CrashPost (D : Dsk) (ps : List Int) (w : World) (e : Ending) (w' : World) : Prop :=
  ∃ (q : Nat) (ks : List ByteArray) (D' : Dsk), e = .returned (.pointer (some ⟨q, 0, none⟩)) ∧ dk.Keys (fun s => (D.kept ps s).map dk.ptr) ks ∧ dk.Rise ks ∧ dk.Holds D' D.room (dk.left D (D.kept ps) ks (D.rest ps)) ∧ DskIn w' q D' (dk.fresh w w') ks.length ∧ Below w.heap.size w w'
set_option maxHeartbeats 8000000 in
theorem disk.Crash_any (A : Option Addr) (n c : Nat) (ps : List Int) (p : Nat) (D : Dsk) (F : Nat → Prop) (m : Nat) (w : World) (h : DskIn w p D F m) (hP : dk.Picks w A n c ps) (hfine : dk.fine D.since) (hm : m ≤ 100000) (hsi : D.since.length ≤ 100000) (hsh : D.short) :
    Calls Try.prog 20 #[.pointer (some ⟨p, 0, none⟩), .slice A n c] w (dk.CrashPost D ps w) := by
  obtain ⟨S, bn, bs, sv, dat, h⟩ := h
  obtain ⟨nsi, hnsi⟩ : ∃ nsi, nsi = D.since.length := ⟨_, rfl⟩
  have hpick := disk.pick_any A n c ps (nsi : Int) w hP (by omega)
  have hle := dk.pick_le (L := ps) (most := (nsi : Int)) (by omega)
  obtain ⟨hold, hhold⟩ : ∃ hold : Nat, (dk.pick ps (nsi : Int)).1 = (hold : Int) := ⟨_, (Int.toNat_of_nonneg hle.1).symm⟩
  rw [hhold] at hpick hle
  have hkept : D.kept ps = dk.run D.safe (D.since.take hold) := by unfold Dsk.kept; rw [← hnsi, hhold]; rfl
  have hrest : D.rest ps = (dk.pick ps (nsi : Int)).2 := by unfold Dsk.rest; rw [← hnsi]
  rw [← hrest] at hpick
  have hhn : hold ≤ nsi := by omega
  have HPK := Lib.hid hpick; clear hpick
  have HKEPT := Lib.hid (And.intro hkept (And.intro hfine hsh)); clear hkept hrest hhold hle hfine hsh
  have hrow := h.row
  rw [← hnsi] at hrow hsi
  have k8 := h.blk.cell 8 (v := sv) rfl
  have k7 := h.blk.cell 7 (v := .map (some bs)) rfl
  have hpl := h.blk.lt
  obtain ⟨Av, cv, rfl, hcap, hat⟩ := own_at hrow
  obtain ⟨N0, hN0, hg0⟩ := h.safe
  have hpb := hg0.not_blk h.blk
  have H := Lib.hid (And.intro h (And.intro hat (And.intro hnsi (And.intro hN0 (And.intro hg0 hP))))); clear h hat hnsi hN0 hg0 hrow hP
  have hcl := fun (wx : World) (hc : Chg w wx (fun _ => False)) => dk.clone_any bs N0 _ wx (H.out.2.2.2.2.1.chg hc id)
  have HCL := Lib.hid hcl; clear hcl
  go_enter Try.func20, Try.ntmps20
  go_upto_region 4 with (go_at_call 47; refine HPK.out.mono ?_; rintro e w1 ⟨A1, n1, c1, rfl, h1, h2, h3⟩; have H1 := Lib.hid (And.intro h1 (And.intro h2 h3)); clear h1 h2 h3)
  have hb1 := H1.out.2.1.blk H.out.1.blk id
  have j7 := hb1.cell 7 (v := .map (some bs)) rfl
  have j8 := hb1.cell 8 (v := .slice Av nsi cv) rfl
  have hpl1 := hb1.lt
  clear hb1 k7 k8
  go_upto_region 5 with (go_at_call 48; refine (HCL.out w1 H1.out.2.1).mono ?_; rintro e w2 ⟨rfl, h1, h2⟩; have H2 := Lib.hid (And.intro h1 h2); clear h1 h2)
  obtain ⟨mb, hmb⟩ : ∃ mb, mb = w1.heap.size := ⟨_, rfl⟩
  rw [← hmb] at H2
  try rw [← hmb]
  have hmbw : w.heap.size ≤ mb := by rw [hmb, H1.out.2.2]; exact Nat.le_refl _
  have hb02 : Below w.heap.size w w2 := (H1.out.2.1.below (Nat.le_refl _) fun _ hh => hh.elim).trans (H2.out.2.mono (by omega))
  have HB2 := Lib.hid (And.intro hb02 hmb); clear hb02 hmb
  have hmn := eql_map_nil Try.underlying80 (some mb)
  simp only [Option.isNone_some] at hmn
  have hb2 := (chg_of (P := fun _ => False) HB2.out.1).blk H.out.1.blk id
  have i8 := hb2.cell 8 (v := .slice Av nsi cv) rfl
  have hpl2 := hb2.lt
  clear hb2 j7 j8
  go_upto_region 7 with fail
  go_wp2_with fail
  clear i8
  go_loopw [44] (fun i wx => ∃ k N : Nat, k ≤ hold ∧ i = .int .i64 (k : Int) ∧ N ≤ m + k ∧ GM strKey wx mb N (fun s => (dk.run D.safe (D.since.take k) s).map dk.ptr) ∧ Below w.heap.size w wx) (fun i _ => hold - (intOf i).toNat)
  case atStart => exact ⟨0, N0, by omega, rfl, H.out.2.2.2.1, H2.out.1, HB2.out.1⟩
  case round =>
    obtain ⟨k, N, hk, rfl, hN, hg, hb⟩ := hrel
    have HG := Lib.hid (And.intro hg hb); clear hg hb
    by_cases hlt : k < hold
    · have hlt' : (k : Int) < (hold : Int) := by omega
      obtain ⟨a, ha⟩ : ∃ a, D.since[k]? = some a := ⟨_, List.getElem?_eq_getElem (by rw [← H.out.2.2.1]; omega)⟩
      have hatr : At wr Av (nsi * 3) (fun j => (dk.row D.since).getD j undef) := H.out.2.1.below HG.out.2 (Nat.le_refl _)
      obtain ⟨q, hq⟩ : ∃ q : Option Addr, q = a.f.map fun b => ⟨b, 0, none⟩ := ⟨_, rfl⟩
      obtain ⟨b2, o2, rfl, hb2, hcel⟩ := hatr (by omega)
      have hget := fun j (hj : j < 3) => dk.row_get ha j hj
      have e0 : wr.cell? ⟨b2, o2 + k * 3, none⟩ = some (.string a.fr) := (hcel (k * 3) (by omega)).trans (by dsimp only; rw [List.getD_eq_getElem?_getD, show k * 3 = k * 3 + 0 from rfl, hget 0 (by omega)]; rfl)
      have e1 : wr.cell? ⟨b2, o2 + k * 3 + 1, none⟩ = some (.string a.to) := (hcel (k * 3 + 1) (by omega)).trans (by dsimp only; rw [List.getD_eq_getElem?_getD, hget 1 (by omega)]; rfl)
      have e2 : wr.cell? ⟨b2, o2 + k * 3 + 2, none⟩ = some (.pointer q) := (hcel (k * 3 + 2) (by omega)).trans (by dsimp only; rw [List.getD_eq_getElem?_getD, hget 2 (by omega), hq]; rfl)
      obtain ⟨f1, f2, f3⟩ := HKEPT.out.2.1 a (List.mem_of_getElem? ha)
      have HA := Lib.hid (And.intro ha (And.intro f1 (And.intro f2 f3))); clear ha f1 f2 f3 hatr hcel hget
      obtain ⟨z, hz⟩ : ∃ z, z = wr.heap.size := ⟨_, rfl⟩
      obtain ⟨w3, hw3⟩ : ∃ w3, w3 = wr.alloc (.cells #[.string a.fr, .string a.to, .pointer q] 96) := ⟨_, rfl⟩
      have hk3 : Blk w3 z 96 #[.string a.fr, .string a.to, .pointer q] := by rw [hw3, hz]; exact Blk.new _ _ _
      have hb3 : Below wr.heap.size wr w3 := by rw [hw3]; exact (Below.refl _ _).alloc (Nat.le_refl _) _
      have hg3 := HG.out.1.below hb3 HG.out.1.lt
      have hzw := hk3.lt
      have hdo := act.do_any a mb N _ w3 hg3 HA.out.2.1 HA.out.2.2.1 (by unfold maxLen; omega)
      rw [← dk.on_gon HA.out.2.2.2, show dk.opt a.f = .pointer q from by rw [hq]; rfl] at hdo
      clear hq
      have l0 : w3.cell? ⟨z, 0, none⟩ = some (.string a.fr) := hk3.cell 0 rfl
      have l1 : w3.cell? ⟨z, 1, none⟩ = some (.string a.to) := hk3.cell 1 rfl
      have l2 : w3.cell? ⟨z, 2, none⟩ = some (.pointer q) := hk3.cell 2 rfl
      have H3 := Lib.hid (And.intro hdo hb3); clear hdo hg3 hb3 hk3
      have HW3 := Lib.hid (And.intro hw3 hz); clear hw3 hz
      go_upto_region 10 with fail
      rw [← HW3.out.1, ← HW3.out.2]
      clear e0 e1 e2
      go_wp2_with (go_at_call 49; refine H3.out.1.mono ?_; rintro e w4 ⟨rfl, ⟨N4, hN4, hg4⟩, hc4⟩; have H4 := Lib.hid (And.intro hc4 (And.intro hg4 hN4)); clear hc4 hg4 hN4)
      go_roundw
      case rel =>
        refine ⟨k + 1, N4, by omega, by go_num, by have := H4.out.2.2; omega, ?_, (HG.out.2.trans (H3.out.2.mono HG.out.2.size)).trans (H4.out.1.below (Nat.le_trans HG.out.2.size H3.out.2.size) fun b e => by rw [e]; exact hmbw)⟩
        obtain ⟨h1, h2⟩ := List.getElem?_eq_some_iff.1 HA.out.1
        rw [List.take_succ_eq_append_getElem h1, h2]
        have := H4.out.2.1
        simp only [dk.run_snoc]
        exact this
      case measure => simp [intOf]; omega
    · obtain rfl : k = hold := by omega
      have hgn := HG.out.1
      have hbw := HG.out.2
      rw [← HKEPT.out.1] at hgn
      have HN := Lib.hid (And.intro hgn hbw); clear hgn hbw
      have hbw := (chg_of (P := fun _ => False) HN.out.2).blk H.out.1.blk id
      have j0 := hbw.cell 0 (v := .int .i64 D.room) rfl
      have hplr := hbw.lt
      clear hbw
      have hem := disk.empty_any D.room wr
      have HEM := Lib.hid hem; clear hem
      go_upto_region 13 with (go_at_call 34; refine HEM.out.mono ?_; rintro e w3 ⟨q, rfl, h1, h2⟩; have H3 := Lib.hid (And.intro h1 h2); clear h1 h2)
      have hgn3 := HN.out.1.below H3.out.2 HN.out.1.lt
      have hkey := dk.maps_keysP (some mb) w3
      have hsrt := dk.keys_risingP mb N _ w3 hgn3 (by omega)
      have HK := Lib.hid (And.intro hkey (And.intro hsrt hgn3)); clear hkey hsrt hgn3
      go_wp2_with (first
        | (go_at_call 51; refine HK.out.1.mono ?_; rintro e w4 ⟨rfl, rfl⟩)
        | (go_at_call 50; refine HK.out.2.1.mono ?_; rintro e w5 ⟨vk, ks, rfl, h1, h2, h3, h4, h5⟩; obtain ⟨Ak, ck, rfl, -⟩ := own_at h4; have H5 := Lib.hid (And.intro h1 (And.intro h2 (And.intro h3 (And.intro h4 h5)))); clear h1 h2 h3 h4 h5))
      have hlt3 := HN.out.1.lt
      obtain ⟨wa, hwa⟩ : ∃ wa, wa = w3.alloc (.cells #[.map (some mb)] 80) := ⟨_, rfl⟩
      have hba : Below w3.heap.size w3 wa := by rw [hwa]; exact (Below.refl _ _).alloc (Nat.le_refl _) _
      have hsa : wa.heap.size = w3.heap.size + 1 := by rw [hwa]; simp
      obtain ⟨h51, h52, h53, h54, h55⟩ := H5.out
      rw [← hwa] at h54 h55
      have hb35 : Below w3.heap.size w3 w5 := hba.trans (h55.mono hba.size)
      have hbr5 : Below wr.heap.size wr w5 := H3.out.2.trans (hb35.mono H3.out.2.size)
      have hbw5 : Below w.heap.size w w5 := HN.out.2.trans (hbr5.mono HN.out.2.size)
      have hg5 := HK.out.2.2.below hb35 HK.out.2.2.lt
      obtain ⟨Sq, bn', bs', dat', hq3⟩ := H3.out.1
      have hq5 := hq3.keep (chg_of (P := fun _ => False) hb35) fun _ _ q => q
      have hszs : w.heap.size ≤ wr.heap.size ∧ wr.heap.size ≤ w3.heap.size ∧ w3.heap.size ≤ w5.heap.size := ⟨HN.out.2.size, H3.out.2.size, hb35.size⟩
      have H6 := Lib.hid (And.intro h51 (And.intro h52 (And.intro h53 (And.intro h54 (And.intro hbw5 (And.intro hg5 (And.intro hq5 (And.intro hszs hsa))))))))
      clear h51 h52 h53 h54 h55 hba hsa hb35 hbr5 hbw5 hg5 hq5 hq3 hwa HK H5 hszs
      have hHolds0 : dk.Holds (Dsk.new D.room) D.room (dk.left D (D.kept ps) (ks.take 0) (D.rest ps)) := dk.Holds.start D.room (D.rest ps)
      have hpk0 := H1.out.1 w H.out.2.2.2.2.2
      go_loopw [1, 61] (fun s1 i wx => ∃ (k : Nat) (A' : Option Addr) (n' c' : Nat) (D' : Dsk) (F' S' : Nat → Prop) (dat2 : Nat → Value), s1 = .slice A' n' c' ∧ i = .int .i64 (k : Int) ∧ k ≤ N ∧ dk.Picks w A' n' c' (dk.left D (D.kept ps) (ks.take k) (D.rest ps)).picks ∧ dk.Holds D' D.room (dk.left D (D.kept ps) (ks.take k) (D.rest ps)) ∧ DskAt wx q D' F' k S' bn' bs' (.slice none 0 0) dat2 ∧ (∀ b, F' b → (wr.heap.size ≤ b ∧ b < w3.heap.size) ∨ w5.heap.size ≤ b) ∧ Chg w5 wx (fun b => wr.heap.size ≤ b ∧ b < w3.heap.size) ∧ (0 ≤ D'.used ∧ D'.used ≤ (k : Int) * 1099511627776)) (fun _ i _ => N - (intOf i).toNat)
      case atStart => exact ⟨0, A1, n1, c1, _, _, _, _, rfl, rfl, by omega, hpk0, hHolds0, H6.out.2.2.2.2.2.2.1, fun b hb => .inl hb, Chg.refl _ _, Int.le_refl _, Int.le_refl _⟩
      case round =>
        obtain ⟨j, A', n', c', D', F', S', dat2, rfl, rfl, hj, hpk, hho, hdq, hF', hch, hus⟩ := hrel
        rename World => ww
        by_cases hjn : j < N
        · have hjn' : (j : Int) < (N : Int) := by omega
          obtain ⟨s, hs⟩ : ∃ s, ks[j]? = some s := ⟨_, List.getElem?_eq_getElem (by rw [H6.out.2.1]; exact hjn)⟩
          obtain ⟨hssz, hsome⟩ := (H6.out.1.2 s).1 (List.mem_of_getElem? hs)
          obtain ⟨f, hf⟩ : ∃ f, D.kept ps s = some f := by
            have hsome : ((D.kept ps s).map dk.ptr).isSome = true := hsome
            cases h : D.kept ps s with
            | none => rw [h] at hsome; cases hsome
            | some f => exact ⟨f, rfl⟩
          have hHas : D.Has f := by
            have h := hf
            rw [HKEPT.out.1] at h
            rcases dk.run_has h with h | ⟨a, ha, e⟩
            · exact .inr (.inl h)
            · exact .inr (.inr ⟨a, List.mem_of_mem_take ha, e⟩)
          have hSf := H.out.1.has f hHas
          have hshf := HKEPT.out.2.2 f hHas
          obtain ⟨x, hx⟩ : ∃ x, x = dk.left D (D.kept ps) (ks.take j) (D.rest ps) := ⟨_, rfl⟩
          rw [← hx] at hpk hho
          obtain ⟨L, hL⟩ : ∃ L, L = (D.file f).data.length := ⟨_, rfl⟩
          obtain ⟨sf, hsf⟩ : ∃ sf, sf = (D.file f).safe := ⟨_, rfl⟩
          rw [← hL, ← hsf] at hshf
          have hkeep : dk.keepOf (D.file f) x.picks = if 0 < (L : Int) - (sf : Int) then ((sf : Int) + (dk.pick x.picks ((L : Int) - (sf : Int))).1, (dk.pick x.picks ((L : Int) - (sf : Int))).2) else ((sf : Int), x.picks) := by unfold dk.keepOf; rw [← hL, ← hsf]
          obtain ⟨sz, hsz1, hsz2⟩ : ∃ sz : Nat, (dk.keepOf (D.file f) x.picks).1 = (sz : Int) ∧ sz ≤ L := by
            rw [hkeep]
            by_cases h0 : 0 < (L : Int) - (sf : Int)
            · rw [if_pos h0]
              have hle := dk.pick_le (L := x.picks) (most := (L : Int) - (sf : Int)) (by omega)
              exact ⟨((sf : Int) + (dk.pick x.picks ((L : Int) - (sf : Int))).1).toNat, (Int.toNat_of_nonneg (by omega)).symm, by omega⟩
            · rw [if_neg h0]
              exact ⟨sf, rfl, hshf.1⟩
          have hszs := H6.out.2.2.2.2.2.2.2.1
          have hbw : Below w.heap.size w ww := H6.out.2.2.2.2.1.trans (hch.below (B := w.heap.size) (by omega) fun b hb => by omega)
          have hfile := (H.out.1.file f hSf).chg (chg_of (P := fun _ => False) hbw) id fun _ _ h => h
          obtain ⟨Af, cf, hA, hLc, -, hatf⟩ := own_bytes hfile.2.1
          rw [← hL] at hA hLc hatf
          have d0 := hfile.1.cell 0 (v := dat f) rfl
          rw [hA] at d0
          have d1 := hfile.1.cell 1 (v := .int .i64 ((D.file f).safe : Int)) rfl
          rw [← hsf] at d1
          have hfl := hfile.1.lt
          have hg := H6.out.2.2.2.2.2.1.chg hch fun hh => by omega
          have hlook := hg.look1 Try.underlying80 (dk.zeroF ww) s hssz
          have hlk : (Instr.lookup 80 (.map (some mb)) (.string s) false).run Try.prog ww = .ok (.pointer (some ⟨f, 0, none⟩)) ww := by
            rw [hf] at hlook
            exact hlook
          clear hlook
          obtain ⟨Ak2, ck2, ek, -, hatk⟩ := own_at H6.out.2.2.2.1
          have ek : Ak = Ak2 ∧ ck = ck2 := by simpa using ek
          obtain ⟨rfl, rfl⟩ := ek
          have hatk2 : At ww Ak (N * 1) _ := hch.at' hatk fun _ b off e hb => by
            have h1 := (H6.out.2.2.2.1.lt b (by rw [e]; rfl)).1
            have h2 := H6.out.2.2.2.2.2.2.2.2
            omega
          obtain ⟨bk, ok, rfl, hbk, hcelk⟩ := hatk2 (by omega)
          have q0 : ww.cell? ⟨bk, ok + j, none⟩ = some (.string s) := (hcelk j (by omega)).trans (by rw [List.getD_eq_getElem?_getD, List.getElem?_map, hs]; rfl)
          have HJ := Lib.hid (And.intro hs (And.intro hssz (And.intro hf (And.intro hx (And.intro hL (And.intro hsf (And.intro hkeep (And.intro hsz1 (And.intro hbw (And.intro hfile (And.intro hA (And.intro hatf hSf))))))))))))
          have HQ := Lib.hid (And.intro hpk (And.intro hho (And.intro hdq (And.intro hF' (And.intro hch hus)))))
          clear hs hf hx hL hsf hkeep hsz1 hbw hfile hA hatf hSf hpk hho hdq hF' hch hus hg hatk hatk2 hcelk hHas hsome hpk0 hHolds0
          go_upto_region 18 with fail
          go_wp2_with fail
          go_quiet (fail)
          go_upto_if 83 with fail
          obtain ⟨w6, hw6⟩ : ∃ w6, w6 = ww.drewN nq := ⟨_, rfl⟩
          rw [← hw6]
          have hc6 : Chg ww w6 (fun _ => False) := by rw [hw6]; exact (Chg.refl _ _).drewN _
          have hs6 : w6.heap.size = ww.heap.size := by rw [hw6]; rfl
          have HW6 := Lib.hid (And.intro hc6 hs6)
          clear hc6 hs6 hw6 d0 d1 q0 hlk
          go_cut [1, 13] from 62 to 123 (fun s1 s13 wx => ∃ (A2 : Option Addr) (n2 c2 : Nat), s1 = .slice A2 n2 c2 ∧ s13 = .int .i64 (sz : Int) ∧ dk.Picks w A2 n2 c2 (dk.keepOf (D.file f) x.picks).2 ∧ Chg ww wx (fun _ => False) ∧ wx.heap.size = ww.heap.size)
          case first =>
            have hkeep := HJ.out.2.2.2.2.2.2.1
            have hsz1 := HJ.out.2.2.2.2.2.2.2.1
            by_cases h0 : 0 < (L : Int) - (sf : Int)
            · rw [if_pos h0] at hkeep
              obtain ⟨m1, hm1⟩ : ∃ m1, m1 = (dk.pick x.picks ((L : Int) - (sf : Int))).1 := ⟨_, rfl⟩
              have hpk6 : dk.Picks w6 A' n' c' x.picks := HQ.out.1.chg ((chg_of (P := fun _ => False) HJ.out.2.2.2.2.2.2.2.2.1).trans HW6.out.1 fun _ _ h => h) fun _ h => h.elim
              have hpick := disk.pick_any A' n' c' x.picks ((L : Int) - (sf : Int)) w6 hpk6 (by omega)
              have hle := dk.pick_le (L := x.picks) (most := (L : Int) - (sf : Int)) (by omega)
              rw [← hm1] at hpick hle
              have hm2 : (sf : Int) + m1 = (sz : Int) := by rw [← hsz1, hkeep, hm1]
              have HPK2 := Lib.hid (And.intro hpick (And.intro hm2 hkeep)); clear hpick hm1 hm2 hkeep hsz1 hpk6
              have hd : decide (0 < (L : Int) - (sf : Int)) = true := decide_eq_true h0
              go_wp2_with (go_at_call 47; refine HPK2.out.1.mono ?_; rintro e w7 ⟨A2, n2, c2, rfl, h1, h2, h3⟩; have H7 := Lib.hid (And.intro h1 (And.intro h2 h3)); clear h1 h2 h3)
              go_meet
              case rel =>
                exact ⟨A2, n2, c2, rfl, by rw [HPK2.out.2.1], by rw [HPK2.out.2.2]; exact H7.out.1 w HQ.out.1, HW6.out.1.trans H7.out.2.1 fun _ _ h => h, by rw [H7.out.2.2, HW6.out.2]⟩
            · rw [if_neg h0] at hkeep
              have hm2 : (sf : Int) = (sz : Int) := by rw [← hsz1, hkeep]
              have HPK2 := Lib.hid (And.intro hm2 hkeep); clear hm2 hkeep hsz1
              have hd : decide (0 < (L : Int) - (sf : Int)) = false := decide_eq_false h0
              go_wp2_with fail
              go_meet
              case rel =>
                exact ⟨A', n', c', rfl, by rw [HPK2.out.1], by rw [HPK2.out.2]; exact HQ.out.1, HW6.out.1, HW6.out.2⟩
          case rest =>
            obtain ⟨A2, n2, c2, rfl, rfl, hpk2, hcw, hss⟩ := hcut
            have hfc := HJ.out.2.2.2.2.2.2.2.2.2.1.chg hcw id fun _ _ h => h
            have hA := HJ.out.2.2.2.2.2.2.2.2.2.2.1
            have hatf := hcw.at' HJ.out.2.2.2.2.2.2.2.2.2.2.2.1 fun _ _ _ _ h => h
            have d0 := hfc.1.cell 0 (v := dat f) rfl
            rw [hA] at d0
            have hflc := hfc.1.lt
            have hL := HJ.out.2.2.2.2.1
            obtain ⟨bb, hbb⟩ : ∃ bb, bb = (D.file f).data.take sz := ⟨_, rfl⟩
            have hbl : bb.length = sz := by rw [hbb, List.length_take]; omega
            have hatb : At wc Af sz (byteAt bb) := (hatf.le hsz2).congr fun i hi => by
              unfold byteAt
              rw [hbb, List.getD_eq_getElem?_getD, List.getD_eq_getElem?_getD, List.getElem?_take_of_lt hi]
            have hclone := clone_any Af sz cf bb wc hbl (by omega) hatb
            have HCL2 := Lib.hid (And.intro hclone (And.intro hpk2 (And.intro hcw (And.intro hss (And.intro hbb hbl))))); clear hclone hpk2 hcw hss hbb hbl hatb hatf hfc hA hL
            go_upto_region 24 with (go_at_call 44; refine HCL2.out.1.mono ?_; rintro e w7 ⟨⟨v7, rfl, h3⟩, h4⟩; obtain ⟨A7, c7, rfl, -⟩ := own_at h3; have H7 := Lib.hid (And.intro h3 h4); clear h3 h4)
            obtain ⟨-, hpk2, hcw, hss, hbb, hbl⟩ := HCL2.out
            obtain ⟨hpk, hho, hdq, hF', hch, hus⟩ := HQ.out
            obtain ⟨g, hgw⟩ : ∃ g, g = w7.heap.size := ⟨_, rfl⟩
            obtain ⟨w8, hw8⟩ : ∃ w8, w8 = w7.alloc (.cells #[.slice A7 sz c7, .int .i64 (sz : Int)] 86) := ⟨_, rfl⟩
            have hgk : Blk w8 g 86 #[.slice A7 sz c7, .int .i64 (sz : Int)] := by rw [hw8, hgw]; exact Blk.new _ _ _
            have hb78 : Below w7.heap.size w7 w8 := by rw [hw8]; exact (Below.refl _ _).alloc (Nat.le_refl _) _
            have hs7 := H7.out.2.size
            have hbc8 : Below wc.heap.size wc w8 := H7.out.2.trans (hb78.mono hs7)
            have hown8 := (chg_of (P := fun _ => False) hb78).own H7.out.1 fun _ _ h => h
            have hdc := hdq.keep hcw fun _ _ h => h
            have hd8 := hdc.keep (chg_of (P := fun _ => False) hbc8) fun _ _ h => h
            have hmap := Try.underlying80
            have hfeet := H6.out.2.2.2.2.2.2.1.foot
            have hszs := H6.out.2.2.2.2.2.2.2.1
            have hchs := hch.size
            obtain ⟨Nn, hNn, hgn⟩ := hd8.now
            obtain ⟨w9, hrun9, hg9, hc9, hs9⟩ := hgn.store hmap s hssz (dk.ptr g) (by unfold maxLen; omega)
            obtain ⟨Ns, hNs, hgs⟩ := hd8.safe
            have hgs9 := hgs.chg hc9 fun e => hd8.ne e.symm
            obtain ⟨w10, hrun10, hg10, hc10, hs10⟩ := hgs9.store hmap s hssz (dk.ptr g) (by unfold maxLen; omega)
            have hqn := hgn.not_blk hd8.blk
            have hqs := hgs.not_blk hd8.blk
            have hq9 := hc9.blk hd8.blk hqn
            have hq10 := hc10.blk hq9 hqs
            have y6 := hd8.blk.cell 6 (v := .map (some bn')) rfl
            have y7 := hq9.cell 7 (v := .map (some bs')) rfl
            have y1 := hq10.cell 1 (v := .int .i64 D'.used) rfl
            have yz := hq10.frozen 1
            have yl8 := hd8.blk.lt
            have yl9 := hq9.lt
            have yl10 := hq10.lt
            have r9 : (Instr.mapUpdate 80 (.map (some bn')) (.string s) (.pointer (some ⟨g, 0, none⟩))).run Try.prog w8 = .ok () w9 := hrun9
            have r10 : (Instr.mapUpdate 80 (.map (some bs')) (.string s) (.pointer (some ⟨g, 0, none⟩))).run Try.prog w9 = .ok () w10 := hrun10
            obtain ⟨w11, hw11⟩ : ∃ w11, w11 = w10.setCell ⟨q, 1, none⟩ (.int .i64 (D'.used + (sz : Int))) := ⟨_, rfl⟩
            have hc11 : Chg w10 w11 (fun b => b = q) := by rw [hw11]; exact Chg.setCell _ _ _ _
            have hq11 := hq10.set 1 (.int .i64 (D'.used + (sz : Int)))
            rw [← hw11] at hq11
            have hfl0 := hdc.foot
            have hql := hdc.lt q hfl0.1
            have hnl := hdc.lt bn' hfl0.2.1
            have hsl := hdc.lt bs' hfl0.2.2.1
            obtain ⟨R, hR⟩ : ∃ R : Nat → Prop, R = fun b => b = q ∨ b = bn' ∨ b = bs' := ⟨_, rfl⟩
            have hRl : ∀ b, R b → b < wc.heap.size := fun b hb => by
              rw [hR] at hb
              rcases hb with rfl | rfl | rfl <;> assumption
            have hcq : Chg w10 w11 R := hc11.mono fun b _ e => by rw [hR]; exact .inl e
            have hcs : Chg w9 w11 R := (hc10.mono (Q := R) fun b _ e => by rw [hR]; exact .inr (.inr e)).trans hcq fun _ _ e => e
            have hcn : Chg w8 w11 R := (hc9.mono (Q := R) fun b _ e => by rw [hR]; exact .inr (.inl e)).trans hcs fun _ _ e => e
            have hcall : Chg wc w11 R := (chg_of (P := R) hbc8).trans hcn fun _ _ e => e
            have hgR : ¬ R g := fun e => by have := hRl g e; omega
            have hfile11 : FileAt w11 g ⟨bb, bb.length⟩ (.slice A7 sz c7) := by
              refine ⟨?_, ?_, fun y hy => HJ.out.2.2.2.2.2.2.2.2.2.1.2.2 y (List.mem_of_mem_take (by rw [← hbb]; exact hy))⟩
              · have := hcn.blk hgk hgR
                show Blk w11 g 86 #[.slice A7 sz c7, .int .i64 ((bb.length : Nat) : Int)]
                rw [hbl]
                exact this
              · have := hcn.own hown8 fun k hk e => by
                  have h1 := (hown8.lt k hk).1
                  have h2 := hRl k e
                  omega
                have := ownsRow_base this (Nat.zero_le _)
                show w11.ownsRow 0 _ 1 _ bb.length (u8s bb)
                rw [hbl]
                exact this
            have hn11 : NamesAt w11 bn' (dk.put D'.now s (some g)) (j + 1) := by
              refine ⟨_, ?_, by rw [dk.put_map]; exact (hg9.chg hc10 hd8.ne).chg hc11 fun e => hqn e.symm⟩
              split <;> omega
            have hs11 : NamesAt w11 bs' (dk.put D'.safe s (some g)) (j + 1) := by
              refine ⟨_, ?_, by rw [dk.put_map]; exact hg10.chg hc11 fun e => hqs e.symm⟩
              split <;> omega
            have hsw : wc.heap.size ≤ g := by rw [hgw]; exact hs7
            have had := hdc.adopt hho.plain.2.2.2.2 s g bb (D'.used + (sz : Int)) (.slice A7 sz c7) (by rw [← hR]; exact hcall) hsw hfile11 (fun k hk => (hown8.lt k hk).1) hq11 hn11 hs11
            have hol := hho.adopt s g bb (D'.used + (sz : Int)) (dk.keepOf (D.file f) x.picks).2 fun t e => by
              have := hdc.lt g (hdc.foot.2.2.2.2 g (hdc.has g (.inl ⟨t, e⟩))).1
              omega
            have hnext : dk.left D (D.kept ps) (ks.take (j + 1)) (D.rest ps) = ⟨fun t => if t = s then some bb else x.by_ t, D'.used + (sz : Int), (dk.keepOf (D.file f) x.picks).2⟩ := by
              obtain ⟨h1, h2⟩ := List.getElem?_eq_some_iff.1 HJ.out.1
              rw [List.take_succ_eq_append_getElem h1, h2, dk.left_snoc, ← HJ.out.2.2.2.1]
              unfold dk.leftStep
              rw [HJ.out.2.2.1]
              dsimp only
              rw [HJ.out.2.2.2.2.2.2.2.1, Int.toNat_natCast, ← hbb, hho.used]
            rw [← hnext] at hol
            have hRr : ∀ b, R b → wr.heap.size ≤ b ∧ b < w3.heap.size := fun b hb => by
              rw [hR] at hb
              rcases hb with rfl | rfl | rfl
              · exact hfeet.1
              · exact hfeet.2.1
              · exact hfeet.2.2.1
            have hch11 : Chg w5 w11 (fun b => wr.heap.size ≤ b ∧ b < w3.heap.size) := (hch.trans hcw fun _ _ h => h.elim).trans hcall fun b _ e => hRr b e
            have hF11 : ∀ b, dk.grow F' wc w11 b → (wr.heap.size ≤ b ∧ b < w3.heap.size) ∨ w5.heap.size ≤ b := fun b hb => by
              rcases hb.1 with h | h
              · exact hF' b h
              · exact .inr (by omega)
            have hpkn : dk.Picks w A2 n2 c2 (dk.left D (D.kept ps) (ks.take (j + 1)) (D.rest ps)).picks := by rw [hnext]; exact hpk2
            have hz2 := H6.out.2.1
            have hus2 : (0 : Int) ≤ D'.used + (sz : Int) ∧ D'.used + (sz : Int) ≤ ((j + 1 : Nat) : Int) * 1099511627776 := by omega
            have hbnd : D'.used + (sz : Int) ≤ 9000000000000000000 := by omega
            have HFIN := Lib.hid (And.intro hpkn (And.intro hol (And.intro had (And.intro hF11 (And.intro hch11 hus2)))))
            have hus0 := hus.1
            clear hpkn hol had hF11 hch11 hus2 hz2 hRr hnext hsw hs11 hn11 hfile11 hgR hcall hcn hcs hcq hRl hR hsl hnl hql hfl0 hq11 hc11 hrun9 hrun10 hq9 hq10 hqn hqs hg9 hg10 hgs9 hc9 hc10 hgn hgs hd8 hdc hown8 hbc8 hb78 hgk hpk hho hdq hF' hch hpk2 hcw hss hbb hbl hfeet hmap hNn hNs hus hchs
            rw [← hw8, ← hgw]
            clear hw8 hgw d0
            go_wp2_with fail
            rw [← hw11]
            go_roundw
            case rel => exact ⟨j + 1, A2, n2, c2, _, _, _, _, rfl, by go_num, by omega, HFIN.out.1, HFIN.out.2.1, HFIN.out.2.2.1, HFIN.out.2.2.2.1, HFIN.out.2.2.2.2.1, HFIN.out.2.2.2.2.2⟩
            case measure => simp [intOf]; omega
        · obtain rfl : j = N := by omega
          rw [List.take_of_length_le (by rw [H6.out.2.1]; exact Nat.le_refl _)] at hho
          have hs := H6.out.2.2.2.2.2.2.2.1
          have hsz := hch.size
          have hbl := H6.out.2.2.2.2.1.trans (hch.below (B := w.heap.size) (by omega) fun b hb => by omega)
          have hwd := hdq.wide (F' := dk.fresh w ww) (fun b hb => ⟨by rcases hF' b hb with h | h <;> omega, hdq.lt b hb⟩) fun _ hb => hb.2
          have HFIN := Lib.hid (And.intro hho (And.intro hwd hbl)); clear hho hwd hbl hdq hF' hch hpk hus
          go_wp2_with fail
          go_ret
          exact ⟨q, ks, D', rfl, H6.out.1, H6.out.2.2.1, HFIN.out.1, ⟨S', bn', bs', _, dat2, by rw [H6.out.2.1]; exact HFIN.out.2.1⟩, HFIN.out.2.2⟩
end Go.Proofs.Ythffkbcjidbdaaa

/- Law 4's awake. -/
import Derived.Test.YthffkbcjidbdaaaDkM
import Derived.Test.YthffkbcjidbdaaaFrz
namespace Go.Proofs.Ythffkbcjidbdaaa
open Go.RowKit Go.Maps
set_option maxRecDepth 100000

theorem dk.one_near {room ops : Int} {f : Nat} {b : List Nat} {sf : Nat} {safe : DNames} {since : List DAct} {fl : Nat → FileV} (h : 0 ≤ ops ∧ ops ≤ 1000000) : (dk.one room ops f b sf safe since fl).near := by
  refine ⟨?_, fun h => by cases h⟩
  show -4611686018427387904 ≤ ops ∧ ops ≤ 4611686018427387904
  omega
theorem dk.fine_one (f : Nat) : dk.fine [dk.act1 f] := fun a ha => by
  rw [List.mem_singleton.1 ha]
  exact ⟨Nat.zero_le _, dk.X_le, fun _ h => by cases h⟩
theorem dk.picks_nil (w : World) : dk.Picks w none 0 0 [] := ⟨fun h => absurd h (by omega), rfl, Nat.le_refl _, Nat.zero_le _, fun x h => by cases h⟩
theorem dk.one_bytes {room ops : Int} {f : Nat} {b : List Nat} {sf : Nat} {safe : DNames} {since : List DAct} {fl : Nat → FileV} : (dk.one room ops f b sf safe since fl).bytes dk.X = b := by
  have hn : (dk.one room ops f b sf safe since fl).now dk.X = some f := by
    show (if dk.X = dk.X then some f else Option.none) = some f
    rw [if_pos rfl]
  unfold Dsk.bytes
  rw [hn]
  show (if f = f then (⟨b, sf⟩ : FileV) else fl f).data = b
  rw [if_pos rfl]
/-- A new disk gets its first file. -/
theorem dk.first_any (room : Int) (A : Option Addr) (n c : Nat) (b : List Nat) (p : Nat) (F : Nat → Prop) (w : World) (h : DskIn w p (Dsk.new room) F 0) (hat : At w A n (byteAt b)) (hbl : b.length = n) (hb : ∀ x ∈ b, x < 256) (hX : ∀ k off, A = some ⟨k, off, none⟩ → 0 < n → ¬ F k) (hr : (n : Int) ≤ room) (hr2 : room ≤ 1099511627776) (hn : n ≤ 4294967296) :
    Calls Try.prog 22 #[.pointer (some ⟨p, 0, none⟩), .string dk.X, .slice A n c] w fun e w' => e = .returned (.int .i64 0) ∧ (∃ f fl, DskIn w' p (dk.one room 1 f b 0 (fun _ => none) [dk.act1 f] fl) (dk.grow F w w') 1) ∧ Chg w w' F := by
  refine (disk.App_any dk.X A n c b p (Dsk.new room) F 0 w h dk.X_le ⟨⟨by show -4611686018427387904 ≤ (0 : Int); decide, by show (0 : Int) ≤ 4611686018427387904; decide⟩, fun h => by cases h⟩ hat hbl hb hX ⟨Int.le_refl _, by show (0 : Int) ≤ room; omega, hr2⟩ hn (Nat.zero_le _) (by omega) (by show 0 ≤ _; omega)).mono ?_
  rintro e w' ⟨h1, ⟨f, -, h2⟩, h3⟩
  obtain ⟨h4, fl, h5⟩ := dk.app_new room b f (by rw [hbl]; exact hr)
  rw [h4] at h1
  rw [h5] at h2
  exact ⟨h1, ⟨f, fl, h2⟩, h3⟩
theorem dk.make (n : Nat) (hn : n ≤ 3000) : ∃ Z : Array Value, ∀ wx : World, (Instr.makeSlice 34 (.int .i64 (n : Int)) (.int .i64 (n : Int))).run Try.prog wx = .ok (.slice (some ⟨wx.heap.size, 0, Option.none⟩) n n) (wx.alloc (.cells Z 5)) ∧ At (wx.alloc (.cells Z 5)) (some ⟨wx.heap.size, 0, Option.none⟩) n (byteAt (List.replicate n 0)) := by
  obtain ⟨iu, hu, hu0, hu1, hu2⟩ := info_parts infoByte
  refine ⟨madeCells (Value.int .u8 0).cells (n * 1), fun wx => ⟨?_, fun h0 => ?_⟩⟩
  · have hr := run_make (P := Try.prog) wx 34 5 iu (.int .u8 0) Try.underlying34 hu hu0 .i64 .i64 (n : Int) (n : Int) (by omega) (Int.le_refl _) (by rw [hu2]; omega) (by omega)
    rw [hu1, Int.toNat_natCast] at hr
    exact hr
  · have hb := Blk.new wx 5 (madeCells (Value.int .u8 0).cells (n * 1))
    refine ⟨wx.heap.size, 0, rfl, hb.lt, fun j hj => ?_⟩
    rw [Nat.zero_add]
    refine hb.cell j ?_
    unfold madeCells byteAt
    simp [Value.cells, hj, List.getD, Nat.mod_one]
theorem dk.app_full {room ops : Int} {f : Nat} {b c : List Nat} {sf : Nat} {safe : DNames} {since : List DAct} {fl : Nat → FileV} (h : room < (b.length : Int) + (c.length : Int)) : (dk.one room ops f b sf safe since fl).appE dk.X c = 4 := by
  obtain ⟨h1, -, -⟩ := dk.come0 (D := dk.one room ops f b sf safe since fl) rfl rfl
  unfold Dsk.appE
  rw [if_neg (by rw [h1]; simp), if_pos (by show room - (b.length : Int) < _; omega)]
set_option maxHeartbeats 4000000 in
theorem law4.awake_any (w : World) : Calls Try.prog 11 #[] w fun e w' => e = .returned (.bool true) ∧ Below w.heap.size w w' := by
  have hnew := disk.New_any 10 w (by omega)
  have HNEW := Lib.hid hnew; clear hnew
  go_enter Try.func11, Try.ntmps11
  go_upto_region 2 with (go_at_call 12; refine HNEW.out.mono ?_; rintro e w1 ⟨p, rfl, h1, h2⟩; have H1 := Lib.hid (And.intro h1 h2); clear h1 h2)
  have hnb := disk.New_bad (-1) w1 (by omega)
  have HNB := Lib.hid hnb; clear hnb
  obtain ⟨wa, hwa⟩ : ∃ wa, wa = w1.alloc (.cells #[.int .u8 97, .int .u8 98] 5 (2, 3)) := ⟨_, rfl⟩
  have hba : Below w1.heap.size w1 wa := by rw [hwa]; exact (Below.refl _ _).alloc (Nat.le_refl _) _
  have hata : At wa (some ⟨w1.heap.size, 0, none⟩) 2 (byteAt [97, 98]) := by
    rw [hwa]
    exact (At.new w1 #[.int .u8 97, .int .u8 98] 5 (n := 2) rfl).congr fun j hj => by match j, hj with | 0, _ => rfl | 1, _ => rfl
  have happ := dk.first_any 10 (some ⟨w1.heap.size, 0, none⟩) 2 2 [97, 98] p _ wa (H1.out.1.below hba) hata rfl (by simp) (fun k off e _ hF => by
    have h1 : w1.heap.size = k := by simpa using congrArg (fun o => o.map Addr.block) e
    have h2 := hF.2
    omega) (by omega) (by omega) (by omega)
  rw [hwa] at happ
  have k1 : (convert 34 34 (.slice (some ⟨w1.heap.size, 0, none⟩) 2 2)).run Try.prog (w1.alloc (.cells #[.int .u8 97, .int .u8 98] 5)) = .ok (.slice (some ⟨w1.heap.size, 0, none⟩) 2 2) (w1.alloc (.cells #[.int .u8 97, .int .u8 98] 5 (2, 3))) := conv_mark 34 5 Try.underlying34 Try.underlying5 w1 #[.int .u8 97, .int .u8 98] 2 2 _ rfl
  have HAPP := Lib.hid happ; clear happ hata
  have HBA := Lib.hid (And.intro hba hwa); clear hba hwa
  go_upto_region 6 with (first
    | (go_at_call 12; refine HNB.out.mono ?_; rintro e w2 ⟨rfl, rfl⟩)
    | (go_at_call 22; refine HAPP.out.mono ?_; rintro e wb ⟨rfl, ⟨f, fl, h1⟩, h2⟩; have H2 := Lib.hid (And.intro h1 h2); clear h1 h2))
  have hcr := disk.Crash_any none 0 0 [] p _ _ 1 wb H2.out.1 (dk.picks_nil wb) (dk.fine_one f) (by omega) (by show 1 ≤ _; omega) (dk.one_short (fun s g e => by cases e) (fun a ha => by rw [List.mem_singleton.1 ha]; rfl) (Nat.zero_le _) (by simp))
  have HCR := Lib.hid hcr; clear hcr
  go_upto_region 7 with (go_at_call 20; refine HCR.out.mono ?_; rintro e wc ⟨q1, ks1, E1, rfl, h1, -, h2, h3, h4⟩; have hE1 := dk.crash_none (fun _ => rfl) h1 h2; have H3 := Lib.hid (And.intro hE1 (And.intro h3 h4)); clear h1 h2 h3 h4 hE1)
  have hsy := disk.Sync_any dk.X p _ _ 1 wc (H2.out.1.below H3.out.2.2) dk.X_le (dk.one_near (by omega))
  rw [dk.sync_one] at hsy
  have HSY := Lib.hid hsy; clear hsy
  go_upto_region 8 with (go_at_call 23; refine HSY.out.mono ?_; rintro e wd ⟨rfl, h1, h2⟩; have H4 := Lib.hid (And.intro h1 h2); clear h1 h2)
  have hsd := disk.SyncDir_any p _ _ 1 wd H4.out.1 (dk.one_near (by omega)) (dk.fine_one f) (by omega) (by show 1 ≤ _; omega)
  rw [dk.dir_one] at hsd
  have HSD := Lib.hid hsd; clear hsd
  go_upto_region 9 with (go_at_call 24; refine HSD.out.mono ?_; rintro e we ⟨rfl, h1, h2⟩; have H5 := Lib.hid (And.intro h1 h2); clear h1 h2)
  have hcr := disk.Crash_any none 0 0 [] p _ _ 2 we H5.out.1 (dk.picks_nil we) (fun a ha => by cases ha) (by omega) (by show 0 ≤ _; omega) (dk.one_short (fun s g e => by
      have e : (if s = dk.X then some f else none) = some g := e
      split at e
      · simpa using e.symm
      · cases e) (fun a ha => by cases ha) (Nat.le_refl _) (by simp))
  have HCR2 := Lib.hid hcr; clear hcr
  go_upto_region 10 with (go_at_call 20; refine HCR2.out.mono ?_; rintro e wf ⟨q2, ks2, E2, rfl, h1, -, h2, h3, h4⟩; have hE2 := (dk.crash_one h1 h2).1; have H6 := Lib.hid (And.intro hE2 (And.intro h3 h4)); clear h1 h2 h3 h4 hE2)
  go_upto_region 12 with fail
  obtain ⟨Z, hZ⟩ := dk.make 9 (by omega)
  obtain ⟨k9, hat9⟩ := hZ wf
  have k9 : (Instr.makeSlice 34 (.int .i64 9) (.int .i64 9)).run Try.prog wf = .ok (.slice (some ⟨wf.heap.size, 0, none⟩) 9 9) (wf.alloc (.cells Z 5)) := k9
  obtain ⟨wg, hwg⟩ : ∃ wg, wg = wf.alloc (.cells Z 5) := ⟨_, rfl⟩
  rw [← hwg] at k9 hat9
  have hbg : Below wf.heap.size wf wg := by rw [hwg]; exact (Below.refl _ _).alloc (Nat.le_refl _) _
  have hpg := (H5.out.1.below H6.out.2.2).below (hbg.mono (Nat.le_refl _))
  have ha := disk.App_any dk.X (some ⟨wf.heap.size, 0, none⟩) 9 9 (List.replicate 9 0) p _ _ _ wg hpg dk.X_le (dk.one_near (by omega)) hat9 (by simp) (fun x hx => by rw [List.eq_of_mem_replicate hx]; decide) (fun k off e _ hF => by
    have h1 : wf.heap.size = k := by simpa using congrArg (fun o => o.map Addr.block) e
    have h2 := hF.2
    have h3 := H6.out.2.2.size
    omega) ⟨by show (0 : Int) ≤ (([97, 98] : List Nat).length : Int); decide, by show (([97, 98] : List Nat).length : Int) ≤ 10; decide, by show (10 : Int) ≤ 1099511627776; decide⟩ (by omega) (by rw [dk.one_bytes]; decide) (by show 1 + 1 ≤ _; omega) (by show 0 ≤ _; omega)
  rw [dk.app_full (by decide)] at ha
  have HA := Lib.hid (And.intro ha hbg); clear ha hpg hat9 hZ hwg hbg
  have hwa := HBA.out.2
  subst hwa
  have hq1 : ∀ wx, Chg wg wx (dk.grow (dk.grow (dk.grow (dk.fresh w w1) (w1.alloc (.cells #[.int .u8 97, .int .u8 98] 5 (2, 3))) wb) wc wd) wd we) → DskIn wx q1 E1 (dk.fresh wb wc) ks1.length ∧ DskIn wx q2 E2 (dk.fresh we wf) ks2.length ∧ Below w.heap.size w wx := fun wx hx => by
    have s1 := H1.out.2.size
    have s2 := HBA.out.1.size
    have s3 := H2.out.2.size
    have s4 := H3.out.2.2.size
    have s5 := H4.out.2.size
    have s6 := H5.out.2.size
    have s7 := H6.out.2.2.size
    have s8 := HA.out.2.size
    have c1 := (H3.out.2.1.keep H4.out.2 fun k hk hp => by have h1 := hk.1; have h2 := hp.2; omega)
    have c2 := c1.keep H5.out.2 fun k hk hp => by
      have h1 := hk.1
      have h2 := hk.2
      rcases hp.1 with h | h
      · have := h.2; omega
      · omega
    have c3 := (c2.below H6.out.2.2).below HA.out.2
    refine ⟨c3.keep hx fun k hk hp => ?_, ((H6.out.2.1.below HA.out.2).keep hx fun k hk hp => ?_), ?_⟩
    · have h1 := hk.1
      have h2 := hk.2
      rcases hp.1 with h | h
      · rcases h.1 with h | h
        · have := h.2; omega
        · omega
      · omega
    · have h1 := hk.1
      have h2 := hp.2
      omega
    · have b1 := H1.out.2.trans (HBA.out.1.mono s1)
      have b2 := b1.trans (H2.out.2.below (B := w.heap.size) (by omega) fun k hk => hk.1)
      have b3 := b2.trans (H3.out.2.2.mono (by omega))
      have b4 := b3.trans (H4.out.2.below (B := w.heap.size) (by omega) fun k hk => by
        rcases hk.1 with h | h
        · exact h.1
        · omega)
      have b5 := b4.trans (H5.out.2.below (B := w.heap.size) (by omega) fun k hk => by
        rcases hk.1 with h | h
        · rcases h.1 with h | h
          · exact h.1
          · omega
        · omega)
      have b6 := (b5.trans (H6.out.2.2.mono (by omega))).trans (HA.out.2.mono (by omega))
      exact b6.trans (hx.below (B := w.heap.size) (by omega) fun k hk => by
        rcases hk.1 with h | h
        · rcases h.1 with h | h
          · rcases h.1 with h | h
            · exact h.1
            · omega
          · omega
        · omega)
  have HQ := Lib.hid hq1; clear hq1
  have e1 := H3.out.1
  have e2 := H6.out.1
  have HE := Lib.hid (And.intro e1 e2); clear e1 e2
  go_wp2_with (go_at_call 22; refine HA.out.1.mono ?_; rintro e wh ⟨rfl, -, h1⟩; have H7 := Lib.hid (HQ.out wh h1); clear h1)
  have hz1 := disk.Size_any dk.X q1 E1 _ _ wh H7.out.1 dk.X_le
  rw [HE.out.1] at hz1
  refine hz1.mono ?_
  rintro e wi ⟨rfl, h1, -⟩
  have H8 := Lib.hid h1; clear h1 hz1
  go_wp2_with fail
  have hz2 := disk.Size_any dk.X q2 E2 _ _ wi (H7.out.2.1.below H8.out) dk.X_le
  rw [HE.out.2] at hz2
  refine hz2.mono ?_
  rintro e wj ⟨rfl, h1, -⟩
  have H9 := Lib.hid h1; clear h1 hz2
  go_wp2_with fail
  go_ret
  exact ⟨rfl, (H7.out.2.2.trans (H8.out.mono H7.out.2.2.size)).trans (H9.out.mono (Nat.le_trans H7.out.2.2.size H8.out.size))⟩
end Go.Proofs.Ythffkbcjidbdaaa

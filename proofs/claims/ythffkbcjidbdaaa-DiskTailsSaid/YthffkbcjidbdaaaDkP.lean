/- The walk of the law DiskNothing. -/
import Derived.Test.YthffkbcjidbdaaaDkO
namespace Go.Proofs.Ythffkbcjidbdaaa
open Go.RowKit Go.Maps
set_option maxRecDepth 100000

theorem dk.row_pos {w : World} {base : Nat} {e : TypeId} {v : Value} {n : Nat} {L : List Nat} (h : w.ownsRow base e 1 v n (u8s L)) (hn : 0 < n) (hL : L.length = n) :
    ∃ g c, v = .slice (some ⟨g, 0, Option.none⟩) n c ∧ base ≤ g ∧ g < w.heap.size ∧ At w (some ⟨g, 0, Option.none⟩) n (byteAt L) ∧ w.cell? ⟨g, 0, Option.none⟩ = some (.int .u8 ((L.getD 0 0 : Nat) : Int)) ∧ w.frozen? ⟨g, 0, Option.none⟩ = false := by
  have h0 := h
  obtain ⟨A, c, hv, -, -, hat⟩ := own_bytes h
  rcases h.2 with ⟨h1, h2⟩ | ⟨g, cap, cur, h1, -, hg, -⟩
  · omega
  · rw [h1] at hv
    have hv' : some ⟨g, 0, Option.none⟩ = A ∧ cap = c := by simpa using hv
    obtain ⟨rfl, rfl⟩ := hv'
    have hlt := h0.lt g (by rw [h1]; rfl)
    refine ⟨g, cap, h1, hlt.1, hlt.2, hat, ?_, Blk.frozen (T := e) (cs := cur) hg 0⟩
    obtain ⟨b, off, e1, -, hc⟩ := hat hn
    have e' : g = b ∧ 0 = off := by simpa using e1
    obtain ⟨rfl, rfl⟩ := e'
    exact hc 0 hn
theorem dk.one_readE {room ops : Int} {f : Nat} {b : List Nat} {sf : Nat} {safe : DNames} {since : List DAct} {fl : Nat → FileV} : (dk.one room ops f b sf safe since fl).readE dk.X = 0 := by
  have hn : (dk.one room ops f b sf safe since fl).now dk.X = some f := by
    show (if dk.X = dk.X then some f else Option.none) = some f
    rw [if_pos rfl]
  unfold Dsk.readE
  rw [hn]
set_option maxHeartbeats 8000000 in
theorem law4.nothing (name : ByteArray) (A : Option Addr) (n c : Nat) (z : List Int) (w : World) (hs : name.size ≤ maxLen) (hz : z.length = n ∧ n ≤ c ∧ c ≤ maxLen) (hatz : At w A n (fun j => .int .u8 (z.getD j 0))) (hwf : ∀ x ∈ z, (Lit.int .u8 x).wf = true) :
    Calls Try.prog 6 #[.string name, .slice A n c] w fun e w' => e = .returned (.bool true) ∧ Below w.heap.size w w' := by
  obtain ⟨hz1, -, -⟩ := hz
  obtain ⟨haz, hzb⟩ := ints_bytes hatz hz1 hwf
  obtain ⟨L, hL⟩ : ∃ L, L = z.map Int.toNat := ⟨_, rfl⟩
  rw [← hL] at haz hzb
  have hlen : L.length = n := by rw [hL, List.length_map, hz1]
  clear hL hatz hwf hz1
  have HAT := Lib.hid (And.intro haz (And.intro hlen hzb)); clear haz hlen hzb
  obtain ⟨m, hm⟩ : ∃ m, m = name.size := ⟨_, rfl⟩
  have hm' : m ≤ 9223372036854775807 := by rw [hm]; unfold maxLen at hs; omega
  have haw := law4.awake_any w
  have HAW := Lib.hid haw; clear haw
  by_cases h1 : 200 < m
  · have g1 : decide (200 < (name.size : Int)) = true := decide_eq_true (by omega)
    have g2 : decide (200 < name.size) = true := decide_eq_true (by omega)
    have g3 : 200 < (name.size : Int) := by omega
    go_enter Try.func6, Try.ntmps6
    go_wp2_with (go_at_call 11; refine HAW.out.mono ?_; rintro e w1 ⟨rfl, hb⟩; have HB := Lib.hid hb; clear hb)
    go_ret
    exact ⟨rfl, HB.out⟩
  · have g1 : decide (200 < (name.size : Int)) = false := decide_eq_false (by omega)
    by_cases h2 : n = 0
    · subst h2
      go_enter Try.func6, Try.ntmps6
      go_wp2_with (go_at_call 11; refine HAW.out.mono ?_; rintro e w1 ⟨rfl, hb⟩; have HB := Lib.hid hb; clear hb)
      go_ret
      exact ⟨rfl, HB.out⟩
    have hd0 : ((n : Int) == 0) = false := by simp; omega
    by_cases h3 : 300 < n
    · have hd1 : decide (300 < (n : Int)) = true := decide_eq_true (by omega)
      go_enter Try.func6, Try.ntmps6
      go_wp2_with (go_at_call 11; refine HAW.out.mono ?_; rintro e w1 ⟨rfl, hb⟩; have HB := Lib.hid hb; clear hb)
      go_ret
      exact ⟨rfl, HB.out⟩
    have hd1 : decide (300 < (n : Int)) = false := decide_eq_false (by omega)
    have hn0 : 0 < n := by omega
    have hn3 : n ≤ 300 := by omega
    obtain ⟨i0, hi, hz0, hz1, hz2⟩ := info_parts infoByte
    go_enter Try.func6, Try.ntmps6
    go_upto_region 4 with fail
    clear hd0 hd1 g1 h1 h2 h3 HAW
    have hnew := disk.New_any 1000 w (by omega)
    have HNEW := Lib.hid hnew; clear hnew
    go_upto_region 6 with (first
      | (go_at_call 16; refine (disk.Read_nil _ _).mono ?_; rintro e w1 ⟨rfl, rfl⟩)
      | (go_at_call 12; refine HNEW.out.mono ?_; rintro e w1 ⟨p, rfl, h1, h2⟩; have H1 := Lib.hid (And.intro h1 h2); clear h1 h2))
    go_upto_region 8 with (first
      | (go_at_call 22; refine (disk.App_nil _ _ _ _ _).mono ?_; rintro e w2 ⟨rfl, hb⟩; have HB2 := Lib.hid hb; clear hb)
      | (go_at_call 23; refine (disk.Sync_nil _ _).mono ?_; rintro e w3 ⟨rfl, hb⟩; have HB3 := Lib.hid hb; clear hb)
      | (go_at_call 24; refine (disk.SyncDir_nil _).mono ?_; rintro e w4 ⟨rfl, hb⟩; have HB4 := Lib.hid hb; clear hb)
      | (go_at_call 19; refine (disk.Size_nil _ _).mono ?_; rintro e w5 ⟨rfl, rfl⟩)
      | (go_at_call 26; refine (disk.Names_nil _).mono ?_; rintro e w5 ⟨rfl, rfl⟩)
      | (go_at_call 27; refine (disk.Used_nil _).mono ?_; rintro e w5 ⟨rfl, rfl⟩)
      | (go_at_call 28; refine (disk.Ops_nil _).mono ?_; rintro e w5 ⟨rfl, rfl⟩)
      | (go_at_call 20; refine (disk.Crash_nil _ _ _ _).mono ?_; rintro e w5 ⟨rfl, rfl⟩))
    rename World => v4
    have hb14 : Below w1.heap.size w1 v4 := (HB2.out.trans (HB3.out.mono HB2.out.size)).trans (HB4.out.mono (Nat.le_trans HB2.out.size HB3.out.size))
    have hb04 : Below w.heap.size w v4 := H1.out.2.trans (hb14.mono H1.out.2.size)
    have hm4 : (v4.alloc (.cells #[] 5)).ownsRow v4.heap.size 5 1 (.slice (some ⟨v4.heap.size, 0, none⟩) 0 0) 0 [] := World.ownsRow_made v4 #[] 0 (Nat.le_refl _) (by unfold maxLen; omega) (by simp)
    have H4 := Lib.hid (And.intro (H1.out.1.below hb14) (And.intro hb04 (And.intro hb14.size hm4))); clear hb14 hb04 hm4
    go_upto_region 9 with (at_builtin; go_loud (refine wpList_app2 _ rfl (.tmp 92) (.tmp 93) 34 rfl v4.heap.size 5 i0 _ 1 1 Try.underlying34 hi hz0 hz1 hz2 rfl (by decide) _ 0 [] rfl H4.out.2.2.2 A n c (byteAt L) rfl (by rw [Nat.mul_one]; exact (HAT.out.1.below H4.out.2.1 (Nat.le_refl _)).alloc _) (fun j _ => byteAt_one L j) (by unfold maxLen; omega) (by omega) (by simp) ?_); intro v5 w5 hown hg hl; rw [List.nil_append, byteAt_cells_n L n HAT.out.2.1, Nat.zero_add] at hown; obtain ⟨g, c5, rfl, hg1, hg2, hat5, -, -⟩ := dk.row_pos hown hn0 HAT.out.2.1; have hb5 : Below v4.heap.size v4 w5 := ((Below.refl _ v4).alloc (Nat.le_refl _) _).grown hg (by simp) (fun g hg => by cases hg; exact Nat.le_refl _); have H5 := Lib.hid (And.intro hown (And.intro hat5 (And.intro hb5 (And.intro hg1 hg2)))); clear hown hg hl hat5 hb5 hg1 hg2)
    have hLb : ∀ x ∈ L, x < 256 := fun x hx => by
      obtain ⟨j, hj, rfl⟩ := List.getElem_of_mem hx
      have := HAT.out.2.2 j (by rw [← HAT.out.2.1]; exact hj)
      rw [List.getD_eq_getElem?_getD, List.getElem?_eq_getElem hj] at this
      exact this
    have hfi := dk.first_any 1000 (some ⟨g, 0, none⟩) n c5 L p _ w5 (H4.out.1.below (H5.out.2.2.1.mono (Nat.le_refl _))) H5.out.2.1 HAT.out.2.1 hLb (fun k off e _ hF => by
      have h1 : g = k := by simpa using congrArg (fun o => o.map Addr.block) e
      have h2 := hF.2
      have h3 := H4.out.2.2.1
      have h4 := H5.out.2.2.2.1
      omega) (by omega) (by omega) (by omega)
    have HFI := Lib.hid hfi; clear hfi hLb
    go_upto_region 10 with (go_at_call 22; refine HFI.out.mono ?_; rintro e w6 ⟨rfl, ⟨f, fl, h1⟩, h2⟩; have H6 := Lib.hid (And.intro h1 h2); clear h1 h2)
    have row6 := H6.out.2.own H5.out.1 fun k hk hF => by
      have h1 : g = k := by simpa [Value.ownBlock] using hk
      have h2 := hF.2
      have h3 := H4.out.2.2.1
      have h4 := H5.out.2.2.2.1
      omega
    obtain ⟨g', c', eg, -, hgl, -, e0, f0⟩ := dk.row_pos row6 hn0 HAT.out.2.1
    have eg : g = g' ∧ c5 = c' := by simpa using eg
    obtain ⟨rfl, rfl⟩ := eg
    obtain ⟨y0, hy0⟩ : ∃ y0, y0 = L.getD 0 0 := ⟨_, rfl⟩
    have hy : y0 < 256 := by rw [hy0]; exact HAT.out.2.2 0 hn0
    rw [← hy0] at e0
    have HY := Lib.hid hy0; clear hy0 row6
    go_upto_region 11 with fail
    obtain ⟨w7, hw7⟩ : ∃ w7, w7 = w6.setCell ⟨g, 0, none⟩ (.int .u8 (((y0 : Int) + 1) % 256)) := ⟨_, rfl⟩
    rw [← hw7]
    have hd7 : DskIn w7 p _ _ 1 := H6.out.1.keep (P := fun k => k = g) (by rw [hw7]; exact Chg.setCell _ _ _ _) fun k hk e => by
      subst e
      have h3 := H4.out.2.2.1
      have h4 := H5.out.2.2.2.1
      have h5 := H5.out.2.2.2.2
      rcases hk.1 with h | h
      · have := h.2; omega
      · omega
    have hb7 : Below w.heap.size w w7 := by
      have s1 := H1.out.2.size
      have s2 := H4.out.2.1.size
      have s3 := H5.out.2.2.1.size
      have s4 := H5.out.2.2.2.1
      rw [hw7]
      exact ((H4.out.2.1.trans (H5.out.2.2.1.mono s2)).trans (H6.out.2.below (B := w.heap.size) (by omega) fun k hk => hk.1)).setCell (p := ⟨g, 0, none⟩) (by show w.heap.size ≤ g; omega) _
    have hs7 : w7.heap.size = w6.heap.size := by rw [hw7]; simp
    clear hw7 e0 f0
    have hre := disk.Read_any dk.X p _ _ 1 w7 hd7 dk.X_le (by rw [dk.one_bytes, HAT.out.2.1]; omega)
    rw [dk.one_bytes, dk.one_readE, HAT.out.2.1] at hre
    have H7 := Lib.hid (And.intro hre (And.intro hd7 (And.intro hb7 hs7))); clear hre hd7 hb7 hs7
    go_upto_region 12 with (go_at_call 16; refine H7.out.1.mono ?_; rintro e w8 ⟨v8, rfl, h1, h2⟩; obtain ⟨g8, c8, rfl, hg1, hg2, hat8, e0, f0⟩ := dk.row_pos h1 hn0 HAT.out.2.1; rw [← HY.out] at e0; have H8 := Lib.hid (And.intro h2 (And.intro hat8 hg1)); clear h1 h2 hat8 hg1)
    obtain ⟨str, hstr⟩ : ∃ str, str = strOf L := ⟨_, rfl⟩
    have hb8 : Below w.heap.size w w8 := H7.out.2.2.1.trans (H8.out.1.mono H7.out.2.2.1.size)
    have hcv := conv_any (P := Try.prog) Try.underlying34 Try.underlying5 Try.underlying9 (c := c8) L HAT.out.2.1 H8.out.2.1
    have hcw := conv_any (P := Try.prog) Try.underlying34 Try.underlying5 Try.underlying9 (c := c) L HAT.out.2.1 (HAT.out.1.below hb8 (Nat.le_refl _))
    rw [← hstr] at hcv hcw
    have HB8 := Lib.hid hb8; clear hb8
    have HSTR := Lib.hid hstr; clear hstr
    go_upto_region 14 with fail
    clear hcv hcw
    go_upto_region 15 with fail
    obtain ⟨w9, hw9⟩ : ∃ w9, w9 = w8.setCell ⟨g8, 0, none⟩ (.int .u8 (((y0 : Int) + 1) % 256)) := ⟨_, rfl⟩
    rw [← hw9]
    have hd9 : DskIn w9 p _ _ 1 := (H7.out.2.1.below H8.out.1).keep (P := fun k => k = g8) (by rw [hw9]; exact Chg.setCell _ _ _ _) fun k hk e => by
      subst e
      have h1 := hk.2
      have h2 := H8.out.2.2
      have h3 := H7.out.2.2.2
      omega
    have hb9 : Below w.heap.size w w9 := by
      rw [hw9]
      exact HB8.out.setCell (p := ⟨g8, 0, none⟩) (by
        have h1 := H8.out.2.2
        have h2 := H7.out.2.2.1.size
        show w.heap.size ≤ g8
        omega) _
    clear hw9 e0 f0
    have hre := disk.Read_any dk.X p _ _ 1 w9 hd9 dk.X_le (by rw [dk.one_bytes, HAT.out.2.1]; omega)
    rw [dk.one_bytes, dk.one_readE, HAT.out.2.1] at hre
    have H9 := Lib.hid (And.intro hre hb9); clear hre hd9 hb9
    go_upto_region 16 with (go_at_call 16; refine H9.out.1.mono ?_; rintro e wa ⟨va, rfl, h1, h2⟩; obtain ⟨ga, ca, rfl, -, -, hata, -, -⟩ := dk.row_pos h1 hn0 HAT.out.2.1; have HA := Lib.hid (And.intro h2 hata); clear h1 h2 hata)
    have hba : Below w.heap.size w wa := H9.out.2.trans (HA.out.1.mono H9.out.2.size)
    have hcv := conv_any (P := Try.prog) Try.underlying34 Try.underlying5 Try.underlying9 (c := ca) L HAT.out.2.1 HA.out.2
    have hcw := conv_any (P := Try.prog) Try.underlying34 Try.underlying5 Try.underlying9 (c := c) L HAT.out.2.1 (HAT.out.1.below hba (Nat.le_refl _))
    rw [← HSTR.out] at hcv hcw
    have haw := law4.awake_any wa
    have HAWA := Lib.hid (And.intro haw hba); clear haw hba
    go_wp2_with (go_at_call 11; refine HAWA.out.1.mono ?_; rintro e wb ⟨rfl, hb⟩; have HB := Lib.hid hb; clear hb)
    go_ret
    exact ⟨rfl, HAWA.out.2.trans (HB.out.mono HAWA.out.2.size)⟩
end Go.Proofs.Ythffkbcjidbdaaa

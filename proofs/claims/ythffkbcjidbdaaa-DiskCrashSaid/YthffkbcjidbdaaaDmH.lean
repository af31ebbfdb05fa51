/- The walk of the law DiskRenames. -/
import Derived.Test.YthffkbcjidbdaaaDmG
import Derived.Test.YthffkbcjidbdaaaDkO
import Derived.Test.YthffkbcjidbdaaaOpenB
namespace Go.Proofs.Ythffkbcjidbdaaa
open Go.RowKit Go.Maps
set_option maxRecDepth 100000

theorem ints_list {n : Nat} {z : List Int} {w : World} {A : Option Addr} (hatz : At w A n (fun j => .int .u8 (z.getD j 0))) (hz : z.length = n) (hwf : ∀ x ∈ z, (Lit.int .u8 x).wf = true) : ∃ L : List Nat, At w A n (byteAt L) ∧ L.length = n ∧ ∀ x ∈ L, x < 256 := by
  obtain ⟨h1, h2⟩ := ints_bytes hatz hz hwf
  have hl : (z.map Int.toNat).length = n := by rw [List.length_map, hz]
  refine ⟨_, h1, hl, fun x hx => ?_⟩
  obtain ⟨j, hj, rfl⟩ := List.getElem_of_mem hx
  have := h2 j (by omega)
  rw [List.getD_eq_getElem?_getD, List.getElem?_eq_getElem hj] at this
  exact this
/-- Where bytes that lie in old memory lie is nobody's of younger blocks. -/
theorem At.apart {w : World} {A : Option Addr} {n : Nat} {V : Nat → Value} (h : At w A n V) {F : Nat → Prop} (hF : ∀ k, F k → w.heap.size ≤ k) : ∀ g off, A = some ⟨g, off, none⟩ → 0 < n → ¬ F g := fun g off e h0 hg => by
  obtain ⟨b2, o2, e2, hb2, -⟩ := h h0
  rw [e] at e2
  obtain rfl : g = b2 := by simpa using congrArg (fun o => o.map Addr.block) e2
  have := hF _ hg
  omega
theorem grow_ge {F : Nat → Prop} {w w' : World} {B : Nat} (h : ∀ k, F k → B ≤ k) (hB : B ≤ w.heap.size) : ∀ k, dk.grow F w w' k → B ≤ k := fun k hk => hk.1.elim (h k) fun q => Nat.le_trans hB q
/-- One act further: the disk's blocks stay young, and all below stays as it was. -/
theorem act_on {w0 w w' : World} {F : Nat → Prop} {B : Nat} (hB : B = w0.heap.size) (hb : Below B w0 w) (hF : ∀ k, F k → B ≤ k) (hc : Chg w w' F) : Below B w0 w' ∧ ∀ k, dk.grow F w w' k → B ≤ k := by
  have hs : B ≤ w.heap.size := by rw [hB]; exact hb.size
  exact ⟨hb.trans (hc.below hs hF), grow_ge hF hs⟩
theorem rn.call1 (L : List Nat) (hl : L.length ≤ 300) (hb : ∀ x ∈ L, x < 256) (A : Option Addr) (c p : Nat) (w : World) (F : Nat → Prop) (h : PDisk w p (RDisk.new 1048576) F 0) (hat : At w A L.length (byteAt L)) (hX : ∀ g off, A = some ⟨g, off, none⟩ → 0 < L.length → ¬ F g) :
    Calls Try.prog 22 #[.pointer (some ⟨p, 0, none⟩), .string rn.O, .slice A L.length c] w fun e w' => e = .returned (.int .i64 0) ∧ PDisk w' p (rn.M1 L) (dk.grow F w w') 2 ∧ Chg w w' F := by
  have := h.append (s := rn.O) (c := c) (dk.ok_le rn.ok.1) (by unfold RDisk.small RDisk.new; dsimp only; omega) hat rfl hb hX (by omega) (by omega)
  rw [(rn.step1 L hl).1, (rn.step1 L hl).2] at this
  exact this
theorem rn.call2 (L : List Nat) (p : Nat) (w : World) (F : Nat → Prop) (h : PDisk w p (rn.M1 L) F 2) :
    Calls Try.prog 23 #[.pointer (some ⟨p, 0, none⟩), .string rn.O] w fun e w' => e = .returned (.int .i64 0) ∧ PDisk w' p (rn.M2 L) (dk.grow F w w') 2 ∧ Chg w w' F := by
  have := h.sync (s := rn.O) (dk.ok_le rn.ok.1) (by unfold RDisk.small rn.M1; dsimp only; omega)
  rw [(rn.step2 L).1, (rn.step2 L).2] at this
  exact this
theorem rn.call3 (L T : List Nat) (hl : L.length ≤ 300) (ht : T.length ≤ 300) (hb : ∀ x ∈ T, x < 256) (A : Option Addr) (c p : Nat) (w : World) (F : Nat → Prop) (h : PDisk w p (rn.M2 L) F 2) (hat : At w A T.length (byteAt T)) (hX : ∀ g off, A = some ⟨g, off, none⟩ → 0 < T.length → ¬ F g) :
    Calls Try.prog 22 #[.pointer (some ⟨p, 0, none⟩), .string rn.N, .slice A T.length c] w fun e w' => e = .returned (.int .i64 0) ∧ PDisk w' p (rn.M3 L T) (dk.grow F w w') 4 ∧ Chg w w' F := by
  have := h.append (s := rn.N) (c := c) (dk.ok_le rn.ok.2.1) (by unfold RDisk.small rn.M2; dsimp only; omega) hat rfl hb hX (by omega) (by omega)
  rw [(rn.step3 L T hl ht).1, (rn.step3 L T hl ht).2] at this
  exact this
theorem rn.call4 (L T : List Nat) (p : Nat) (w : World) (F : Nat → Prop) (h : PDisk w p (rn.M3 L T) F 4) :
    Calls Try.prog 23 #[.pointer (some ⟨p, 0, none⟩), .string rn.N] w fun e w' => e = .returned (.int .i64 0) ∧ PDisk w' p (rn.M4 L T) (dk.grow F w w') 4 ∧ Chg w w' F := by
  have := h.sync (s := rn.N) (dk.ok_le rn.ok.2.1) (by unfold RDisk.small rn.M3; dsimp only; omega)
  rw [(rn.step4 L T).1, (rn.step4 L T).2] at this
  exact this
theorem rn.call5 (L T : List Nat) (p : Nat) (w : World) (F : Nat → Prop) (h : PDisk w p (rn.M4 L T) F 4) :
    Calls Try.prog 24 #[.pointer (some ⟨p, 0, none⟩)] w fun e w' => e = .returned (.int .i64 0) ∧ PDisk w' p (rn.M5 L T) (dk.grow F w w') 4 ∧ Chg w w' F := by
  have := h.syncDir (by unfold RDisk.small rn.M4; dsimp only; omega) (by omega)
  rw [(rn.step5 L T).1, (rn.step5 L T).2] at this
  exact this
theorem rn.call6 (L T : List Nat) (p : Nat) (w : World) (F : Nat → Prop) (h : PDisk w p (rn.M5 L T) F 4) :
    Calls Try.prog 30 #[.pointer (some ⟨p, 0, none⟩), .string rn.N, .string rn.O] w fun e w' => e = .returned (.int .i64 0) ∧ PDisk w' p (rn.M6 L T) (dk.grow F w w') 6 ∧ Chg w w' F := by
  have := h.rename (s := rn.N) (t := rn.O) (dk.ok_le rn.ok.2.1) (dk.ok_le rn.ok.1) (by unfold RDisk.small rn.M5; dsimp only; omega) (by omega)
  rw [(rn.step6 L T).1, (rn.step6 L T).2] at this
  exact this
theorem rn.call7 (L T : List Nat) (p : Nat) (w : World) (F : Nat → Prop) (h : PDisk w p (rn.M6 L T) F 6) :
    Calls Try.prog 24 #[.pointer (some ⟨p, 0, none⟩)] w fun e w' => e = .returned (.int .i64 0) ∧ PDisk w' p (rn.M7 L T) (dk.grow F w w') 6 ∧ Chg w w' F := by
  have := h.syncDir (by unfold RDisk.small rn.M6; dsimp only; omega) (by omega)
  rw [(rn.step7 L T).1, (rn.step7 L T).2] at this
  exact this
/-- Two files of a crash are read. -/
def rn.Case (M : RDisk) (a b : List Nat) (synced : Bool) : Prop := (M.readE rn.O = 0 ∧ M.bytes rn.O = b ∧ M.readE rn.N = 5) ∨ (synced = false ∧ M.readE rn.O = 0 ∧ M.bytes rn.O = a ∧ M.readE rn.N = 0 ∧ M.bytes rn.N = b)
set_option maxHeartbeats 8000000 in
theorem law4.renames (A : Option Addr) (n c : Nat) (z : List Int) (X : Option Addr) (q d : Nat) (z1 : List Int) (synced : Bool) (Y : Option Addr) (r e : Nat) (ps : List Int) (w : World) (hz : z.length = n ∧ n ≤ c ∧ c ≤ maxLen) (hatz : At w A n (fun j => .int .u8 (z.getD j 0))) (hwf : ∀ x ∈ z, (Lit.int .u8 x).wf = true)
    (hx : z1.length = q ∧ q ≤ d ∧ d ≤ maxLen) (hatx : At w X q (fun j => .int .u8 (z1.getD j 0))) (hwf1 : ∀ x ∈ z1, (Lit.int .u8 x).wf = true)
    (hp : ps.length = r ∧ r ≤ e ∧ e ≤ maxLen) (hatp : At w Y r (fun j => .int .i64 (ps.getD j 0))) (hwp : ∀ x ∈ ps, (Lit.int .i64 x).wf = true) :
    Calls Try.prog 8 #[.slice A n c, .slice X q d, .bool synced, .slice Y r e] w fun a w' => a = .returned (.bool true) ∧ Below w.heap.size w w' := by
  obtain ⟨hz1, hnc, hcm⟩ := hz
  unfold maxLen at hcm
  obtain ⟨L, hL1, hL2, hL3⟩ := ints_list hatz hz1 hwf
  obtain ⟨hx1, hx2, hx3⟩ := hx
  unfold maxLen at hx3
  obtain ⟨T, hT1, hT2, hT3⟩ := ints_list hatx hx1 hwf1
  obtain ⟨hp1, hp2, hp3⟩ := hp
  have hpk : dk.Picks w Y r e ps := ⟨hatp, hp1, hp2, hp3, fun x hx => wf_bd (hwp x hx)⟩
  unfold maxLen at hp3
  clear hatz hz1 hwf hatx hx1 hwf1 hatp hp1 hwp
  have HA := Lib.hid (And.intro hL1 (And.intro hL2 hL3)); clear hL1 hL2 hL3
  have HX := Lib.hid (And.intro hT1 (And.intro hT2 hT3)); clear hT1 hT2 hT3
  have HPK := Lib.hid hpk; clear hpk
  have haw := law4.awake_any w
  have HAW := Lib.hid haw; clear haw
  go_enter Try.func8, Try.ntmps8
  by_cases h1 : 300 < n
  · have g1 : decide (300 < (n : Int)) = true := decide_eq_true (by omega)
    go_wp2_with (go_at_call 11; refine HAW.out.mono ?_; rintro a w1 ⟨rfl, hb⟩; have HB := Lib.hid hb; clear hb)
    go_ret
    exact ⟨rfl, HB.out⟩
  have g1 : decide (300 < (n : Int)) = false := decide_eq_false (by omega)
  by_cases h2 : 300 < q
  · have g2 : decide (300 < (q : Int)) = true := decide_eq_true (by omega)
    go_wp2_with (go_at_call 11; refine HAW.out.mono ?_; rintro a w1 ⟨rfl, hb⟩; have HB := Lib.hid hb; clear hb)
    go_ret
    exact ⟨rfl, HB.out⟩
  have g2 : decide (300 < (q : Int)) = false := decide_eq_false (by omega)
  by_cases h3 : 20 < r
  · have g3 : decide (20 < (r : Int)) = true := decide_eq_true (by omega)
    go_wp2_with (go_at_call 11; refine HAW.out.mono ?_; rintro a w1 ⟨rfl, hb⟩; have HB := Lib.hid hb; clear hb)
    go_ret
    exact ⟨rfl, HB.out⟩
  have g3 : decide (20 < (r : Int)) = false := decide_eq_false (by omega)
  have hnew := PDisk.new (room := 1048576) w (by omega)
  have HNEW := Lib.hid hnew; clear hnew
  obtain ⟨B, hB⟩ : ∃ B, B = w.heap.size := ⟨_, rfl⟩
  go_upto_region 6 with (go_at_call 12; refine HNEW.out.mono ?_; rintro a w1 ⟨p, rfl, h1, h2⟩; have H1 := Lib.hid (And.intro h1 h2); clear h1 h2)
  clear HAW g1 g2 g3
  have b1 : Below B w w1 ∧ ∀ k, dk.fresh w w1 k → B ≤ k := ⟨by rw [hB]; exact H1.out.2, fun k hk => by rw [hB]; exact hk.1⟩
  have HB1 := Lib.hid b1; clear b1
  have hn3 : n ≤ 300 := by omega
  have hq3 : q ≤ 300 := by omega
  have hpick : ∀ wx, Below B w wx → dk.Picks wx Y r e ps := fun wx h => HPK.out.chg (chg_of (P := fun _ => False) (h.mono (by omega))) fun _ q => q.elim
  have HPK2 := Lib.hid hpick; clear hpick HPK HNEW
  obtain ⟨hLl, hLb⟩ := HA.out.2
  obtain ⟨hTl, hTb⟩ := HX.out.2
  subst hLl hTl
  have HLB := Lib.hid (And.intro hLb hTb); clear hLb hTb
  go_upto_region 8 with (first
    | (go_at_call 30; refine (rn.call6 L T p w6 _ H6.out).mono ?_; rintro a w7 ⟨rfl, h1, h2⟩; have HB7 := Lib.hid (act_on hB HB6.out.1 HB6.out.2 h2); have H7 := Lib.hid h1; clear h1 h2)
    | (go_at_call 24; refine (rn.call5 L T p w5 _ H5.out).mono ?_; rintro a w6 ⟨rfl, h1, h2⟩; have HB6 := Lib.hid (act_on hB HB5.out.1 HB5.out.2 h2); have H6 := Lib.hid h1; clear h1 h2)
    | (go_at_call 23; refine (rn.call4 L T p w4 _ H4.out).mono ?_; rintro a w5 ⟨rfl, h1, h2⟩; have HB5 := Lib.hid (act_on hB HB4.out.1 HB4.out.2 h2); have H5 := Lib.hid h1; clear h1 h2)
    | (go_at_call 22; refine (rn.call3 L T hn3 hq3 HLB.out.2 X d p w3 _ H3.out (HX.out.1.below HB3.out.1 (by omega)) (HX.out.1.apart fun k hk => by rw [← hB]; exact HB3.out.2 k hk)).mono ?_; rintro a w4 ⟨rfl, h1, h2⟩; have HB4 := Lib.hid (act_on hB HB3.out.1 HB3.out.2 h2); have H4 := Lib.hid h1; clear h1 h2)
    | (go_at_call 23; refine (rn.call2 L p w2 _ H2.out).mono ?_; rintro a w3 ⟨rfl, h1, h2⟩; have HB3 := Lib.hid (act_on hB HB2.out.1 HB2.out.2 h2); have H3 := Lib.hid h1; clear h1 h2)
    | (go_at_call 22; refine (rn.call1 L hn3 HLB.out.1 A c p w1 _ H1.out.1 (HA.out.1.below HB1.out.1 (by omega)) (HA.out.1.apart fun k hk => by rw [← hB]; exact HB1.out.2 k hk)).mono ?_; rintro a w2 ⟨rfl, h1, h2⟩; have HB2 := Lib.hid (act_on hB HB1.out.1 HB1.out.2 h2); have H2 := Lib.hid h1; clear h1 h2))
  cases synced with
  | false =>
    go_upto_region 10 with fail
    have hcr := H7.out.crash (HPK2.out w7 HB7.out.1) (by omega)
    have HCR := Lib.hid hcr; clear hcr
    go_upto_region 13 with (go_at_call 20; refine HCR.out.mono ?_; rintro a w8 ⟨q8, rfl, h1, h2⟩; have H8 := Lib.hid (And.intro h1 h2); clear h1 h2)
    have hb8 : Below B w w8 := HB7.out.1.trans (H8.out.2.mono (by have := HB7.out.1.size; omega))
    have HBS := Lib.hid (show B ≤ w8.heap.size from by have := hb8.size; omega)
    have HB8 := Lib.hid hb8; clear hb8
    have hcase := rn.crash6 L T ps
    rcases hcase with hcase | hcase
    · obtain ⟨q1, q2, q3⟩ := hcase
      have hre := H8.out.1.read (s := rn.O) (dk.ok_le rn.ok.1)
      rw [q1, q2] at hre
      have HRE := Lib.hid hre; clear hre
      go_upto_region 14 with (go_at_call 16; refine HRE.out.mono ?_; rintro a w9 ⟨v9, rfl, h4, h5⟩; obtain ⟨A9, c9, hv9, hc9, -, hat9⟩ := own_bytes h4; subst hv9; have H9 := Lib.hid (And.intro hat9 h5); clear h4 h5 hat9 hc9)
      have hre := (H8.out.1.below H9.out.2).read (s := rn.N) (dk.ok_le rn.ok.2.1)
      rw [q3] at hre
      have HRE2 := Lib.hid hre; clear hre q1 q2 q3
      go_upto_region 18 with (go_at_call 16; refine HRE2.out.mono ?_; rintro a w10 ⟨v10, rfl, h4, h5⟩; obtain ⟨A10, c10, hv10, -⟩ := own_at h4; subst hv10; have H10 := Lib.hid h5; clear h4 h5)
      have hbb : Below B w w10 := (HB8.out.trans (H9.out.2.mono HBS.out)).trans (H10.out.mono (Nat.le_trans HBS.out H9.out.2.size))
      have cv1 := conv_any (P := Try.prog) Try.underlying34 Try.underlying5 Try.underlying9 (c := c9) T rfl (H9.out.1.below H10.out (Nat.le_refl _))
      have cv2 := conv_any (P := Try.prog) Try.underlying34 Try.underlying5 Try.underlying9 (c := d) T rfl (HX.out.1.below hbb (by omega))
      obtain ⟨str, hstr⟩ : ∃ str, str = strOf T := ⟨_, rfl⟩
      rw [← hstr] at cv1 cv2
      clear hstr
      have haw := law4.awake_any w10
      have HAW := Lib.hid (And.intro haw hbb); clear haw hbb
      go_wp2_with (go_at_call 11; refine HAW.out.1.mono ?_; rintro a w11 ⟨rfl, hb⟩; have HB11 := Lib.hid hb; clear hb)
      go_ret
      exact ⟨rfl, by rw [← hB]; exact HAW.out.2.trans (HB11.out.mono (by have := HAW.out.2.size; omega))⟩
    · obtain ⟨q1, q2, q3, q4⟩ := hcase
      have hre := H8.out.1.read (s := rn.O) (dk.ok_le rn.ok.1)
      rw [q1, q2] at hre
      have HRE := Lib.hid hre; clear hre
      go_upto_region 14 with (go_at_call 16; refine HRE.out.mono ?_; rintro a w9 ⟨v9, rfl, h4, h5⟩; obtain ⟨A9, c9, hv9, hc9, -, hat9⟩ := own_bytes h4; subst hv9; have H9 := Lib.hid (And.intro hat9 h5); clear h4 h5 hat9 hc9)
      have hre := (H8.out.1.below H9.out.2).read (s := rn.N) (dk.ok_le rn.ok.2.1)
      rw [q3, q4] at hre
      have HRE2 := Lib.hid hre; clear hre q1 q2 q3 q4
      go_upto_region 19 with (go_at_call 16; refine HRE2.out.mono ?_; rintro a w10 ⟨v10, rfl, h4, h5⟩; obtain ⟨A10, c10, hv10, -, -, hat10⟩ := own_bytes h4; subst hv10; have H10 := Lib.hid (And.intro h5 hat10); clear h4 h5 hat10)
      have hbb : Below B w w10 := (HB8.out.trans (H9.out.2.mono HBS.out)).trans (H10.out.1.mono (Nat.le_trans HBS.out H9.out.2.size))
      have cv1 := conv_any (P := Try.prog) Try.underlying34 Try.underlying5 Try.underlying9 (c := c9) L rfl (H9.out.1.below H10.out.1 (Nat.le_refl _))
      have cv2 := conv_any (P := Try.prog) Try.underlying34 Try.underlying5 Try.underlying9 (c := c) L rfl (HA.out.1.below hbb (by omega))
      have cv3 := conv_any (P := Try.prog) Try.underlying34 Try.underlying5 Try.underlying9 (c := c10) T rfl H10.out.2
      have cv4 := conv_any (P := Try.prog) Try.underlying34 Try.underlying5 Try.underlying9 (c := d) T rfl (HX.out.1.below hbb (by omega))
      obtain ⟨str, hstr⟩ : ∃ str, str = strOf L := ⟨_, rfl⟩
      obtain ⟨stw, hstw⟩ : ∃ stw, stw = strOf T := ⟨_, rfl⟩
      rw [← hstr] at cv1 cv2
      rw [← hstw] at cv3 cv4
      clear hstr hstw
      have haw := law4.awake_any w10
      have HAW := Lib.hid (And.intro haw hbb); clear haw hbb
      go_wp2_with (go_at_call 11; refine HAW.out.1.mono ?_; rintro a w11 ⟨rfl, hb⟩; have HB11 := Lib.hid hb; clear hb)
      go_ret
      exact ⟨rfl, by rw [← hB]; exact HAW.out.2.trans (HB11.out.mono (by have := HAW.out.2.size; omega))⟩
  | true =>
    go_upto_region 10 with (go_at_call 24; refine (rn.call7 L T p w7 _ H7.out).mono ?_; rintro a wa ⟨rfl, h1, h2⟩; have HBA := Lib.hid (act_on hB HB7.out.1 HB7.out.2 h2); have HA7 := Lib.hid h1; clear h1 h2)
    have hcr := HA7.out.crash (HPK2.out wa HBA.out.1) (by omega)
    have HCR := Lib.hid hcr; clear hcr
    go_upto_region 13 with (go_at_call 20; refine HCR.out.mono ?_; rintro a w8 ⟨q8, rfl, h1, h2⟩; have H8 := Lib.hid (And.intro h1 h2); clear h1 h2)
    have hb8 : Below B w w8 := HBA.out.1.trans (H8.out.2.mono (by have := HBA.out.1.size; omega))
    have HBS := Lib.hid (show B ≤ w8.heap.size from by have := hb8.size; omega)
    have HB8 := Lib.hid hb8; clear hb8
    have hcase := rn.crash7 L T ps
    obtain ⟨q1, q2, q3⟩ := hcase
    have hre := H8.out.1.read (s := rn.O) (dk.ok_le rn.ok.1)
    rw [q1, q2] at hre
    have HRE := Lib.hid hre; clear hre
    go_upto_region 14 with (go_at_call 16; refine HRE.out.mono ?_; rintro a w9 ⟨v9, rfl, h4, h5⟩; obtain ⟨A9, c9, hv9, hc9, -, hat9⟩ := own_bytes h4; subst hv9; have H9 := Lib.hid (And.intro hat9 h5); clear h4 h5 hat9 hc9)
    have hre := (H8.out.1.below H9.out.2).read (s := rn.N) (dk.ok_le rn.ok.2.1)
    rw [q3] at hre
    have HRE2 := Lib.hid hre; clear hre q1 q2 q3
    go_upto_region 18 with (go_at_call 16; refine HRE2.out.mono ?_; rintro a w10 ⟨v10, rfl, h4, h5⟩; obtain ⟨A10, c10, hv10, -⟩ := own_at h4; subst hv10; have H10 := Lib.hid h5; clear h4 h5)
    have hbb : Below B w w10 := (HB8.out.trans (H9.out.2.mono HBS.out)).trans (H10.out.mono (Nat.le_trans HBS.out H9.out.2.size))
    have cv1 := conv_any (P := Try.prog) Try.underlying34 Try.underlying5 Try.underlying9 (c := c9) T rfl (H9.out.1.below H10.out (Nat.le_refl _))
    have cv2 := conv_any (P := Try.prog) Try.underlying34 Try.underlying5 Try.underlying9 (c := d) T rfl (HX.out.1.below hbb (by omega))
    obtain ⟨str, hstr⟩ : ∃ str, str = strOf T := ⟨_, rfl⟩
    rw [← hstr] at cv1 cv2
    clear hstr
    have haw := law4.awake_any w10
    have HAW := Lib.hid (And.intro haw hbb); clear haw hbb
    go_wp2_with (go_at_call 11; refine HAW.out.1.mono ?_; rintro a w11 ⟨rfl, hb⟩; have HB11 := Lib.hid hb; clear hb)
    go_ret
    exact ⟨rfl, by rw [← hB]; exact HAW.out.2.trans (HB11.out.mono (by have := HAW.out.2.size; omega))⟩
end Go.Proofs.Ythffkbcjidbdaaa

/- producer: contract of Add, where it adds. -/
import Derived.Deep.CutRange
import Derived.Deep.CutBlock
import Derived.Test.YtgkocnnkknodhaaPrT
namespace Go.Proofs.Ytgkocnnkknodhaa
open Go.RowKit

set_option maxRecDepth 20000 in
set_option maxHeartbeats 2000000 in
theorem prod.add_ok (t N : Nat) (g : Int → Option PRow) (Bs : Nat → Prop) (b0 b1 P ep seq : Int) (A : Option Addr) (n c : Nat) (w : World) (hT : PTab w t N g Bs) (hP : intOk P) (hP0 : 0 < P) (hc : prod.chk (g P) P ep seq n = (0, false, 0))
    (hn : 0 < n) (hn2 : n ≤ 1099511627776) (hep : intOk ep) (hsq : 0 ≤ seq ∧ seq ≤ 4611686018427387904) (hb0 : intOk b0) (hN : N < maxLen) :
    Calls Try.prog 32 #[.pointer (some ⟨t, 0, none⟩), .agg #[.int .i64 b0, .int .i64 b1, .int .i64 P, .int .i64 ep, .int .i64 seq, .slice A n c]] w
      fun e w' => e = .returned (.int .i64 0) ∧ PTab w' t (prod.cnt N (g P)) (prod.put g P ep ⟨seq, n, b0⟩) (fun k => Bs k ∨ w.heap.size ≤ k) ∧ Chg w w' Bs := by
  have hfit : (⟨seq, n, b0⟩ : Sent).fit := ⟨hsq.1, hsq.2, by dsimp only; omega, by dsimp only; omega, hb0⟩
  have HSF := Lib.hid hfit; clear hfit
  have hchk := fun wx (hb : Below w.heap.size w wx) => prod.check_all (some ⟨t, 0, none⟩) N g Bs b0 b1 P ep seq A n c wx ⟨t, rfl, hT.below hb⟩ hP
  rw [hc] at hchk
  have HCHK := Lib.hid hchk; clear hchk hc
  obtain ⟨b, gv, hbt, hgm, hrows, hBt, hBb⟩ := hT
  have HBT := Lib.hid hbt; clear hbt
  have HGM := Lib.hid hgm; clear hgm
  have HR := Lib.hid hrows; clear hrows
  have HBS := Lib.hid (And.intro hBt hBb); clear hBt hBb
  have HEP := Lib.hid hep; clear hep
  have HNN := Lib.hid hN; clear hN
  have hn0 : ((n : Int) == 0) = false := by simp; omega
  clear hn hn2 hsq hb0
  -- what stands in the map
  obtain ⟨E, v, L, hgv, hown, hlen, hbase, hin⟩ : ∃ (E : Int) (v : Value) (L : List Sent), (gv P).getD (.agg #[.int .i64 0, .slice none 0 0]) = .agg #[.int .i64 E, v] ∧ w.ownsRow 0 143 3 v L.length (sentCells L) ∧ L.length ≤ 5 ∧
      prod.base (g P) ep = (if E = ep then L else []) ∧ ∀ k, v.ownBlock = some k → Bs k ∧ ∃ r, gv P = some (rowVal r v) := by
    cases hg : g P with
    | none => exact ⟨0, .slice none 0 0, [], by rw [(HR.out.none' P hP).2 hg]; rfl, World.ownsRow_nil _ _ _ _, by simp, by simp [prod.base], fun k hk => nomatch hk⟩
    | some r =>
      obtain ⟨h1, v, h2, h3, h4⟩ := HR.out.row P r hP hg
      exact ⟨r.epoch, v, r.last, by rw [h2]; rfl, h3, h1.five, rfl, fun k hk => ⟨h4 k hk, r, h2⟩⟩
  obtain ⟨Av, cv, hv, -⟩ := own_at hown
  subst hv
  have HGV := Lib.hid hgv; clear hgv
  have HOWN := Lib.hid hown; clear hown
  have HLEN := Lib.hid hlen; clear hlen
  have HBASE := Lib.hid hbase; clear hbase
  have HIN := Lib.hid hin; clear hin
  go_enter Try.func32, Try.ntmps32
  go_wp2_with fail
  obtain ⟨w1, hw1⟩ : ∃ w1, w1 = w.alloc (.cells #[.int .i64 b0, .int .i64 b1, .int .i64 P, .int .i64 ep, .int .i64 seq, .slice A n c] 46) := ⟨_, rfl⟩
  rw [← hw1]
  have hbk : Blk w1 w.heap.size 46 #[.int .i64 b0, .int .i64 b1, .int .i64 P, .int .i64 ep, .int .i64 seq, .slice A n c] := by rw [hw1]; exact Blk.new _ _ _
  have hb1 : Below w.heap.size w w1 := by rw [hw1]; exact (Below.refl _ w).alloc (Nat.le_refl _) _
  clear hw1
  refine (HCHK.out w1 hb1).mono ?_
  rintro e w2 ⟨rfl, hb2⟩
  have HB2 := Lib.hid (hb1.trans (hb2.mono hb1.size))
  have HBK := Lib.hid ((chg_of (P := fun _ => False) hb2).blk hbk id)
  have hqb : w.heap.size < w2.heap.size := HBK.out.lt
  clear hb1 hb2 hbk HCHK
  have c2 : w2.cell? ⟨w.heap.size, 2, none⟩ = some (.int .i64 P) := HBK.out.cell 2 rfl
  have c5 : w2.cell? ⟨w.heap.size, 5, none⟩ = some (.slice A n c) := HBK.out.cell 5 rfl
  unfold prod.tup
  go_wp2_with fail
  have hct : ∀ x : Later w2 (fun _ => False), x.1.cell? ⟨t, 0, none⟩ = some (.map (some b)) := fun x => ((x.2.below (Nat.le_refl _) fun _ q => q.elim).mono HB2.out.size |> (fun h => ((chg_of (P := fun _ => False) (HB2.out.trans h)).blk HBT.out id).cell 0 rfl))
  have hcP : ∀ x : Later w2 (fun _ => False), x.1.cell? ⟨w.heap.size, 2, none⟩ = some (.int .i64 P) := fun x => (x.2.blk HBK.out id).cell 2 rfl
  have hlk : ∀ x : Later w2 (fun _ => False), (Instr.lookup 134 (.map (some b)) (.int .i64 P) false).run Try.prog x.1 = .ok (.agg #[.int .i64 E, .slice Av L.length cv]) x.1 := fun x => by
    have h := ((HGM.out.below HB2.out HGM.out.lt).chg x.2 id).look1 Try.underlying134 (zero_row x.1) P hP
    rw [HGV.out] at h
    exact h
  have hS0 : later w2 (fun _ => False) w2.drew := later_of ((Chg.refl _ _).drew)
  refine wp_plan (S := fun w0 => ∃ x : Later w2 (fun _ => False), w0 = x.1) (by kernel_rfl) hS0 ?_
  intro hS K hK
  have HS := Lib.hid hS; clear hS hS0
  refine plan_group [true, true, true, true, true, true, true] [0, 1, 2, 3, 4, 5, 6] 2 (by dsimp only [sel]) (by rfl) rfl (by kernel_rfl) (by kernel_rfl) HS.out ?_
  (repeat go_big_quiet_step (fail)); refine wpQuiet_nil ?_
  refine plan_one [false, false, false, false, false, false, false, true] 7 1 (by dsimp only [sel]) (by rfl) rfl (by kernel_rfl) ?_; intro K1 hK1; go_wp2_with fail
  obtain ⟨w7, hw7⟩ : ∃ w7, w7 = (w2.alloc (.cells #[.int .i64 0, .slice none 0 0] 139)).drew := ⟨_, rfl⟩
  rw [← hw7]
  have hbr : Blk w7 w2.heap.size 139 #[.int .i64 0, .slice none 0 0] := by rw [hw7]; exact (Blk.new w2 _ _).drew 1
  have hb7 : Below w2.heap.size w2 w7 := by rw [hw7]; exact bdrew ((Below.refl _ w2).alloc (Nat.le_refl _) _) 1
  clear hw7
  have HBR := Lib.hid hbr
  have hc0 := hbr.cell 0 rfl
  have hc1 := hbr.cell 1 rfl
  have hfr := fun j => hbr.frozen j
  clear hbr
  have HB7 := Lib.hid hb7; clear hb7
  refine ⟨later_of (chg_of HB7.out), ?_⟩
  refine plan_one [false, false, false, false, false, false, false, false, true] 8 0 (by dsimp only [sel]) (by rfl) rfl (by kernel_rfl) ?_; intro K1 hK1; go_wp2_with fail
  clear hc0 hc1 hfr
  obtain ⟨w8, hw8⟩ : ∃ w8, w8 = (w7.setCell ⟨w2.heap.size, 0, none⟩ (.int .i64 E)).setCell ⟨w2.heap.size, 1, none⟩ (.slice Av L.length cv) := ⟨_, rfl⟩
  rw [← hw8]
  have hbr : Blk w8 w2.heap.size 139 #[.int .i64 E, .slice Av L.length cv] := by rw [hw8]; exact (HBR.out.set 0 _).set 1 _
  have hb8 : Below w2.heap.size w2 w8 := by
    rw [hw8]
    exact ((chg_of (P := fun _ => False) HB7.out).trans ((Chg.setCell w7 _ 0 _).trans (Chg.setCell _ _ 1 _) (fun _ _ h => h)) (fun k hk h => by have e : k = w2.heap.size := h; omega)).below (Nat.le_refl _) (fun _ h => h.elim)
  clear hw8 HBR HB7
  refine ⟨later_of (chg_of hb8), ?_⟩
  refine wp_plan_end (by kernel_rfl) ?_
  clear hct hcP hlk HS c2 c5
  have HBW := Lib.hid (HB2.out.trans (hb8.mono HB2.out.size))
  have HBK8 := Lib.hid ((chg_of (P := fun _ => False) hb8).blk HBK.out id)
  have HQ := Lib.hid HB2.out.size
  have HBR := Lib.hid hbr; clear hbr
  have HB8 := Lib.hid hb8; clear hb8 HBK HB2
  generalize w2.heap.size = q at *
  have r0 : w8.cell? ⟨q, 0, none⟩ = some (.int .i64 E) := HBR.out.cell 0 rfl
  have r1 : w8.cell? ⟨q, 1, none⟩ = some (.slice Av L.length cv) := HBR.out.cell 1 rfl
  have c3 : w8.cell? ⟨w.heap.size, 3, none⟩ = some (.int .i64 ep) := HBK8.out.cell 3 rfl
  have hfr : ∀ j, w8.frozen? ⟨q, j, none⟩ = false := fun j => HBR.out.frozen j
  have hbase := HBASE.out
  refine hK _ _ ?_
  clear hK
  go_upto_if 45 with fail
  go_cut [8] from 41 (fun s wx => s = .pointer (some ⟨q, 0, none⟩) ∧ ∃ v2, Blk wx q 139 #[.int .i64 ep, v2] ∧ wx.ownsRow 0 143 3 v2 (prod.base (g P) ep).length (sentCells (prod.base (g P) ep)) ∧ (∀ k, v2.ownBlock = some k → Bs k ∧ ∃ r, gv P = some (rowVal r v2)) ∧ Below w.heap.size w wx ∧
    Blk wx w.heap.size 46 #[.int .i64 b0, .int .i64 b1, .int .i64 P, .int .i64 ep, .int .i64 seq, .slice A n c])
  case first =>
    rcases Decidable.em (E = ep) with he | he
    · have hd : (E != ep) = false := by simpa using he
      rw [if_pos he] at hbase
      have HE := Lib.hid he; clear he
      have HB' := Lib.hid hbase; clear hbase
      go_wp2_with fail
      go_meet
      case rel => exact ⟨rfl, .slice Av L.length cv, by rw [← HE.out]; exact HBR.out, by rw [HB'.out]; exact own_below HOWN.out HBW.out, HIN.out, HBW.out, HBK8.out⟩
    · have hd : (E != ep) = true := by simpa using he
      rw [if_neg he] at hbase
      have HE := Lib.hid he; clear he
      have HB' := Lib.hid hbase; clear hbase
      go_wp2_with fail
      go_meet
      case rel =>
        refine ⟨rfl, .slice none 0 0, (HBR.out.set 0 _).set 1 _, by rw [HB'.out]; exact World.ownsRow_nil _ _ _ _, fun k hk => (nomatch hk), ?_, ?_⟩
        · exact HBW.out.trans (((Chg.setCell _ _ 0 _).trans (Chg.setCell _ _ 1 _) (fun _ _ h => h)).below HBW.out.size (fun k h => by have e : k = q := h; omega))
        · exact ((Chg.setCell _ _ 0 _).trans (Chg.setCell _ _ 1 _) (fun _ _ h => h)).blk HBK8.out (fun h => by have e : w.heap.size = q := h; omega)
  case rest =>
    obtain ⟨rfl, v2, hbr, hown, hin, hbw, hbk⟩ := hcut
    clear hbase r0 r1 c3 hfr HBASE HGV HOWN HLEN HIN
    obtain ⟨Av2, cv2, hv2, -⟩ := own_at hown
    subst hv2
    have hl5 : (prod.base (g P) ep).length ≤ 5 := (prod.base_fit (fun x hx => (HR.out.row P x hP hx).1) ep).1
    obtain ⟨i0, hi, hz0, hz1, hz2⟩ := info_parts infoSent
    have hkeep : ∀ w3, (wc.alloc (.cells #[.int .i64 seq, .int .i64 n, .int .i64 b0] 143)).grownBy w3 (Value.slice Av2 (prod.base (g P) ep).length cv2).ownBlock →
        Blk w3 q 139 #[.int .i64 ep, .slice Av2 (prod.base (g P) ep).length cv2] ∧ Chg wc w3 (fun k => (Value.slice Av2 (prod.base (g P) ep).length cv2).ownBlock = some k) := fun w3 h => by
      have h1 : Chg wc w3 (fun k => (Value.slice Av2 (prod.base (g P) ep).length cv2).ownBlock = some k) := (Chg.alloc wc _ _).trans (Chg.grown h) fun _ _ h => h
      exact ⟨h1.blk hbr (hbr.not_row (by decide) hown), h1⟩
    have hat1 : At (wc.alloc (.cells #[.int .i64 seq, .int .i64 n, .int .i64 b0] 143)) (some ⟨wc.heap.size, 0, none⟩) (1 * 3) (sentAt [⟨seq, n, b0⟩]) :=
      (At.new wc #[.int .i64 seq, .int .i64 n, .int .i64 b0] 143 (n := 1 * 3) rfl).congr fun j hj => match j, hj with | 0, _ => rfl | 1, _ => rfl | 2, _ => rfl
    have HKEEP := Lib.hid hkeep; clear hkeep
    have HAT1 := Lib.hid hat1; clear hat1
    have HOWN2 := Lib.hid hown; clear hown
    have HIN2 := Lib.hid hin; clear hin
    have HBW2 := Lib.hid hbw; clear hbw
    have c0 : wc.cell? ⟨w.heap.size, 0, none⟩ = some (.int .i64 b0) := hbk.cell 0 rfl
    have c4 : wc.cell? ⟨w.heap.size, 4, none⟩ = some (.int .i64 seq) := hbk.cell 4 rfl
    have c5 : wc.cell? ⟨w.heap.size, 5, none⟩ = some (.slice A n c) := hbk.cell 5 rfl
    have r1 : wc.cell? ⟨q, 1, none⟩ = some (.slice Av2 (prod.base (g P) ep).length cv2) := hbr.cell 1 rfl
    have HBK2 := Lib.hid hbk; clear hbk
    have HBR2 := Lib.hid hbr; clear hbr HBW HBK8 HBR HB8
    have HL5 := Lib.hid hl5
    generalize hL2 : prod.base (g P) ep = L2 at *
    have HL2 := Lib.hid hL2; clear hL2
    obtain ⟨kd, hkd, h5⟩ : ∃ kd, kd = L2.length + 1 - 5 ∧ ((5 ≤ L2.length ∧ kd = 1) ∨ (L2.length ≤ 4 ∧ kd = 0)) := ⟨L2.length + 1 - 5, rfl, by omega⟩
    have HKD := Lib.hid hkd; clear hkd
    have HC3 := Lib.hid (show cellsOf (1 * 3) (sentAt [⟨seq, n, b0⟩]) = sentCells [⟨seq, n, b0⟩] from sentAt_cells [⟨seq, n, b0⟩])
    rcases h5 with ⟨h5, rfl⟩ | ⟨h5, rfl⟩
    all_goals go_wp2_with (at_builtin; refine wpList_app2 _ rfl (.tmp 50) (.tmp 59) 137 rfl 0 143 i0 _ 3 24 Try.underlying137 hi hz0 hz1 hz2 rfl (by decide) _ L2.length (sentCells L2) rfl (HOWN2.out.alloc _) (some ⟨wc.heap.size, 0, none⟩) 1 1 (sentAt [⟨seq, n, b0⟩]) rfl HAT1.out (fun j hj => sentAt_one _ j hj) (by have := HL5.out; unfold maxLen; omega) (by have := HL5.out; omega) (by omega) ?_; intro v3 w3 hown3 hg3 hl3; obtain ⟨g3, c3, hv3, hn3, hm3, -, -, -⟩ := own_pos hown3 (by omega); unfold maxLen at hm3; subst hv3; rw [HC3.out, ← sentCells_append] at hown3; have HOWN3 := Lib.hid hown3; clear hown3; have HLIES := Lib.hid hl3; clear hl3; clear r1; obtain ⟨hb3, hch3⟩ := HKEEP.out w3 hg3; clear hg3; have HCH3 := Lib.hid hch3; clear hch3; have hf3 := fun j => hb3.frozen j; have r1 : w3.cell? ⟨q, 1, none⟩ = some (.slice Av2 L2.length cv2) := hb3.cell 1 rfl; have HBR3 := Lib.hid hb3; clear hb3 c0 c4 c5)
    all_goals
      first
        | rw [show L2.length - 4 = 1 by omega]
        | rw [show ((L2.length : Int) + 1 - 5).toNat = 0 by omega]
        | skip
      have hne1 : w.heap.size ≠ q := by omega
      have hne2 : t ≠ q := by have := HBT.out.lt; omega
      obtain ⟨w4, hw4⟩ : ∃ w4, w4 = w3.setCell ⟨q, 1, none⟩ (.slice (some ⟨g3, 0, none⟩) (L2.length + 1) c3) := ⟨_, rfl⟩
      rw [← hw4]
      have hb4 : Blk w4 q 139 #[.int .i64 ep, .slice (some ⟨g3, 0, none⟩) (L2.length + 1) c3] := by rw [hw4]; exact HBR3.out.set 1 _
      have hch4 : Chg wc w4 (fun k => (Value.slice Av2 L2.length cv2).ownBlock = some k ∨ k = q) := by
        rw [hw4]
        exact (HCH3.out.mono fun _ _ h => .inl h).trans (Chg.setCell _ _ _ _) fun _ _ h => .inr h
      have hown4 : w4.ownsRow 0 143 3 (.slice (some ⟨g3, 0, none⟩) (L2.length + 1) c3) (L2.length + 1) (sentCells (L2 ++ [(⟨seq, n, b0⟩ : Sent)])) := by
        rw [hw4]
        exact (Chg.setCell w3 q 1 _).own HOWN3.out fun k hk e => by
          subst e
          exact HBR3.out.not_row (by decide) HOWN3.out hk
      obtain ⟨A9, c9, h9, -, hat9⟩ := own_at hown4
      obtain ⟨rfl, rfl⟩ : (some ⟨g3, 0, none⟩ : Option Addr) = A9 ∧ c3 = c9 := by simpa using h9
      have hat4 : At w4 (some ⟨g3, 0, none⟩) ((L2 ++ [(⟨seq, n, b0⟩ : Sent)]).length * 3) (sentAt (L2 ++ [(⟨seq, n, b0⟩ : Sent)])) := by rw [List.length_append]; exact hat9
      clear hw4 h9 hat9
      have hkd := HKD.out
      have hcl := clone_sent (some ⟨g3, (L2.length + 1 - 5) * 3, none⟩) (L2.length + 1 - (L2.length + 1 - 5)) (c3 - (L2.length + 1 - 5)) ((L2 ++ [(⟨seq, n, b0⟩ : Sent)]).drop (L2.length + 1 - 5)) w4 (by rw [List.length_drop, List.length_append]; rfl) (by omega)
        (by have := hat4.sent_drop (L2.length + 1 - 5); rw [List.length_drop, List.length_append, Nat.zero_add] at this; exact this)
      rw [← hkd] at hcl
      clear hkd
      refine hcl.mono ?_
      rintro e w5 ⟨⟨v5, rfl, hown5⟩, hb5⟩
      obtain ⟨W, hW, hown5⟩ : ∃ W, W = prod.window (L2 ++ [(⟨seq, n, b0⟩ : Sent)]) ∧ w5.ownsRow w4.heap.size 143 3 v5 W.length (sentCells W) :=
        ⟨_, rfl, by have e := HKD.out; unfold prod.window; rw [List.length_append, List.length_singleton, ← e, List.length_drop, List.length_append, List.length_singleton]; exact hown5⟩
      have hW0 : 0 < W.length := by rw [hW]; simp only [prod.window, List.length_drop, List.length_append, List.length_singleton]; omega
      obtain ⟨g5, c5, hv5, -, -, hg5, -, -⟩ := own_pos hown5 hW0
      subst hv5
      have HW := Lib.hid hW; clear hW hW0
      have HBX := Lib.hid (And.intro hb4 (And.intro hch4 (And.intro hown4 hat4)))
      have HS4 := Lib.hid hch4.size
      clear hat4 hcl hown4
      have hbr5 := (chg_of (P := fun _ => False) hb5).blk hb4 id
      have hch5 : Chg wc w5 (fun k => (Value.slice Av2 L2.length cv2).ownBlock = some k ∨ k = q) := hch4.trans (chg_of (P := fun _ => False) hb5) fun _ _ h => h.elim
      have r1 : w5.cell? ⟨q, 1, none⟩ = some (.slice (some ⟨g3, 0, none⟩) (L2.length + 1) c3) := hbr5.cell 1 rfl
      have hf5 := fun j => hbr5.frozen j
      have hbtc := (chg_of (P := fun _ => False) HBW2.out).blk HBT.out id
      have hbt5 : Blk w5 t 136 #[.map (some b)] := hch5.blk hbtc (fun h => by
        rcases h with h | h
        · exact hbtc.not_row (by decide) HOWN2.out h
        · exact hne2 h)
      have ct5 : w5.cell? ⟨t, 0, none⟩ = some (.map (some b)) := hbt5.cell 0 rfl
      have HBT5 := Lib.hid hbt5; clear hbt5 hbtc
      have HCH5 := Lib.hid hch5; clear hch5 hch4
      have HBR5 := Lib.hid hbr5; clear hbr5 hb4 HBX
      have HOWN5 := Lib.hid hown5; clear hown5
      have HB5 := Lib.hid hb5; clear hb5
      have hmn := eql_map_nil Try.underlying134 (some b)
      simp only [Option.isNone_some] at hmn
      go_wp2_with fail
      obtain ⟨w6, hw6⟩ : ∃ w6, w6 = w5.setCell ⟨q, 1, none⟩ (.slice (some ⟨g5, 0, none⟩) W.length c5) := ⟨_, rfl⟩
      rw [← hw6]
      have hbr6 : Blk w6 q 139 #[.int .i64 ep, .slice (some ⟨g5, 0, none⟩) W.length c5] := by rw [hw6]; exact HBR5.out.set 1 _
      have hch56 : Chg w5 w6 (fun k => k = q) := by rw [hw6]; exact Chg.setCell _ _ _ _
      clear hw6 r1 hf5 ct5
      have hown6 := hch56.own HOWN5.out fun k hk e => by
        subst e
        exact HBR5.out.not_row (by decide) HOWN5.out hk
      have hch6 : Chg wc w6 (fun k => (Value.slice Av2 L2.length cv2).ownBlock = some k ∨ k = q) := HCH5.out.trans hch56 fun _ _ h => .inr h
      have hbt6 := hch56.blk HBT5.out hne2
      have hgmc := HGM.out.below HBW2.out HGM.out.lt
      have hgm6 : GM intKey w6 b N gv := hgmc.chg hch6 fun h => by
        rcases h with h | h
        · rcases HOWN2.out.2 with ⟨h1, -⟩ | ⟨gg, cap, cur, h1, -, h3, -⟩
          · rw [h1] at h; cases h
          · rw [h1] at h
            obtain rfl : gg = b := by simpa [Value.ownBlock] using h
            obtain ⟨D, ⟨es, clock, h5, -⟩, -⟩ := hgmc
            have := h5.symm.trans h3
            simp at this
        · have := HGM.out.lt; omega
      have hbk6 := hch6.blk HBK2.out fun h => by
        rcases h with h | h
        · exact HBK2.out.not_row (by decide) HOWN2.out h
        · exact hne1 h
      have htb : t ≠ b := hgm6.not_blk hbt6
      have hwb : w.heap.size ≠ b := by have := HGM.out.lt; omega
      have hqb2 : q ≠ b := by have := HGM.out.lt; omega
      have r0 : w6.cell? ⟨q, 0, none⟩ = some (.int .i64 ep) := hbr6.cell 0 rfl
      have r1 : w6.cell? ⟨q, 1, none⟩ = some (.slice (some ⟨g5, 0, none⟩) W.length c5) := hbr6.cell 1 rfl
      have hct : ∀ x : Later w6 (fun k => k = b), x.1.cell? ⟨t, 0, none⟩ = some (.map (some b)) := fun x => (x.2.blk hbt6 htb).cell 0 rfl
      have hcP : ∀ x : Later w6 (fun k => k = b), x.1.cell? ⟨w.heap.size, 2, none⟩ = some (.int .i64 P) := fun x => (x.2.blk hbk6 hwb).cell 2 rfl
      have HGM6 := Lib.hid hgm6; clear hgm6 hgmc
      have HBT6 := Lib.hid hbt6; clear hbt6
      have HCH6 := Lib.hid hch6; clear hch6 hch56
      have HOWN6 := Lib.hid hown6; clear hown6
      have hS0 : later w6 (fun k => k = b) w6.drew := later_of ((Chg.refl _ _).drew)
      refine wp_plan (S := fun w0 => ∃ x : Later w6 (fun k => k = b), w0 = x.1) (by kernel_rfl) hS0 ?_
      intro hS K5 hK5
      have HS := Lib.hid hS; clear hS hS0
      refine plan_group [true, true, true, true, true, true] [0, 1, 2, 3, 4, 5] 2 (by dsimp only [sel]) (by rfl) rfl (by kernel_rfl) (by kernel_rfl) HS.out ?_
      (repeat go_big_quiet_step (fail)); refine wpQuiet_nil ?_
      refine plan_one [false, false, false, false, false, false, true] 6 1 (by dsimp only [sel]) (by rfl) rfl (by kernel_rfl) ?_; intro K1 hK1; go_wp2_with fail
      refine ⟨HS.out, ?_⟩
      refine plan_one [false, false, false, false, false, false, false, true] 7 0 (by dsimp only [sel]) (by rfl) rfl (by kernel_rfl) ?_; intro K1 hK1
      refine GM.list_put (κ := intKey) _ rfl (.tmp 84) (.tmp 86) (.tmp 87) Try.underlying134 rfl (HGM6.out.drew 1) P hP (.agg #[.int .i64 ep, .slice (some ⟨g5, 0, none⟩) W.length c5]) HNN.out rfl rfl rfl ?_
      intro w8 hgm8 hch8 hsz8
      have HGM8 := Lib.hid hgm8; clear hgm8
      have HCH8 := Lib.hid (show Chg w6 w8 (fun k => k = b) from ((Chg.refl w6 _).drew).trans hch8 fun _ _ h => h); clear hch8
      go_wp2_with fail
      refine ⟨later_of HCH8.out, ?_⟩
      refine wp_plan_end (by kernel_rfl) ?_
      go_wp2
      go_ret
      exact ⟨rfl, prod.add_tab HGM.out HR.out HBS.out HIN2.out HBW2.out HCH6.out HQ.out HCH8.out HBT6.out (Nat.le_trans HBW2.out.size HS4.out) HOWN6.out HGM8.out (by rw [HL2.out]; exact HW.out) htb HEP.out HSF.out hP⟩
end Go.Proofs.Ytgkocnnkknodhaa

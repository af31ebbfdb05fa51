/- The walk of the law OindexAsks: it answers true, whatever the input. -/
import Derived.Test.YtchdolcnhopmjaaOiW
import Derived.Test.YtchdolcnhopmjaaBrA
import Derived.Test.YtchdolcnhopmjaaRefB
import Derived.BigRegionIn
import Derived.Scope
import Derived.Laws.ResultCell
import Derived.Test.YtchdolcnhopmjaaWkD
import Derived.Test.YtchdolcnhopmjaaObB
import Derived.Test.YtchdolcnhopmjaaWkG
import Derived.Test.YtchdolcnhopmjaaConv
namespace Go.Proofs.Ytchdolcnhopmjaa
open Go.RowKit

/-- What stands there is no entry more. -/
def oi.stop (r0 r1 : Int) (T : List Nat) : Prop := (rd.fixed (rd.fixed T 0 8).2.1 (rd.fixed T 0 8).2.2 8).2.2 ≠ 0 ∨ (rd.fixed T 0 8).1 ≤ r0 ∨ (rd.fixed (rd.fixed T 0 8).2.1 (rd.fixed T 0 8).2.2 8).1 ≤ r1

set_option maxRecDepth 20000 in
set_option maxHeartbeats 1000000 in
theorem oi.decode_all (A : Option Addr) (m c n : Nat) (f : Nat → Nat → Int) (T : List Nat) (w : World) (hn : n ≤ 1000) (hT : T = [] ∨ oi.stop (oi.pre f n 0) (oi.pre f n 1) T) (hTb : ∀ x ∈ T, x < 256) (hf : ∀ i j, i < n → j < 2 → -9223372036854775808 ≤ f i j ∧ f i j ≤ 9223372036854775807)
    (hok : ∀ j, j < n → ¬ oi.bad f j) (hm : (oi.enc f n ++ T).length = m) (hat : At w A m (byteAt (oi.enc f n ++ T))) (hc : m ≤ c ∧ c ≤ maxLen) :
    Calls Try.prog 14 #[.slice A m c] w (oi.DecPost w f n T) := by
  obtain ⟨i0, hi, hz0, hz1, hz2⟩ := info_parts infoEnt
  have HF := Lib.hid hf; clear hf
  have HOK := Lib.hid hok; clear hok
  have hlow : 0 < m → ∀ a, A = some a → a.block < w.heap.size := fun h a ha => by
    obtain ⟨b, off, hA, hb, _⟩ := hat h
    rw [ha] at hA
    cases hA
    exact hb
  have HLOW := Lib.hid hlow; clear hlow
  have hbor := fun w' (hb : Below w.heap.size w w') => wire.borrow_at A c (oi.enc f n ++ T) w' (by rw [hm]; exact hat.below hb (Nat.le_refl _)) (by rw [hm]; exact hc.1) hc.2 (fun x hx => by
    rcases List.mem_append.1 hx with h | h
    · exact oi.enc_byte f n x h
    · exact hTb x h)
  rw [hm] at hbor
  have HBOR := Lib.hid hbor; clear hbor hat hTb
  have HM := Lib.hid hm; clear hm
  go_enter Try.func14, Try.ntmps14
  go_wp2_with fail
  refine (HBOR.out _ ((Below.refl _ w).alloc (Nat.le_refl _) _)).mono ?_
  rintro e w1 ⟨r, rfl, hrd, hrr, hb1⟩
  have hbl : Below w.heap.size w w1 := ((Below.refl _ w).alloc (Nat.le_refl _) _).trans (hb1.mono (by simp))
  have hblk : Blk w1 w.heap.size 55 #[.int .i64 (-1), .int .i64 (-1)] := (hb1.block _ (by simp)).trans (Blk.new w _ _)
  have hrr' : w.heap.size < r := by simp at hrr; omega
  have h0 : oi.DecRel w A w.heap.size r f n T 0 (.slice none 0 0) w1 := ⟨hblk, by rw [Nat.mul_zero, List.drop_zero]; exact ⟨A, c, hrd, Near.refl A⟩, World.ownsRow_nil _ _ _ _, hbl⟩
  have H0 := Lib.hid h0; clear h0 hrd hblk hbl hb1 hrr
  go_wp2
  go_loopw [4] (fun v wr => ∃ (k : Nat) (u : Value), u = v ∧ k ≤ n ∧ oi.DecRel w A w.heap.size r f n T k u wr) (fun v _ => n + 1 - oi.lenOf v)
  case atStart => exact ⟨0, _, rfl, by omega, H0.out⟩
  case round =>
    obtain ⟨k, v, rfl, hk, hp, hrd, hown, hb⟩ := hrel
    obtain ⟨A1, c1, hrd, hnear⟩ := hrd
    have HNEAR := Lib.hid hnear; clear hnear
    have HRD := Lib.hid hrd; clear hrd
    have HO := Lib.hid hown
    have HOLD := Lib.hid hown; clear hown
    have HB := Lib.hid hb; clear hb H0
    by_cases hlt : k < n
    · have hbad := HOK.out k hlt
      have hpre := oi.pre_ge f k fun j hj => HOK.out j (by omega)
      have hfb0 := HF.out k 0 hlt (by omega)
      have hfb1 := HF.out k 1 hlt (by omega)
      have g0 : ¬ f k 0 ≤ oi.pre f k 0 := fun h => hbad (.inl h)
      have g1 : ¬ f k 1 ≤ oi.pre f k 1 := fun h => hbad (.inr h)
      obtain ⟨a0, ha0⟩ := Int.eq_ofNat_of_zero_le (show 0 ≤ f k 0 by omega)
      obtain ⟨a1, ha1⟩ := Int.eq_ofNat_of_zero_le (show 0 ≤ f k 1 by omega)
      have hd := oi.enc_drop f n k T hlt
      rw [ha0, ha1, Int.toNat_natCast, Int.toNat_natCast] at hd
      have hm0 : 0 < m := by rw [← HM.out, List.length_append, oi.enc_len]; omega
      have hpos : 16 ≤ ((oi.enc f n ++ T).drop (16 * k)).length := by rw [hd]; simp only [List.length_append, wire.be_len]; omega
      have hv0 : ¬ rd.fbad ((oi.enc f n ++ T).drop (16 * k)) ((8 : Nat) : Int) ∧ wire.val (((oi.enc f n ++ T).drop (16 * k)).take 8) = a0 ∧ ((oi.enc f n ++ T).drop (16 * k)).drop 8 = wire.be a1 8 ++ (oi.enc f n ++ T).drop (16 * (k + 1)) := by rw [hd]; exact oi.fixed8 a0 _ (by omega)
      have hv1 : ¬ rd.fbad (wire.be a1 8 ++ (oi.enc f n ++ T).drop (16 * (k + 1))) ((8 : Nat) : Int) ∧ wire.val ((wire.be a1 8 ++ (oi.enc f n ++ T).drop (16 * (k + 1))).take 8) = a1 ∧ (wire.be a1 8 ++ (oi.enc f n ++ T).drop (16 * (k + 1))).drop 8 = (oi.enc f n ++ T).drop (16 * (k + 1)) := oi.fixed8 a1 _ (by omega)
      obtain ⟨D1, hD1⟩ : ∃ D1, D1 = (oi.enc f n ++ T).drop (16 * (k + 1)) := ⟨_, rfl⟩
      rw [← hD1] at hv0 hv1
      have HD1 := Lib.hid hD1; clear hD1
      have HV := Lib.hid (And.intro hv0 hv1); clear hv0 hv1 hd
      have hrows : rows2 f (k + 1) = rows2 f k ++ [.int .i64 (a0 : Int), .int .i64 (a1 : Int)] := by rw [rows2_succ, ha0, ha1]
      have HROWS := Lib.hid hrows; clear hrows
      have hpre1 : Value.int .i64 (a0 : Int) = .int .i64 (oi.pre f (k + 1) 0) := congrArg (Value.int .i64) ha0.symm
      have hpre2 : Value.int .i64 (a1 : Int) = .int .i64 (oi.pre f (k + 1) 1) := congrArg (Value.int .i64) ha1.symm
      have HP1 := Lib.hid hpre1; clear hpre1
      have HP2 := Lib.hid hpre2; clear hpre2
      rw [ha0] at g0
      rw [ha1] at g1
      clear ha0 ha1 hfb0 hfb1 hbad
      generalize oi.pre f k 0 = r0 at *
      generalize oi.pre f k 1 = r1 at *
      generalize (oi.enc f n ++ T).drop (16 * k) = D at *
      generalize rows2 f k = rows at *
      have hpos' : (0 : Int) < (D.length : Int) := by omega
      have HPB := Lib.hid hp; clear hp
      go_wp2_with fail
      refine (wire.left_any r A1 c1 _ 0 wr HRD.out).mono ?_
      rintro en w' ⟨rfl, rfl⟩
      go_wp2_with fail
      obtain ⟨q, hq⟩ : ∃ q, q = wr.heap.size := ⟨_, rfl⟩
      have hst : oi.St w A w.heap.size r q r0 r1 0 0 D v k rows (wr.alloc (.cells #[.int .i64 0, .int .i64 0] 55)) :=
        { pre := (Below.heap_alloc _ _ _ HPB.out.lt).trans HPB.out, ent := by rw [hq]; exact Blk.new _ _ _, rd := ⟨A1, c1, ⟨(Below.heap_alloc _ _ _ HRD.out.blk.lt).trans HRD.out.blk, HRD.out.lie.alloc _, HRD.out.len, HRD.out.cap, HRD.out.byte⟩, HNEAR.out⟩, low := HLOW.out hm0, own := HO.out.alloc _, bel := HB.out.alloc HB.out.size _,
          qr := by have := HRD.out.blk.lt; omega, qp := by have := HPB.out.lt; omega, pr := hrr', qu := fun h => by have := (HO.out.lt q h).2; omega, wp := Nat.le_refl _, wq := by have := HB.out.size; omega }
      rw [← hq] at *
      generalize wr.alloc (.cells #[.int .i64 0, .int .i64 0] 55) = wA at *
      have HST := Lib.hid hst
      obtain ⟨A2, c2, hrd2, hn2⟩ := hst.rd
      have HN2 := Lib.hid hn2
      clear hst HPB HRD HO HB hn2
      refine (wire.rfixed_near r A2 c2 D 8 wA hrd2 HV.out.1.1).mono ?_
      clear hrd2
      rintro en w2 ⟨rfl, ⟨A2', c2', hrd, hn⟩, hch⟩
      rw [HV.out.1.2.1]
      rw [HV.out.1.2.2] at hrd
      have hrd := (show RdNear w2 r A (wire.be a1 8 ++ D1) 0 from ⟨A2', c2', hrd, HN2.out.trans hn⟩)
      have hst := HST.out.fixed hch hrd
      have hc0 := hst.ent.cell 0 (v := .int .i64 0) rfl
      have hf0 := hst.ent.frozen 0
      have HST2 := Lib.hid hst; clear hst hrd hch HST
      go_wp2_with fail
      have hst := HST2.out.set0 (a0 : Int)
      generalize w2.setCell ⟨q, 0, none⟩ (.int .i64 (a0 : Int)) = w3 at *
      have HST3 := Lib.hid hst; clear HST2
      obtain ⟨A3, c3, hrd3, hn3⟩ := hst.rd
      have HN3 := Lib.hid hn3
      clear hst hc0 hf0 hn3
      refine (wire.rfixed_near r A3 c3 (wire.be a1 8 ++ D1) 8 w3 hrd3 HV.out.2.1).mono ?_
      clear hrd3
      rintro en w4 ⟨rfl, ⟨A4', c4', hrd, hn⟩, hch⟩
      rw [HV.out.2.2.1]
      rw [HV.out.2.2.2] at hrd
      have hrd := (show RdNear w4 r A D1 0 from ⟨A4', c4', hrd, HN3.out.trans hn⟩)
      have hst := HST3.out.fixed hch hrd
      have hc1 := hst.ent.cell 1 (v := .int .i64 0) rfl
      have hf1 := hst.ent.frozen 1
      have HST4 := Lib.hid hst; clear hst hrd hch HST3
      go_wp2_with fail
      have hst := HST4.out.set1 (a1 : Int)
      generalize w4.setCell ⟨q, 1, none⟩ (.int .i64 (a1 : Int)) = w5 at *
      have HST5 := Lib.hid hst; clear HST4 hc1 hf1
      obtain ⟨A5, c5, hrd5, -⟩ := hst.rd
      refine (wire.err_any r A5 c5 D1 0 w5 hrd5).mono ?_
      rintro en w' ⟨rfl, rfl⟩
      have q0 := hst.ent.cell 0 (v := .int .i64 (a0 : Int)) rfl
      have q1 := hst.ent.cell 1 (v := .int .i64 (a1 : Int)) rfl
      have p0 := hst.pre.cell 0 (v := .int .i64 r0) rfl
      have p1 := hst.pre.cell 1 (v := .int .i64 r1) rfl
      have hr5 : r < w5.heap.size := hrd5.blk.lt
      clear hst hrd5
      go_wp2_with (at_builtin; refine wpList_app2 _ rfl (.tmp 37) (.tmp 39) 30 rfl (r + 1) 55 i0 _ 2 16 Try.underlying30 hi hz0 hz1 hz2 rfl (by decide) v k rows rfl (HST5.out.own.alloc _) (some ⟨w5.heap.size, 0, none⟩) 1 1 (fun j => (#[Value.int .i64 (a0 : Int), .int .i64 (a1 : Int)] : Array Value).getD j undef) rfl (At.new w5 #[.int .i64 (a0 : Int), .int .i64 (a1 : Int)] 55 (n := 1 * 2) rfl) (ent_one _ _) (by unfold maxLen; omega) (by omega) (by rw [World.size_alloc]; omega) ?_; intro v' w6 hown6 hg6 hl6; rw [ent_cells] at hown6; have hst := HST5.out.grown hg6 hl6 hown6; have y0 := hst.ent.cell 0 (v := .int .i64 (a0 : Int)) rfl; have y1 := hst.ent.cell 1 (v := .int .i64 (a1 : Int)) rfl; have z0 := hst.pre.cell 0 (v := .int .i64 r0) rfl; have z1 := hst.pre.cell 1 (v := .int .i64 r1) rfl; have zf0 := hst.pre.frozen 0; have zf1 := hst.pre.frozen 1; have HST6 := Lib.hid hst; clear hst hown6 hg6 hl6)
      have hst := HST6.out.setp
      obtain ⟨A7, c7, hv7, -⟩ := own_at hst.own
      have HST7 := Lib.hid hst; clear hst HST5 HST6
      go_roundw
      case rel =>
        refine ⟨k + 1, v', rfl, by omega, ?_, by rw [← HD1.out]; exact HST7.out.rd, ?_, HST7.out.bel⟩
        · rw [← HP1.out, ← HP2.out]; exact HST7.out.pre
        · rw [HROWS.out]; exact HST7.out.own
      case measure =>
        rw [hv7]
        obtain ⟨A8, c8, hv8, -⟩ := own_at HOLD.out
        simp [oi.lenOf, hv8]
        omega
    · obtain rfl : k = n := by omega
      have hd : (oi.enc f k ++ T).drop (16 * k) = T := List.drop_left' (oi.enc_len f k)
      rw [hd] at HRD
      clear hd
      by_cases hT0 : T = []
      · have hT1 : (T.length : Int) = 0 := by rw [hT0]; rfl
        go_wp2_with fail
        refine (wire.left_any r A1 c1 _ 0 wr HRD.out).mono ?_
        rintro en w' ⟨rfl, rfl⟩
        go_wp2_with fail
        go_ret2
        exact ⟨.inl ⟨hT0, v, rfl, ⟨HO.out.1, HO.out.2.imp id fun ⟨g, cap, cur, h1, h2, h3⟩ => ⟨g, cap, cur, h1, (by omega), h3⟩⟩⟩, HB.out⟩
      · have hT1 : (0 : Int) < (T.length : Int) := by have := List.length_pos_iff.2 hT0; omega
        have HPA0 := Lib.hid hp; clear hp
        go_wp2_with fail
        refine (wire.left_any r A1 c1 _ 0 wr HRD.out).mono ?_
        rintro en w' ⟨rfl, rfl⟩
        go_wp2_with fail
        obtain ⟨q, hq⟩ : ∃ q, q = wr.heap.size := ⟨_, rfl⟩
        have hrd0 : Rd (wr.alloc (.cells #[.int .i64 0, .int .i64 0] 55)) r A1 c1 T 0 := ⟨(Below.heap_alloc _ _ _ HRD.out.blk.lt).trans HRD.out.blk, HRD.out.lie.alloc _, HRD.out.len, HRD.out.cap, HRD.out.byte⟩
        have hx : Blk (wr.alloc (.cells #[.int .i64 0, .int .i64 0] 55)) q 55 #[.int .i64 0, .int .i64 0] := by rw [hq]; exact Blk.new _ _ _
        have hb0 : Below w.heap.size w (wr.alloc (.cells #[.int .i64 0, .int .i64 0] 55)) := HB.out.alloc HB.out.size _
        have hqr : q ≠ r := by have := HRD.out.blk.lt; omega
        have hwq : w.heap.size ≤ q := by have := HB.out.size; omega
        have hqp : q ≠ w.heap.size := by have := HPA0.out.lt; omega
        have HPA := (Below.heap_alloc _ (.cells #[.int .i64 0, .int .i64 0] 55) _ HPA0.out.lt).trans HPA0.out
        rw [← hq] at *
        generalize wr.alloc (.cells #[.int .i64 0, .int .i64 0] 55) = wA at *
        have HX := Lib.hid hx; clear hx
        have HB0 := Lib.hid hb0; clear hb0
        have hst : oi.stop (oi.pre f k 0) (oi.pre f k 1) T := hT.resolve_left hT0
        obtain ⟨X1, T1, e1, hf1⟩ : ∃ a b c, rd.fixed T 0 8 = (a, b, c) := ⟨_, _, _, rfl⟩
        obtain ⟨X2, T2, e2, hf2⟩ : ∃ a b c, rd.fixed T1 e1 8 = (a, b, c) := ⟨_, _, _, rfl⟩
        unfold oi.stop at hst
        rw [hf1] at hst
        dsimp only at hst
        rw [hf2] at hst
        dsimp only at hst
        have HF2 := Lib.hid hf2; clear hf2
        have HSTP := Lib.hid hst; clear hst
        have HPB := Lib.hid (show Blk wA w.heap.size 55 #[.int .i64 (oi.pre f k 0), .int .i64 (oi.pre f k 1)] from HPA); clear HPA
        generalize oi.pre f k 0 = r0 at *
        generalize oi.pre f k 1 = r1 at *
        have hc := wire.rfixed_any r A1 c1 T 0 8 wA hrd0
        rw [hf1] at hc
        refine hc.mono ?_
        clear hc hrd0 HRD hf1
        rintro en w2 ⟨rfl, hrd, hch⟩
        have hwr2 : w.heap.size ≠ r := by omega
        have hpb := hch.blk HPB.out hwr2
        have hx := hch.blk HX.out hqr
        have hc0 := hx.cell 0 (v := .int .i64 0) rfl
        have hf0 := hx.frozen 0
        have HB2 := Lib.hid (HB0.out.trans (hch.below HB0.out.size fun j hj => by have e' : j = r := hj; omega))
        clear HB0 hch
        have HX2 := Lib.hid hx; clear hx HX
        have HP2 := Lib.hid hpb; clear hpb HPB
        have HR2 := Lib.hid hrd; clear hrd
        go_wp2_with fail
        obtain ⟨A3, c3, hrd3⟩ := HR2.out
        obtain ⟨A3', c3', hrd3', -⟩ := RdNear.ints ⟨A3, c3, hrd3, Near.refl A3⟩ HX2.out hqr 0 (.int .i64 X1)
        have hx := HX2.out.set 0 (.int .i64 X1)
        have hpb := (Chg.setCell w2 q 0 (.int .i64 X1)).blk HP2.out (fun e => hqp e.symm)
        have hb := HB2.out.setCell (p := ⟨q, 0, none⟩) hwq (.int .i64 X1)
        generalize w2.setCell ⟨q, 0, none⟩ (.int .i64 X1) = w3 at *
        have HX3 := Lib.hid (show Blk w3 q 55 #[.int .i64 X1, .int .i64 0] from hx); clear hx HX2 HR2 hc0 hf0 hrd3
        have HP3 := Lib.hid hpb; clear hpb HP2
        have HB3 := Lib.hid hb; clear hb HB2
        have hc := wire.rfixed_any r A3' c3' T1 e1 8 w3 hrd3'
        rw [HF2.out] at hc
        refine hc.mono ?_
        clear hc hrd3'
        rintro en w4 ⟨rfl, hrd, hch⟩
        have hx := hch.blk HX3.out hqr
        have hpb := hch.blk HP3.out hwr2
        have hc1 := hx.cell 1 (v := .int .i64 0) rfl
        have hf1 := hx.frozen 1
        have HB4 := Lib.hid (HB3.out.trans (hch.below HB3.out.size fun j hj => by have e' : j = r := hj; omega))
        clear HB3 hch
        have HX4 := Lib.hid hx; clear hx HX3
        have HP4 := Lib.hid hpb; clear hpb HP3
        have HR4 := Lib.hid hrd; clear hrd
        go_wp2_with fail
        obtain ⟨A5, c5, hrd5⟩ := HR4.out
        obtain ⟨A5', c5', hrd5', -⟩ := RdNear.ints ⟨A5, c5, hrd5, Near.refl A5⟩ HX4.out hqr 1 (.int .i64 X2)
        have hx : Blk (w4.setCell ⟨q, 1, none⟩ (.int .i64 X2)) q 55 #[.int .i64 X1, .int .i64 X2] := HX4.out.set 1 (.int .i64 X2)
        have hpb := (Chg.setCell w4 q 1 (.int .i64 X2)).blk HP4.out (fun e => hqp e.symm)
        have hb := HB4.out.setCell (p := ⟨q, 1, none⟩) hwq (.int .i64 X2)
        generalize w4.setCell ⟨q, 1, none⟩ (.int .i64 X2) = w5 at *
        refine (wire.err_any r A5' c5' T2 e2 w5 hrd5').mono ?_
        rintro en w' ⟨rfl, rfl⟩
        have q0 := hx.cell 0 (v := .int .i64 X1) rfl
        have q1 := hx.cell 1 (v := .int .i64 X2) rfl
        have p0 := hpb.cell 0 (v := .int .i64 r0) rfl
        have p1 := hpb.cell 1 (v := .int .i64 r1) rfl
        clear hrd5 hrd5' hc1 hf1 HX4 HR4 HB4 HP4 hx hpb
        have HB5 := Lib.hid hb; clear hb
        have hst := HSTP.out
        clear HSTP
        by_cases hz : e2 = 0
        · subst hz
          rcases hst with h | h | h
          · exact absurd rfl h
          · go_wp2_with fail
            go_ret2
            exact ⟨.inr ⟨hT0, rfl⟩, HB5.out⟩
          · by_cases h2 : X1 ≤ r0
            all_goals
              go_wp2_with fail
              go_ret2
              exact ⟨.inr ⟨hT0, rfl⟩, HB5.out⟩
        · have hz2 : (e2 != 0) = true := by simpa using hz
          have hz3 : (e2 == 0) = false := by simpa using hz
          clear hst
          go_wp2_with fail
          go_ret2
          exact ⟨.inr ⟨hT0, rfl⟩, HB5.out⟩

theorem wire.valF_add : ∀ (L : List Nat) (n : Nat), wire.valF n L = n * 256 ^ L.length + wire.valF 0 L
  | [], n => by simp [wire.valF]
  | x :: L, n => by
    have h1 := wire.valF_add L (n * 256 + x)
    have h2 := wire.valF_add L (0 * 256 + x)
    show wire.valF (n * 256 + x) L = n * 256 ^ (L.length + 1) + wire.valF (0 * 256 + x) L
    rw [h1, h2, Nat.pow_succ, Nat.add_mul, Nat.add_mul, Nat.mul_assoc n, Nat.mul_comm 256, Nat.zero_mul]
    omega
/-- Number j of entry i, without its sign; with it. -/
def oa.num (L : List Nat) (i j : Nat) : Nat := wire.val ((L.drop (16 * i + 8 * j)).take 8)
def oa.s (L : List Nat) (i j : Nat) : Int := wrap64 (oa.num L i j : Int)
theorem oa.num_lt {L : List Nat} (hL : ∀ x ∈ L, x < 256) (i j : Nat) : oa.num L i j < 18446744073709551616 := by
  unfold oa.num
  have h1 := wire.val_lt ((L.drop (16 * i + 8 * j)).take 8) fun x hx => hL x (List.mem_of_mem_drop (List.mem_of_mem_take hx))
  have h2 : ((L.drop (16 * i + 8 * j)).take 8).length ≤ 8 := List.length_take_le _ _
  have h3 : 256 ^ ((L.drop (16 * i + 8 * j)).take 8).length ≤ 256 ^ 8 := Nat.pow_le_pow_right (by omega) h2
  have h4 : (256 : Nat) ^ 8 = 18446744073709551616 := by decide
  omega
theorem oa.s_bd (L : List Nat) (i j : Nat) : -9223372036854775808 ≤ oa.s L i j ∧ oa.s L i j ≤ 9223372036854775807 := by
  unfold oa.s wrap64
  omega
theorem oa.s_pos {L : List Nat} (hL : ∀ x ∈ L, x < 256) {i j : Nat} (h : 0 ≤ oa.s L i j) : oa.s L i j = (oa.num L i j : Int) ∧ (oa.num L i j : Int) ≤ 9223372036854775807 := by
  have h1 := oa.num_lt hL i j
  unfold oa.s wrap64 at h ⊢
  omega
theorem oa.s_low {L : List Nat} {i j : Nat} (h : (oa.num L i j : Int) ≤ 9223372036854775807) : oa.s L i j = (oa.num L i j : Int) := by
  unfold oa.s wrap64
  omega
theorem oa.first (P : Nat → Prop) : ∀ n, ∃ K, K ≤ n ∧ (∀ j, j < K → ¬ P j) ∧ (K < n → P K)
  | 0 => ⟨0, Nat.le_refl _, fun j hj => absurd hj (by omega), fun h => absurd h (by omega)⟩
  | n + 1 => by
    obtain ⟨K, h1, h2, h3⟩ := oa.first P n
    by_cases hK : K < n
    · exact ⟨K, by omega, h2, fun _ => h3 hK⟩
    · obtain rfl : K = n := by omega
      by_cases hp : P K
      · exact ⟨K, by omega, h2, fun _ => hp⟩
      · refine ⟨K + 1, by omega, fun j hj => ?_, fun h => absurd h (by omega)⟩
        by_cases e : j = K
        · subst e; exact hp
        · exact h2 j (by omega)
/-- Eight bytes are read as their number, or not at all. -/
theorem oa.fixed8 {T : List Nat} (hT : ∀ x ∈ T, x < 256) (h8 : 8 ≤ T.length) :
    ((wire.val (T.take 8) : Int) ≤ 9223372036854775807 → rd.fixed T 0 8 = ((wire.val (T.take 8) : Int), T.drop 8, 0)) ∧ (9223372036854775807 < (wire.val (T.take 8) : Int) → (rd.fixed T 0 8).2.2 ≠ 0) := by
  have hl : (T.take 8).length = 8 := by rw [List.length_take]; omega
  have hb := fun x (hx : x ∈ T.take 8) => hT x (List.mem_of_mem_take hx)
  refine ⟨fun h => ?_, fun h => ?_⟩
  · have h1 := wire.be_val hb
    rw [hl] at h1
    have h2 := rd.fixed_be (wire.val (T.take 8)) 8 (T.drop 8) (oi.fit8 (by omega)) h
    rw [h1, List.take_append_drop] at h2
    exact h2
  · have hbad : rd.fbad T 8 := by
      refine .inr (.inr (.inr ⟨rfl, ?_⟩))
      cases T with
      | nil => simp at h8
      | cons x R =>
        rw [List.take_succ_cons] at h hl hb
        have h1 : wire.val (x :: R.take 7) = x * 256 ^ (R.take 7).length + wire.valF 0 (R.take 7) := by
          unfold wire.val
          show wire.valF (0 * 256 + x) (R.take 7) = _
          rw [wire.valF_add, Nat.zero_mul, Nat.zero_add]
        have h2 := wire.val_lt (R.take 7) fun y hy => hb y (List.mem_cons_of_mem _ hy)
        unfold wire.val at h2
        have h3 : (R.take 7).length = 7 := by simpa using hl
        rw [h3] at h1 h2
        have h4 : (256 : Nat) ^ 7 = 72057594037927936 := by decide
        rw [h4] at h1 h2
        show 128 ≤ x
        rw [h1] at h
        omega
    unfold rd.fixed
    rw [if_neg (by simp), if_pos hbad]
    simp
theorem oa.enc_take {L : List Nat} (hL : ∀ x ∈ L, x < 256) : ∀ K, 16 * K ≤ L.length → (∀ j, j < K → ¬ oi.bad (oa.s L) j) → oi.enc (oa.s L) K = L.take (16 * K)
  | 0, _, _ => rfl
  | K + 1, h1, h2 => by
    have ih := oa.enc_take hL K (by omega) fun j hj => h2 j (by omega)
    have hp := oi.pre_ge (oa.s L) K fun j hj => h2 j (by omega)
    have hg := h2 K (by omega)
    unfold oi.bad at hg
    obtain ⟨a0, b0⟩ := oa.s_pos hL (i := K) (j := 0) (by omega)
    obtain ⟨a1, b1⟩ := oa.s_pos hL (i := K) (j := 1) (by omega)
    have piece : ∀ j, j < 2 → wire.be (oa.num L K j) 8 = (L.drop (16 * K + 8 * j)).take 8 := fun j hj => by
      have hl : ((L.drop (16 * K + 8 * j)).take 8).length = 8 := by rw [List.length_take, List.length_drop]; omega
      have h := wire.be_val (M := (L.drop (16 * K + 8 * j)).take 8) fun x hx => hL x (List.mem_of_mem_drop (List.mem_of_mem_take hx))
      rw [hl] at h
      exact h
    rw [oi.enc, ih, oi.enc1, a0, a1, Int.toNat_natCast, Int.toNat_natCast, piece 0 (by omega), piece 1 (by omega)]
    rw [show 16 * (K + 1) = 16 * K + (8 + 8) by omega, List.take_add, List.take_add (i := 8), List.drop_drop]
    rfl
/-- Behind the entries nothing is left, or what is none. -/
theorem oa.rest {L : List Nat} (hL : ∀ x ∈ L, x < 256) (K : Nat) (h1 : K ≤ L.length / 16) (h2 : K < L.length / 16 → oi.bad (oa.s L) K) :
    L.drop (16 * K) = [] ∨ oi.stop (oi.pre (oa.s L) K 0) (oi.pre (oa.s L) K 1) (L.drop (16 * K)) := by
  by_cases he : 16 * K = L.length
  · exact .inl (by rw [he, List.drop_length])
  · refine .inr ?_
    have hT : ∀ x ∈ L.drop (16 * K), x < 256 := fun x hx => hL x (List.mem_of_mem_drop hx)
    have hlen : (L.drop (16 * K)).length = L.length - 16 * K := List.length_drop ..
    have herr : ∀ (M : List Nat) (e : Int), e ≠ 0 → (rd.fixed M e 8).2.2 ≠ 0 := fun M e he => by rw [rd.fixed_err M e 8 he]; exact he
    have hshort : ∀ M : List Nat, M.length < 8 → (rd.fixed M 0 8).2.2 ≠ 0 := fun M hM => by rw [oi.short M hM]; simp
    unfold oi.stop
    by_cases h8 : (L.drop (16 * K)).length < 8
    · exact .inl (herr _ _ (hshort _ h8))
    · obtain ⟨f1, f2⟩ := oa.fixed8 hT (by omega)
      have hv0 : wire.val ((L.drop (16 * K)).take 8) = oa.num L K 0 := rfl
      rw [hv0] at f1 f2
      by_cases hb0 : (oa.num L K 0 : Int) ≤ 9223372036854775807
      · rw [f1 hb0]
        dsimp only
        by_cases h16 : ((L.drop (16 * K)).drop 8).length < 8
        · exact .inl (hshort _ h16)
        · have hT2 : ∀ x ∈ (L.drop (16 * K)).drop 8, x < 256 := fun x hx => hT x (List.mem_of_mem_drop hx)
          obtain ⟨g1, g2⟩ := oa.fixed8 hT2 (by omega)
          have hv1 : wire.val (((L.drop (16 * K)).drop 8).take 8) = oa.num L K 1 := by rw [List.drop_drop]; rfl
          rw [hv1] at g1 g2
          by_cases hb1 : (oa.num L K 1 : Int) ≤ 9223372036854775807
          · rw [g1 hb1]
            dsimp only
            have hbad := h2 (by
              rw [List.length_drop] at h16
              omega)
            unfold oi.bad at hbad
            rw [oa.s_low hb0, oa.s_low hb1] at hbad
            exact .inr hbad
          · exact .inl (g2 (by omega))
      · exact .inl (herr _ _ (f2 (by omega)))

/-- The document's words on entry k: why it may stand, or not. -/
theorem oi.why2 (f : Nat → Nat → Int) (k : Nat) (h : ∀ j, j < k → ¬ oi.bad f j) :
    (¬ oi.bad f k → ¬ f k 0 < 0 ∧ ¬ f k 1 < 0 ∧ (0 < k → ¬ f k 1 ≤ f (k - 1) 1 ∧ ¬ f k 0 < f (k - 1) 0 ∧ f k 0 ≠ f (k - 1) 0)) ∧
    (oi.bad f k → f k 0 < 0 ∨ (¬ f k 0 < 0 ∧ f k 1 < 0) ∨ (¬ f k 0 < 0 ∧ ¬ f k 1 < 0 ∧ 0 < k ∧ f k 1 ≤ f (k - 1) 1) ∨ (¬ f k 0 < 0 ∧ ¬ f k 1 < 0 ∧ 0 < k ∧ ¬ f k 1 ≤ f (k - 1) 1 ∧ f k 0 < f (k - 1) 0) ∨
      (¬ f k 0 < 0 ∧ ¬ f k 1 < 0 ∧ 0 < k ∧ ¬ f k 1 ≤ f (k - 1) 1 ∧ ¬ f k 0 < f (k - 1) 0 ∧ f k 0 = f (k - 1) 0)) := by
  have hp := oi.pre_ge f k h
  unfold oi.bad
  cases k with
  | zero =>
    have e0 : oi.pre f 0 0 = -1 := rfl
    have e1 : oi.pre f 0 1 = -1 := rfl
    rw [e0, e1]
    omega
  | succ k =>
    have e0 : oi.pre f (k + 1) 0 = f k 0 := rfl
    have e1 : oi.pre f (k + 1) 1 = f k 1 := rfl
    have e2 : k + 1 - 1 = k := by omega
    rw [e0, e1] at hp ⊢
    rw [e2]
    omega

/-- What EncodeEntries answers, if entry K is the first that may not stand. -/
def oi.RefPost (w : World) (f : Nat → Nat → Int) (n K : Nat) (e : Ending) (w' : World) : Prop :=
  ((K = n ∧ ∃ v, e = .returned (.tuple #[v, .int .i64 0]) ∧ w'.ownsRow w.heap.size 5 1 v (oi.enc f n).length (u8s (oi.enc f n))) ∨ (K < n ∧ e = .returned (.tuple #[.slice none 0 0, .int .i64 1]))) ∧ Below w.heap.size w w'

set_option maxRecDepth 20000 in
set_option maxHeartbeats 2000000 in
theorem oi.refenc_any (A : Option Addr) (n c : Nat) (f : Nat → Nat → Int) (K : Nat) (w : World) (hn : n ≤ 1000) (hat : At2 w A n f) (hf : ∀ i j, i < n → j < 2 → -9223372036854775808 ≤ f i j ∧ f i j ≤ 9223372036854775807)
    (hK : K ≤ n) (hbad : K < n → oi.bad f K) (hok : ∀ j, j < K → ¬ oi.bad f j) :
    Calls Try.prog 13 #[.slice A n c, .bool false] w (oi.RefPost w f n K) := by
  obtain ⟨i0, hi, hz0, hz1, hz2⟩ := info_parts infoByte
  have HAT := Lib.hid hat; clear hat
  have HF := Lib.hid hf; clear hf
  have HOK := Lib.hid hok; clear hok
  have HBAD := Lib.hid hbad; clear hbad
  go_enter Try.func13, Try.ntmps13
  go_wp2
  go_loopw [6, 7] (fun v i wr => ∃ (k : Nat) (u : Value), u = v ∧ k ≤ K ∧ i = .int .i64 (k : Int) ∧ wr.ownsRow w.heap.size 5 1 u (oi.enc f k).length (u8s (oi.enc f k)) ∧ Below w.heap.size w wr) (fun _ i _ => n - (intOf i).toNat)
  case atStart => exact ⟨0, _, rfl, by omega, rfl, World.ownsRow_nil _ _ _ _, Below.refl _ _⟩
  case round =>
    obtain ⟨k, v, rfl, hk, rfl, hown, hb⟩ := hrel
    have HO := Lib.hid hown; clear hown
    have HB := Lib.hid hb; clear hb
    by_cases hkn : k < n
    case neg =>
      obtain rfl : n = k := by omega
      obtain rfl : K = n := by omega
      go_wp2_with fail
      go_ret2
      exact ⟨.inl ⟨rfl, v, rfl, HO.out⟩, HB.out⟩
    have hkn' : (k : Int) < n := by omega
    have hk0 : (0 : Int) ≤ k := by omega
    obtain ⟨b, off, rfl, hbb, c0, c1⟩ := (HAT.out.below HB.out (Nat.le_refl _)).get k hkn
    have hwhy := oi.why2 f k fun j hj => HOK.out j (by omega)
    obtain ⟨j, hj⟩ : ∃ j, j = k - 1 := ⟨_, rfl⟩
    rw [← hj] at hwhy
    by_cases hkK : k = K
    · have hKn : K < n := by omega
      have hcase := hwhy.2 (by rw [hkK]; exact HBAD.out hKn)
      clear hwhy hkK
      rcases hcase with g | ⟨g, g'⟩ | ⟨g, g', g0, g1⟩ | ⟨g, g', g0, g1, g2⟩ | ⟨g, g', g0, g1, g2, g3⟩
      · have e1 : decide (f k 0 < 0) = true := by simpa using g
        clear g
        go_wp2_with fail
        go_quiet (fail)
        go_wp2
        go_ret2
        exact ⟨.inr ⟨hKn, rfl⟩, bdrew HB.out _⟩
      · have e1 : decide (f k 0 < 0) = false := by simpa using g
        have e2 : decide (f k 1 < 0) = true := by simpa using g'
        clear g g'
        go_wp2_with fail
        go_quiet (fail)
        go_wp2
        go_ret2
        exact ⟨.inr ⟨hKn, rfl⟩, bdrew HB.out _⟩
      all_goals
        have hkj : (k : Int) - 1 = (j : Int) := by omega
        have hjn : j < n := by omega
        obtain ⟨_, _, e, -, d0, d1⟩ := (HAT.out.below HB.out (Nat.le_refl _)).get j hjn
        cases e
        clear hj
        have e1 : decide (f k 0 < 0) = false := by simpa using g
        have e2 : decide (f k 1 < 0) = false := by simpa using g'
        have e3 : decide ((0 : Int) < (k : Int)) = true := by simpa using g0
        have hjn' : (j : Int) < n := by omega
        have hj0 : (0 : Int) ≤ j := by omega
      · have e4 : decide (f k 1 ≤ f j 1) = true := by simpa using g1
        clear g g' g1
        go_wp2_with fail
        go_quiet (fail)
        go_wp2
        go_ret2
        exact ⟨.inr ⟨hKn, rfl⟩, bdrew HB.out _⟩
      · have e4 : decide (f k 1 ≤ f j 1) = false := by simpa using g1
        have e5 : decide (f k 0 < f j 0) = true := by simpa using g2
        clear g g' g1 g2
        go_wp2_with fail
        go_quiet (fail)
        go_wp2
        go_ret2
        exact ⟨.inr ⟨hKn, rfl⟩, bdrew HB.out _⟩
      · have e4 : decide (f k 1 ≤ f j 1) = false := by simpa using g1
        have e5 : decide (f k 0 < f j 0) = false := by simpa using g2
        have e6 : (f k 0 == f j 0) = true := by simpa using g3
        clear g g' g1 g2 g3
        go_wp2_with fail
        go_quiet (fail)
        go_wp2
        go_ret2
        exact ⟨.inr ⟨hKn, rfl⟩, bdrew HB.out _⟩
    · have hkK' : k < K := by omega
      obtain ⟨g, g', g0⟩ := hwhy.1 (HOK.out k hkK')
      clear hwhy hkK
      obtain ⟨a0, ha0⟩ := Int.eq_ofNat_of_zero_le (show 0 ≤ f k 0 by omega)
      obtain ⟨a1, ha1⟩ := Int.eq_ofNat_of_zero_le (show 0 ≤ f k 1 by omega)
      have hfb0 := HF.out k 0 hkn (by omega)
      have hfb1 := HF.out k 1 hkn (by omega)
      have henc : oi.enc f (k + 1) = oi.enc f k ++ wire.be a0 8 ++ wire.be a1 8 := by
        rw [oi.enc, oi.enc1, ha0, ha1, List.append_assoc]; rfl
      have HENC := Lib.hid henc
      have hlen1 : (oi.enc f (k + 1)).length = (oi.enc f k).length + 8 + 8 := by rw [henc, List.length_append, List.length_append, wire.be_len, wire.be_len]
      have HLEN := Lib.hid hlen1; clear hlen1 henc
      have hLk : (oi.enc f k).length = 16 * k := oi.enc_len f k
      generalize oi.enc f k = E at *
      have e1 : decide (f k 0 < 0) = false := by simpa using g
      have e2 : decide (f k 1 < 0) = false := by simpa using g'
      have hend : ∀ (nq : Nat), ∃ wq, wq = wr.drewN nq ∧ wq.ownsRow w.heap.size 5 1 v E.length (u8s E) ∧ Below w.heap.size w wq ∧ wq.cell? ⟨b, off + k * 2, none⟩ = some (.int .i64 (a0 : Int)) ∧ wq.cell? ⟨b, off + k * 2 + 1, none⟩ = some (.int .i64 (a1 : Int)) ∧ b < w.heap.size := fun nq =>
        ⟨_, rfl, HO.out, bdrew HB.out nq, by rw [← ha0]; exact c0, by rw [← ha1]; exact c1, by obtain ⟨_, _, e, h, _⟩ := HAT.out.get k hkn; cases e; exact h⟩
      have HEND := Lib.hid hend; clear hend
      have ha0' : (a0 : Int) ≤ 9223372036854775807 := by omega
      have ha1' : (a1 : Int) ≤ 9223372036854775807 := by omega
      clear ha0 ha1 hfb0 hfb1 HF
      by_cases h0 : 0 < k
      · obtain ⟨g1, g2, g3⟩ := g0 h0
        have hkj : (k : Int) - 1 = (j : Int) := by omega
        have hjn : j < n := by omega
        obtain ⟨_, _, e, -, d0, d1⟩ := (HAT.out.below HB.out (Nat.le_refl _)).get j hjn
        cases e
        have e3 : decide ((0 : Int) < (k : Int)) = true := by simpa using h0
        have hjn' : (j : Int) < n := by omega
        have hj0 : (0 : Int) ≤ j := by omega
        have e4 : decide (f k 1 ≤ f j 1) = false := by simpa using g1
        have e5 : decide (f k 0 < f j 0) = false := by simpa using g2
        have e6 : (f k 0 == f j 0) = false := by simpa using g3
        clear g g' g0 g1 g2 g3 hj
        go_wp2_with fail
        go_quiet (fail)
        obtain ⟨wq, hwq, hown, hbq, x0, x1, hbw⟩ := HEND.out nq
        rw [← hwq]
        clear c0 c1 d0 d1 e1 e2 e3 e4 e5 e6 hwq HEND
        have HO1 := Lib.hid hown; clear hown
        have HB1 := Lib.hid hbq; clear hbq
        have hcell : ∀ W', Below w.heap.size wq W' → W'.cell? ⟨b, off + k * 2, none⟩ = some (.int .i64 (a0 : Int)) ∧ W'.cell? ⟨b, off + k * 2 + 1, none⟩ = some (.int .i64 (a1 : Int)) := fun W' hb => ⟨(hb.cell hbw).trans x0, (hb.cell hbw).trans x1⟩
        have HC := Lib.hid hcell; clear hcell
        go_wp2_with fail
        go_region_law
          (first
            | (refine step_app2 _ rfl (.tmp 85) (.tmp 91) 22 rfl w.heap.size 5 i0 _ 1 1 Try.underlying22 hi hz0 hz1 hz2 rfl (by decide) v2 (E.length + 8) (u8s E ++ u8s (wire.be a0 8)) rfl (own_below HO2.out HB3.out) A4 8 c4 (byteAt (wire.be a1 8)) rfl (by rw [Nat.mul_one]; exact HAT4.out) (fun j _ => byteAt_one _ j) (by unfold maxLen; omega) (by omega) (by have := HB2.out.size; have := HB3.out.size; omega) ?_; intro v' w4 hown4 hg4 hl4; rw [byteAt_cells_n _ _ (wire.be_len a1 8)] at hown4; have HO4 := Lib.hid hown4; have HB4 := Lib.hid ((HB2.out.trans (HB3.out.mono HB2.out.size)).grown hg4 (by have := HB2.out.size; have := HB3.out.size; omega) (fun g hg => (HO2.out.lt g hg).1)); clear hown4 hg4 hl4)
            | (refine step_app2 _ rfl (.tmp 78) (.tmp 84) 22 rfl w.heap.size 5 i0 _ 1 1 Try.underlying22 hi hz0 hz1 hz2 rfl (by decide) v E.length (u8s E) rfl (own_below HO1.out HBX.out) A3 8 c3 (byteAt (wire.be a0 8)) rfl (by rw [Nat.mul_one]; exact HAT3.out) (fun j _ => byteAt_one _ j) (by unfold maxLen; omega) (by omega) (by have := HB1.out.size; have := HBX.out.size; omega) ?_; intro v2 w2 hown2 hg2 hl2; rw [byteAt_cells_n _ _ (wire.be_len a0 8)] at hown2; have HO2 := Lib.hid hown2; have hbx2 : Below w.heap.size wq w2 := (HBX.out.mono HB1.out.size).grown hg2 (by have := HB1.out.size; have := HBX.out.size; omega) (fun g hg => (HO1.out.lt g hg).1); have HB2 := Lib.hid (HB1.out.trans hbx2); obtain ⟨z0, z1⟩ := HC.out _ hbx2; clear hown2 hg2 hl2 hbx2)
            | (go_simp; go_at_call 33; refine (wire.reffixed_any a1 8 w2 (by omega) (by omega) ha1').mono ?_; rintro e w3 ⟨⟨v3, rfl, hown3⟩, hb3⟩; obtain ⟨A4, c4, rfl, -, -, hat4⟩ := own_bytes hown3; have HAT4 := Lib.hid hat4; have HB3 := Lib.hid hb3; clear hb3 hown3 hat4)
            | (go_simp; go_at_call 33; refine (wire.reffixed_any a0 8 _ (by omega) (by omega) ha0').mono ?_; rintro e w1 ⟨⟨v1, rfl, hown1⟩, hb1⟩; obtain ⟨A3, c3, rfl, -, -, hat3⟩ := own_bytes hown1; have HAT3 := Lib.hid hat3; have hbx := undrew hb1; have HBX := Lib.hid hbx; obtain ⟨y0, y1⟩ := HC.out _ (hbx.mono HB1.out.size); clear hb1 hown1 hat3 hbx))
        all_goals
          go_wp2
          go_roundw
          case rel => exact ⟨k + 1, _, rfl, by omega, by go_num, by rw [HLEN.out, HENC.out, u8s_append, u8s_append]; exact HO4.out, HB4.out⟩
          case measure => simp [intOf]; omega
      · have e3 : decide ((0 : Int) < (k : Int)) = false := by simpa using h0
        clear g g' g0 hj
        go_wp2_with fail
        go_quiet (fail)
        obtain ⟨wq, hwq, hown, hbq, x0, x1, hbw⟩ := HEND.out nq
        rw [← hwq]
        clear c0 c1 e1 e2 e3 hwq HEND
        have HO1 := Lib.hid hown; clear hown
        have HB1 := Lib.hid hbq; clear hbq
        have hcell : ∀ W', Below w.heap.size wq W' → W'.cell? ⟨b, off + k * 2, none⟩ = some (.int .i64 (a0 : Int)) ∧ W'.cell? ⟨b, off + k * 2 + 1, none⟩ = some (.int .i64 (a1 : Int)) := fun W' hb => ⟨(hb.cell hbw).trans x0, (hb.cell hbw).trans x1⟩
        have HC := Lib.hid hcell; clear hcell
        go_wp2_with fail
        go_region_law
          (first
            | (refine step_app2 _ rfl (.tmp 85) (.tmp 91) 22 rfl w.heap.size 5 i0 _ 1 1 Try.underlying22 hi hz0 hz1 hz2 rfl (by decide) v2 (E.length + 8) (u8s E ++ u8s (wire.be a0 8)) rfl (own_below HO2.out HB3.out) A4 8 c4 (byteAt (wire.be a1 8)) rfl (by rw [Nat.mul_one]; exact HAT4.out) (fun j _ => byteAt_one _ j) (by unfold maxLen; omega) (by omega) (by have := HB2.out.size; have := HB3.out.size; omega) ?_; intro v' w4 hown4 hg4 hl4; rw [byteAt_cells_n _ _ (wire.be_len a1 8)] at hown4; have HO4 := Lib.hid hown4; have HB4 := Lib.hid ((HB2.out.trans (HB3.out.mono HB2.out.size)).grown hg4 (by have := HB2.out.size; have := HB3.out.size; omega) (fun g hg => (HO2.out.lt g hg).1)); clear hown4 hg4 hl4)
            | (refine step_app2 _ rfl (.tmp 78) (.tmp 84) 22 rfl w.heap.size 5 i0 _ 1 1 Try.underlying22 hi hz0 hz1 hz2 rfl (by decide) v E.length (u8s E) rfl (own_below HO1.out HBX.out) A3 8 c3 (byteAt (wire.be a0 8)) rfl (by rw [Nat.mul_one]; exact HAT3.out) (fun j _ => byteAt_one _ j) (by unfold maxLen; omega) (by omega) (by have := HB1.out.size; have := HBX.out.size; omega) ?_; intro v2 w2 hown2 hg2 hl2; rw [byteAt_cells_n _ _ (wire.be_len a0 8)] at hown2; have HO2 := Lib.hid hown2; have hbx2 : Below w.heap.size wq w2 := (HBX.out.mono HB1.out.size).grown hg2 (by have := HB1.out.size; have := HBX.out.size; omega) (fun g hg => (HO1.out.lt g hg).1); have HB2 := Lib.hid (HB1.out.trans hbx2); obtain ⟨z0, z1⟩ := HC.out _ hbx2; clear hown2 hg2 hl2 hbx2)
            | (go_simp; go_at_call 33; refine (wire.reffixed_any a1 8 w2 (by omega) (by omega) ha1').mono ?_; rintro e w3 ⟨⟨v3, rfl, hown3⟩, hb3⟩; obtain ⟨A4, c4, rfl, -, -, hat4⟩ := own_bytes hown3; have HAT4 := Lib.hid hat4; have HB3 := Lib.hid hb3; clear hb3 hown3 hat4)
            | (go_simp; go_at_call 33; refine (wire.reffixed_any a0 8 _ (by omega) (by omega) ha0').mono ?_; rintro e w1 ⟨⟨v1, rfl, hown1⟩, hb1⟩; obtain ⟨A3, c3, rfl, -, -, hat3⟩ := own_bytes hown1; have HAT3 := Lib.hid hat3; have hbx := undrew hb1; have HBX := Lib.hid hbx; obtain ⟨y0, y1⟩ := HC.out _ (hbx.mono HB1.out.size); clear hb1 hown1 hat3 hbx))
        all_goals
          go_wp2
          go_roundw
          case rel => exact ⟨k + 1, _, rfl, by omega, by go_num, by rw [HLEN.out, HENC.out, u8s_append, u8s_append]; exact HO4.out, HB4.out⟩
          case measure => simp [intOf]; omega

open Go.RowKit Go.Shelf
attribute [local go_sem] Oper.semAt_some

/-- The search: what was found, and whether it was; `fr` is where the index leads to. -/
def sk.go (o fr : Int) : Int → Bool → List (Nat × Bat) → Int × Bool
  | p, ok, [] => (p, ok)
  | p, ok, x :: l =>
    if ok = false ∧ x.2.last < o then sk.go o fr p ok l
    else if (x.1 : Int) = fr then ((x.1 : Int), true)
    else if fr < (x.1 : Int) then (if ok then p else (x.1 : Int), true)
    else sk.go o fr (if ok then p else (x.1 : Int)) true l
theorem sk.go_eq {o fr p : Int} {ok : Bool} {x : Nat × Bat} {l : List (Nat × Bat)} (h : ¬ (ok = false ∧ x.2.last < o)) (h2 : (x.1 : Int) = fr) : sk.go o fr p ok (x :: l) = ((x.1 : Int), true) := by
  rw [sk.go, if_neg h, if_pos h2]
theorem sk.go_gt {o fr p : Int} {ok : Bool} {x : Nat × Bat} {l : List (Nat × Bat)} (h : ¬ (ok = false ∧ x.2.last < o)) (h2 : fr < (x.1 : Int)) : sk.go o fr p ok (x :: l) = (if ok then p else (x.1 : Int), true) := by
  rw [sk.go, if_neg h, if_neg (by omega), if_pos h2]
theorem sk.go_lt {o fr p : Int} {ok : Bool} {x : Nat × Bat} {l : List (Nat × Bat)} (h : ¬ (ok = false ∧ x.2.last < o)) (h2 : (x.1 : Int) < fr) : sk.go o fr p ok (x :: l) = sk.go o fr (if ok then p else (x.1 : Int)) true l := by
  rw [sk.go, if_neg h, if_neg (by omega), if_neg (by omega)]
/-- The first that reaches. -/
def sk.find (o : Int) : List (Nat × Bat) → Int × Bool
  | [] => (0, false)
  | x :: l => if x.2.last < o then sk.find o l else ((x.1 : Int), true)
theorem sk.go_find (o fr : Int) : ∀ (l : List (Nat × Bat)), (∀ x ∈ l, o ≤ x.2.last → fr ≤ (x.1 : Int)) → sk.go o fr 0 false l = sk.find o l
  | [], _ => rfl
  | x :: l, h => by
    unfold sk.go sk.find
    by_cases h1 : x.2.last < o
    · rw [if_pos ⟨rfl, h1⟩, if_pos h1]
      exact sk.go_find o fr l fun y hy => h y (List.mem_cons_of_mem _ hy)
    · rw [if_neg (fun hh => h1 hh.2), if_neg h1]
      have h2 := h x (List.mem_cons_self ..) (by omega)
      by_cases h3 : (x.1 : Int) = fr
      · rw [if_pos h3]
      · rw [if_neg h3, if_pos (by omega)]
        rfl

/-- A round leaves the boxes so. -/
theorem sk.step {z : Nat} {w W V : World} {o fr p p' : Int} {ok ok' : Bool} (B : Nat) (hz : z ≤ w.heap.size) (b1 : Boxed W (z + 1) 3 (.int .i64 p)) (b2 : Boxed W (z + 2) 4 (.bool ok)) (be : Boxed W z 3 (.int .i64 o)) (bf : Boxed W (z + 3) 3 (.int .i64 fr)) (hB : Below z w W)
    (c : Chg W V (fun k => k = z + 1 ∨ k = z + 2)) (b1' : Boxed V (z + 1) 3 (.int .i64 p')) (b2' : Boxed V (z + 2) 4 (.bool ok')) :
    KeepsFrom B W V ∧ Kept [z + 1, z + 2] W V ∧ Boxed V (z + 1) 3 (.int .i64 p') ∧ Boxed V (z + 2) 4 (.bool ok') ∧ Boxed V z 3 (.int .i64 o) ∧ Boxed V (z + 3) 3 (.int .i64 fr) ∧ Below z w V := by
  have hbs : ∀ b ∈ [z + 1, z + 2], b = z + 1 ∨ b = z + 2 := fun b hb => by simpa using hb
  have hzW : z ≤ W.heap.size := Nat.le_trans hz hB.size
  refine ⟨keeps_chg c fun k hk => ?_, Kept.boxes c (fun k hk => .inl ?_) fun b hb => ?_, b1', b2', (c.block z be.lt (by omega)).trans be, (c.block (z + 3) bf.lt (by omega)).trans bf, hB.trans (c.below hzW fun k hk => by omega)⟩
  · rcases hk with rfl | rfl
    · exact .of_boxed b1
    · exact .of_boxed b2
  · rcases hk with rfl | rfl <;> simp
  · rcases hbs b hb with rfl | rfl
    · exact ⟨.of_boxed b1', fun k e => by rw [boxOf_boxed b1'] at e; cases e⟩
    · exact ⟨.of_boxed b2', fun k e => by rw [boxOf_boxed b2'] at e; cases e⟩
/-- What the body keeps. -/
def sk.I (z : Nat) (w : World) (o fr : Int) (pre : List WkX) (W : World) : Prop :=
  (∃ p ok, Boxed W (z + 1) 3 (.int .i64 p) ∧ Boxed W (z + 2) 4 (.bool ok) ∧ ∀ rest, sk.go o fr 0 false (pre.map Prod.fst ++ rest) = sk.go o fr p ok rest) ∧ Boxed W z 3 (.int .i64 o) ∧ Boxed W (z + 3) 3 (.int .i64 fr) ∧ Below z w W
/-- How it ends early. -/
def sk.X (z : Nat) (w : World) (o fr : Int) (pre : List WkX) (W : World) : Prop :=
  (∃ p ok, Boxed W (z + 1) 3 (.int .i64 p) ∧ Boxed W (z + 2) 4 (.bool ok) ∧ ∀ rest, sk.go o fr 0 false (pre.map Prod.fst ++ rest) = (p, ok)) ∧ Boxed W z 3 (.int .i64 o) ∧ Boxed W (z + 3) 3 (.int .i64 fr) ∧ Below z w W
theorem sk.own {W W' : World} {row : Option Nat} (B z : Nat) (w : World) (hz : z ≤ w.heap.size) (hzB : z ≤ B) (hg : W.grownBy W' row) (hr : ∀ r, row = some r → B ≤ r ∧ ∃ o : Obj, W.heap[r]? = some o ∧ o.isCells = false) :
    (∀ {b : Nat} {t : TypeId} {v : Value}, Boxed W b t v → Boxed W' b t v) ∧ (Below z w W → Below z w W') :=
  ⟨fun {b t v} h => h.kept hg (fun e => by
    obtain ⟨o, ho, hc⟩ := (hr b e.symm).2
    rw [show W.heap[b]? = _ from h] at ho
    cases ho
    cases hc), fun h => h.grown hg (Nat.le_trans hz h.size) fun k e => Nat.le_trans hzB (hr k e).1⟩
theorem sk.I_own (z : Nat) (w : World) (o fr : Int) (B : Nat) (hz : z ≤ w.heap.size) (hB : z ≤ B) : OwnFrom B (sk.I z w o fr) := fun pre W W' row h hg hr => by
  obtain ⟨⟨p, ok, h1, h2, h3⟩, h4, h5, h6⟩ := h
  obtain ⟨q1, q2⟩ := sk.own B z w hz hB hg hr
  exact ⟨⟨p, ok, q1 h1, q1 h2, h3⟩, q1 h4, q1 h5, q2 h6⟩
theorem sk.X_own (z : Nat) (w : World) (o fr : Int) (B : Nat) (hz : z ≤ w.heap.size) (hB : z ≤ B) : OwnFrom B (sk.X z w o fr) := fun pre W W' row h hg hr => by
  obtain ⟨⟨p, ok, h1, h2, h3⟩, h4, h5, h6⟩ := h
  obtain ⟨q1, q2⟩ := sk.own B z w hz hB hg hr
  exact ⟨⟨p, ok, q1 h1, q1 h2, h3⟩, q1 h4, q1 h5, q2 h6⟩

set_option maxRecDepth 100000 in
set_option maxHeartbeats 4000000 in
theorem sk.seek_any (A : Option Addr) (m c : Nat) (L : List Nat) (AE : Option Addr) (en ec : Nat) (f : Nat → Nat → Int) (o : Int) (w : World) (hL : ∀ x ∈ L, x < 256) (hlen : L.length = m) (hmc : m ≤ c) (hc : c ≤ maxLen) (hm : m ≤ 1000000) (hen : en ≤ 1099511627776) (hat : At w A m (byteAt L)) (hE : At2 w AE en f) :
    Calls Try.prog 16 #[.slice A m c, .slice AE en ec, .int .i64 o] w fun e w' => e = .returned (.tuple #[.int .i64 (sk.go o (oi.look f o en) 0 false (dec.walk L)).1, .bool (sk.go o (oi.look f o en) 0 false (dec.walk L)).2]) ∧ Below w.heap.size w w' := by
  refine (callsIn_wide (n := 5)).1 ?_
  have h1 : 1 ≤ 5 := by omega
  refine callsIn_of_wp_marks Try.func16 rfl trivial ?_ rfl
  simp only [Try.ntmps16, List.size_toArray, List.length_cons, List.length_nil, Nat.reduceAdd, Nat.reduceSub, Array.replicate_succ, Array.replicate_zero, List.push_toArray, List.append_toArray, List.nil_append, List.cons_append]
  have HAT := Lib.hid hat; clear hat
  have HL := Lib.hid hL; clear hL
  have HLEN := Lib.hid hlen; clear hlen
  gi_wp2_with fail
  obtain ⟨w0, hw0⟩ : ∃ w0, w0 = ((w.alloc (.cells #[.int .i64 o] 3)).alloc (.cells #[.int .i64 0] 3)).alloc (.cells #[.bool false] 4) := ⟨_, rfl⟩
  rw [← hw0]
  have hB0 : Below w.heap.size w w0 := by rw [hw0]; exact (((Below.refl _ w).alloc (Nat.le_refl _) _).alloc (by simp) _).alloc (by simp; omega) _
  have bE : Boxed w0 w.heap.size 3 (.int .i64 o) := by rw [hw0]; exact ((Boxed.new w _ _).alloc _).alloc _
  have bP : Boxed w0 (w.heap.size + 1) 3 (.int .i64 0) := by
    rw [hw0]
    have h := Boxed.new (w.alloc (.cells #[.int .i64 o] 3)) 3 (.int .i64 0)
    rw [World.size_alloc] at h
    exact h.alloc _
  have bO : Boxed w0 (w.heap.size + 2) 4 (.bool false) := by
    rw [hw0]
    have h := Boxed.new ((w.alloc (.cells #[.int .i64 o] 3)).alloc (.cells #[.int .i64 0] 3)) 4 (.bool false)
    rw [World.size_alloc, World.size_alloc] at h
    exact h
  have hz0 : w0.heap.size = w.heap.size + 3 := by rw [hw0]; simp
  clear hw0
  have cO := bE.cell
  refine wpIn_scope' ?_
  gi_wp2_with fail
  refine ⟨trivial, ?_⟩
  refine (callsIn_wide.2 (oi.lookup_any AE en ec f o w0 hen (hE.below hB0 (Nat.le_refl _)))).mono ?_
  rintro e w' ⟨rfl, rfl⟩
  obtain ⟨fr, hfr⟩ : ∃ fr, fr = oi.look f o en := ⟨_, rfl⟩
  rw [← hfr]
  have HFR := Lib.hid hfr; clear hfr hE
  gi_wp2_with fail
  (try rw [hz0])
  obtain ⟨w1, hw1⟩ : ∃ w1, w1 = w'.alloc (.cells #[.int .i64 fr] 3) := ⟨_, rfl⟩
  rw [← hw1]
  have bF : Boxed w1 (w.heap.size + 3) 3 (.int .i64 fr) := by
    rw [hw1]
    have h := Boxed.new w' 3 (.int .i64 fr)
    rwa [hz0] at h
  have hb01 : Below w'.heap.size w' w1 := by rw [hw1]; exact (Below.refl _ _).alloc (Nat.le_refl _) _
  have hz1 : w1.heap.size = w.heap.size + 4 := by rw [hw1, World.size_alloc, hz0]
  clear hw1
  have hB1 : Below w.heap.size w w1 := hB0.trans (hb01.mono hB0.size)
  have hbx0 : ∀ {b : Nat} {t : TypeId} {v : Value}, Boxed w' b t v → Boxed w1 b t v := fun h => h.kept (grown_by hb01) (by simp)
  have bE := hbx0 bE
  have bP := hbx0 bP
  have bO := hbx0 bO
  refine wpIn_label ?_
  gi_wp2_with fail
  refine ⟨trivial, ?_⟩
  refine (callsIn_wide.2 (bat.walk_any A m c w1)).mono ?_
  rintro e w2 ⟨rfl, hw2⟩
  rw [hz1]
  have hb2 : Below w1.heap.size w1 w2 := by rw [hw2]; exact (Below.refl _ _).alloc (Nat.le_refl _) _
  have hkp : Blk w2 (w.heap.size + 4) 22 #[.slice A m c] := by
    rw [hw2]
    have h := Blk.new w1 22 #[.slice A m c]
    rwa [hz1] at h
  have hz2 : w2.heap.size = w.heap.size + 5 := by rw [hw2, World.size_alloc, hz1]
  clear hw2
  have hbx : ∀ {b : Nat} {t : TypeId} {v : Value}, Boxed w1 b t v → Boxed w2 b t v := fun h => h.kept (grown_by hb2) (by simp)
  have bE2 := hbx bE
  have bP2 := hbx bP
  have bO2 := hbx bO
  have bF2 := hbx bF
  have hB2 : Below w.heap.size w w2 := hB1.trans (hb2.mono hB1.size)
  have hbs : ∀ b ∈ [w.heap.size + 1, w.heap.size + 2], b = w.heap.size + 1 ∨ b = w.heap.size + 2 := fun b hb => by simpa using hb
  have hnb : ∀ b ∈ [w.heap.size + 1, w.heap.size + 2], boxOf w2 b = none := fun b hb => by
    rcases hbs b hb with rfl | rfl
    · rw [boxOf_boxed bP2]; rfl
    · rw [boxOf_boxed bO2]; rfl
  have hin : InB [w.heap.size + 1, w.heap.size + 2] w2 := fun b hb => ⟨by
    rcases hbs b hb with rfl | rfl
    · exact .of_boxed bP2
    · exact .of_boxed bO2, fun k e => by rw [hnb b hb] at e; cases e⟩
  have hsafe : ∀ k, k ≠ w.heap.size + 1 → k ≠ w.heap.size + 2 → Safe [w.heap.size + 1, w.heap.size + 2] w2 k := fun k hk1 hk2 => ⟨fun h => by
    rcases hbs k h with rfl | rfl
    · exact hk1 rfl
    · exact hk2 rfl, fun b hb e => by rw [hnb b hb] at e; cases e⟩
  have hsrc : Dep (Safe [w.heap.size + 1, w.heap.size + 2] w2) w2 (wk.Src (w.heap.size + 4) A m c L) := (Dep.blk hkp (hsafe _ (by omega) (by omega))).both (Dep.at' (HAT.out.below hB2 (Nat.le_refl _)) fun hp b off e => by
    obtain ⟨b', off', e', hb', -⟩ := HAT.out hp
    rw [e] at e'
    cases e'
    exact hsafe _ (by omega) (by omega))
  clear bE bP bO bF hbx hbx0 hkp hnb hsafe hb01 hB0 hB1 hb2
  gi_wp2_with fail
  refine for_eachB (F := Fence.wide) (n := 5) rfl h1 (gf := 49) (lb := #[.pointer (some ⟨w.heap.size + 4, 0, none⟩)]) rfl trivial (enters_of Try.func49 (by kernel_rfl) rfl)
    (bat.hands 4 (by omega) (w.heap.size + 4) [w.heap.size + 1, w.heap.size + 2] A m c L w2 HL.out HLEN.out hmc hc hm hin hsrc) (Below.refl _ _) Kept.trans
    (fun W o h => Kept.alloc o fun b hb => by rcases hbs b hb with rfl | rfl <;> omega) (fun W l o o' hl ho hcc _ => Kept.put ho hcc fun b hb => by rcases hbs b hb with rfl | rfl <;> omega) (fun _ => rfl)
    (fun pre W => sk.I w.heap.size w o fr pre W) (fun cd pre W => cd = .exit 0 ∧ sk.X w.heap.size w o fr pre W)
    (sk.I_own _ _ _ _ _ (Nat.le_refl _) (by omega)) (fun cd s X Y row hs hg hr => ⟨hs.1, sk.X_own _ _ _ _ w2.heap.size (Nat.le_refl _) (by omega) s X Y row hs.2 hg hr⟩) (wk.R_own _ _ _) (fun _ _ _ _ h _ _ => h) (fun _ _ _ _ h _ _ => h)
    ⟨⟨_, _, bP2, bO2, fun _ => rfl⟩, bE2, bF2, hB2⟩ 50 wk.cells
    (fun x g => { tmps := #[.slice A m c, .slice AE en ec, .int .i64 o, undef, undef, .pointer (some ⟨w.heap.size, 0, none⟩), .pointer (some ⟨w.heap.size + 1, 0, none⟩), .pointer (some ⟨w.heap.size + 1 + 1, 0, none⟩), .pointer (some ⟨w.heap.size + 3, 0, none⟩), .int .i64 (x.1.1 : Int), .pointer (some ⟨g, 0, none⟩), .slice AE en ec, .int .i64 o, .int .i64 fr, .slice A m c, .func (.func 49) #[] #[.pointer (some ⟨w.heap.size + 4, 0, none⟩)], .int .i64 (x.1.1 : Int), .agg (wk.cells x), undef, undef, undef, undef, undef, undef, undef, undef, undef, undef, undef, undef, undef, undef, undef, undef, undef, undef, undef, undef, undef, undef, undef, undef, undef, undef], defers := [] }) ?assign ?body ?done ?stop
  case assign =>
    rintro l ⟨⟨at', b⟩, ⟨A2, c2⟩⟩ W K hK
    unfold wk.encs Bat.hval
    unfold wk.cells at hK
    dsimp only at hK ⊢
    gi_wp2
    exact hK
  case body =>
    rintro l pre ⟨⟨at', b⟩, ⟨A2, c2⟩⟩ g W hg1 hg2 hk hI hR hlt
    unfold wk.cells at hk ⊢
    dsimp only at hk ⊢
    obtain ⟨⟨p, ok, b1, b2, hgo⟩, be, bf, hB⟩ := id hI
    have c1 := b1.cell
    have c2' : W.cell? ⟨w.heap.size + 1 + 1, 0, none⟩ = some (.bool ok) := b2.cell
    have c0 := be.cell
    have c3 := bf.cell
    have g1 : W.cell? ⟨g, 0 + 1, none⟩ = some (.int .i64 b.last) := hk.cell 1 rfl
    have f1 := b1.frozen
    have f2 : W.frozen? ⟨w.heap.size + 1 + 1, 0, none⟩ = false := b2.frozen
    have hs0 := fun V p' ok' hc h1 h2 => sk.step (V := V) (p' := p') (ok' := ok') w2.heap.size (Nat.le_refl _) b1 b2 be bf hB hc h1 h2
    have hs := hs0
    have HS := Lib.hid hs; clear hs hs0
    have hg2' : ∀ rest, sk.go o fr 0 false ((pre ++ [((at', b), (A2, c2))]).map Prod.fst ++ rest) = sk.go o fr p ok ((at', b) :: rest) := fun rest => by
      rw [List.map_append, List.append_assoc, hgo]
      rfl
    have HG := Lib.hid hg2'; clear hg2' hgo
    have HB1 := Lib.hid (And.intro b1 b2); clear b1 b2 be bf hB hI hR hk
    by_cases hlt : ok = false ∧ b.last < o
    · obtain ⟨rfl, hlo⟩ := hlt
      have hG : ∀ rest, sk.go o fr 0 false ((pre ++ [((at', b), (A2, c2))]).map Prod.fst ++ rest) = sk.go o fr p false rest := fun rest => by
        rw [HG.out]
        show (if false = false ∧ b.last < o then _ else _) = _
        rw [if_pos ⟨rfl, hlo⟩]
      have HG2 := Lib.hid hG; clear hG HG
      gi_wp2
      obtain ⟨q1, q2, q3, q4, q5, q6, q7⟩ := HS.out W p false (Chg.refl _ _) HB1.out.1 HB1.out.2
      exact ⟨q1, q2, ⟨p, false, q3, q4, HG2.out⟩, q5, q6, q7⟩
    · have hno : ¬ (ok = false ∧ b.last < o) := hlt
      have hlst : ok = false → o ≤ b.last := fun h => by
        rcases Int.lt_or_le b.last o with h2 | h2
        · exact absurd ⟨h, h2⟩ hno
        · exact h2
      have HNO := Lib.hid hno; clear hno hlt
      have hfst : ∀ v, Boxed (W.setCell ⟨w.heap.size + 1, 0, none⟩ v) (w.heap.size + 1) 3 v ∧ Boxed (W.setCell ⟨w.heap.size + 1, 0, none⟩ v) (w.heap.size + 2) 4 (.bool ok) := fun v => ⟨HB1.out.1.set v, HB1.out.2.other (by omega) v⟩
      have hsnd : ∀ v, Boxed ((W.setCell ⟨w.heap.size + 1, 0, none⟩ v).setCell ⟨w.heap.size + 2, 0, none⟩ (.bool true)) (w.heap.size + 1) 3 v ∧ Boxed ((W.setCell ⟨w.heap.size + 1, 0, none⟩ v).setCell ⟨w.heap.size + 2, 0, none⟩ (.bool true)) (w.heap.size + 2) 4 (.bool true) := fun v => ⟨(hfst v).1.other (by omega) _, (hfst v).2.set _⟩
      have hch : ∀ v, Chg W (W.setCell ⟨w.heap.size + 1, 0, none⟩ v) (fun k => k = w.heap.size + 1 ∨ k = w.heap.size + 2) := fun v => (Chg.refl W _).trans (Chg.setCell W (w.heap.size + 1) 0 v) fun k _ h => .inl h
      have hch2 : ∀ v, Chg W ((W.setCell ⟨w.heap.size + 1, 0, none⟩ v).setCell ⟨w.heap.size + 2, 0, none⟩ (.bool true)) (fun k => k = w.heap.size + 1 ∨ k = w.heap.size + 2) := fun v => (hch v).trans (Chg.setCell _ (w.heap.size + 2) 0 (.bool true)) fun k _ h => .inr h
      have HF := Lib.hid (And.intro hfst (And.intro hsnd (And.intro hch hch2))); clear hfst hsnd hch hch2
      by_cases heq : (at' : Int) = fr
      · subst heq
        have hG : ∀ rest, sk.go o (at' : Int) 0 false ((pre ++ [((at', b), (A2, c2))]).map Prod.fst ++ rest) = ((at' : Int), true) := fun rest => by
          rw [HG.out]
          exact sk.go_eq HNO.out rfl
        have HG2 := Lib.hid hG; clear hG HG
        cases ok with
        | false =>
          have hle := hlst rfl
          clear hlst
          gi_wp2
          have hV := (HF.out.2.1 (.int .i64 (at' : Int))).1.set (.int .i64 (at' : Int))
          have hV2 := (HF.out.2.1 (.int .i64 (at' : Int))).2.other (show w.heap.size + 2 ≠ w.heap.size + 1 by omega) (.int .i64 (at' : Int))
          obtain ⟨q1, q2, q3, q4, q5, q6, q7⟩ := HS.out _ (at' : Int) true ((HF.out.2.2.2 (.int .i64 (at' : Int))).trans (Chg.setCell _ (w.heap.size + 1) 0 (.int .i64 (at' : Int))) fun k _ h => .inl h) hV hV2
          exact ⟨by first | exact q1 | (rw [← hz2]; exact q1), q2, rfl, ⟨_, true, q3, q4, HG2.out⟩, q5, q6, q7⟩
        | true =>
          clear hlst
          gi_wp2
          obtain ⟨q1, q2, q3, q4, q5, q6, q7⟩ := HS.out _ (at' : Int) true (HF.out.2.2.1 (.int .i64 (at' : Int))) (HF.out.1 _).1 (HF.out.1 _).2
          exact ⟨by first | exact q1 | (rw [← hz2]; exact q1), q2, rfl, ⟨_, true, q3, q4, HG2.out⟩, q5, q6, q7⟩
      · have hef : ((at' : Int) == fr) = false := by simpa using heq
        by_cases hgt : fr < (at' : Int)
        · have hG : ∀ rest, sk.go o fr 0 false ((pre ++ [((at', b), (A2, c2))]).map Prod.fst ++ rest) = (if ok then p else (at' : Int), true) := fun rest => by
            rw [HG.out]
            exact sk.go_gt HNO.out hgt
          have HG2 := Lib.hid hG; clear hG HG
          cases ok with
          | false =>
            have hle := hlst rfl
            clear hlst
            gi_wp2
            obtain ⟨q1, q2, q3, q4, q5, q6, q7⟩ := HS.out _ (at' : Int) true (HF.out.2.2.2 (.int .i64 (at' : Int))) (HF.out.2.1 _).1 (HF.out.2.1 _).2
            exact ⟨by first | exact q1 | (rw [← hz2]; exact q1), q2, rfl, ⟨_, true, q3, q4, HG2.out⟩, q5, q6, q7⟩
          | true =>
            clear hlst
            gi_wp2
            obtain ⟨q1, q2, q3, q4, q5, q6, q7⟩ := HS.out W p true (Chg.refl _ _) HB1.out.1 HB1.out.2
            exact ⟨by first | exact q1 | (rw [← hz2]; exact q1), q2, rfl, ⟨_, true, q3, q4, HG2.out⟩, q5, q6, q7⟩
        · have hlt2 : (at' : Int) < fr := by omega
          have hG : ∀ rest, sk.go o fr 0 false ((pre ++ [((at', b), (A2, c2))]).map Prod.fst ++ rest) = sk.go o fr (if ok then p else (at' : Int)) true rest := fun rest => by
            rw [HG.out]
            exact sk.go_lt HNO.out hlt2
          have HG2 := Lib.hid hG; clear hG HG
          cases ok with
          | false =>
            have hle := hlst rfl
            clear hlst
            gi_wp2
            obtain ⟨q1, q2, q3, q4, q5, q6, q7⟩ := HS.out _ (at' : Int) true (HF.out.2.2.2 (.int .i64 (at' : Int))) (HF.out.2.1 _).1 (HF.out.2.1 _).2
            exact ⟨by first | exact q1 | (rw [← hz2]; exact q1), q2, ⟨_, true, q3, q4, HG2.out⟩, q5, q6, q7⟩
          | true =>
            clear hlst
            gi_wp2
            obtain ⟨q1, q2, q3, q4, q5, q6, q7⟩ := HS.out W p true (Chg.refl _ _) HB1.out.1 HB1.out.2
            exact ⟨by first | exact q1 | (rw [← hz2]; exact q1), q2, ⟨_, true, q3, q4, HG2.out⟩, q5, q6, q7⟩
  case done =>
    rintro D xs W hD hS ⟨⟨p, ok, b1, b2, hgo⟩, be, bf, hB⟩ hK
    have hS : xs.map Prod.fst = dec.walk L := hS
    have hgo0 := hgo []
    rw [List.append_nil, hS] at hgo0
    have HGO := Lib.hid (show sk.go o fr 0 false (dec.walk L) = (p, ok) from hgo0)
    have c1 := b1.cell
    have c2 : W.cell? ⟨w.heap.size + 1 + 1, 0, none⟩ = some (.bool ok) := b2.cell
    have f1 := b1.frozen
    have f2 : W.frozen? ⟨w.heap.size + 1 + 1, 0, none⟩ = false := b2.frozen
    have HH := Lib.hid (And.intro b1 (And.intro b2 hB)); clear b1 b2 be bf hB hgo hgo0 hS
    gi_wp2_with fail
    gi_region
    gi_wp2_with fail
    obtain ⟨V, hVe⟩ : ∃ V, V = ((W.setCell ⟨w.heap.size + 1, 0, none⟩ (.int .i64 p)).setCell ⟨w.heap.size + 1 + 1, 0, none⟩ (.bool ok)).drew := ⟨_, rfl⟩
    rw [← hVe]
    have hV1 : Boxed V (w.heap.size + 1) 3 (.int .i64 p) := by rw [hVe]; exact (HH.out.1.set _).other (show w.heap.size + 1 ≠ w.heap.size + 2 by omega) (.bool ok)
    have hV2 : Boxed V (w.heap.size + 2) 4 (.bool ok) := by rw [hVe]; exact (HH.out.2.1.other (show w.heap.size + 2 ≠ w.heap.size + 1 by omega) (.int .i64 p)).set _
    have hcg : Chg W V (fun k => k = w.heap.size + 1 ∨ k = w.heap.size + 2) := by rw [hVe]; exact ((((Chg.refl W _).trans (Chg.setCell W (w.heap.size + 1) 0 (.int .i64 p)) fun k _ h => .inl h)).trans (Chg.setCell _ (w.heap.size + 2) 0 (.bool ok)) fun k _ h => .inr h).drew
    clear hVe
    have hKV : V.heap[D]? = some (.deferred (some [])) := (hcg.block D (heap_in hK) (by omega)).trans hK
    have hput : ∀ o', Boxed (V.putObj D o') (w.heap.size + 1) 3 (.int .i64 p) ∧ Boxed (V.putObj D o') (w.heap.size + 2) 4 (.bool ok) := fun o' => ⟨(Dep.blk (Z := fun _ => True) hV1 trivial).put hKV rfl, (Dep.blk (Z := fun _ => True) hV2 trivial).put hKV rfl⟩
    have hBV : Below w.heap.size w V := HH.out.2.2.trans (hcg.below HH.out.2.2.size fun k hk => by omega)
    (try rw [Exit.noGoto_ret])
    refine ⟨by simp, .inl ⟨_, _, rfl, run_takeDeferred hKV, ?_⟩⟩
    refine ⟨_, results_cells2 rfl _ _ ⟨w.heap.size + 1, 0, none⟩ ⟨w.heap.size + 2, 0, none⟩ rfl rfl (loadVar_int (hput _).1.cell) (loadVar_bool (hput _).2.cell), ?_⟩
    exact ⟨by rw [← HFR.out, HGO.out], hBV.trans (belowK_b (w := w) (Nat.le_refl _) V D _ _ (by omega) hKV rfl rfl)⟩
  case stop =>
    rintro D cd pre W hD hpre ⟨rfl, ⟨p, ok, b1, b2, hgo⟩, be, bf, hB⟩ hK
    obtain ⟨rest, hr⟩ := hpre
    have hgo0 := hgo rest
    have HGO := Lib.hid (show sk.go o fr 0 false (dec.walk L) = (p, ok) by rw [← hr]; exact hgo0)
    have c1 := b1.cell
    have c2 : W.cell? ⟨w.heap.size + 1 + 1, 0, none⟩ = some (.bool ok) := b2.cell
    have f1 := b1.frozen
    have f2 : W.frozen? ⟨w.heap.size + 1 + 1, 0, none⟩ = false := b2.frozen
    have HH := Lib.hid (And.intro b1 (And.intro b2 hB)); clear b1 b2 be bf hB hgo hgo0 hr
    gi_wp2_with fail
    gi_region
    gi_wp2_with fail
    obtain ⟨V, hVe⟩ : ∃ V, V = ((W.setCell ⟨w.heap.size + 1, 0, none⟩ (.int .i64 p)).setCell ⟨w.heap.size + 1 + 1, 0, none⟩ (.bool ok)).drew := ⟨_, rfl⟩
    rw [← hVe]
    have hV1 : Boxed V (w.heap.size + 1) 3 (.int .i64 p) := by rw [hVe]; exact (HH.out.1.set _).other (show w.heap.size + 1 ≠ w.heap.size + 2 by omega) (.bool ok)
    have hV2 : Boxed V (w.heap.size + 2) 4 (.bool ok) := by rw [hVe]; exact (HH.out.2.1.other (show w.heap.size + 2 ≠ w.heap.size + 1 by omega) (.int .i64 p)).set _
    have hcg : Chg W V (fun k => k = w.heap.size + 1 ∨ k = w.heap.size + 2) := by rw [hVe]; exact ((((Chg.refl W _).trans (Chg.setCell W (w.heap.size + 1) 0 (.int .i64 p)) fun k _ h => .inl h)).trans (Chg.setCell _ (w.heap.size + 2) 0 (.bool ok)) fun k _ h => .inr h).drew
    clear hVe
    have hKV : V.heap[D]? = some (.deferred (some [])) := (hcg.block D (heap_in hK) (by omega)).trans hK
    have hput : ∀ o', Boxed (V.putObj D o') (w.heap.size + 1) 3 (.int .i64 p) ∧ Boxed (V.putObj D o') (w.heap.size + 2) 4 (.bool ok) := fun o' => ⟨(Dep.blk (Z := fun _ => True) hV1 trivial).put hKV rfl, (Dep.blk (Z := fun _ => True) hV2 trivial).put hKV rfl⟩
    have hBV : Below w.heap.size w V := HH.out.2.2.trans (hcg.below HH.out.2.2.size fun k hk => by omega)
    (try rw [Exit.noGoto_ret])
    refine ⟨by simp, .inl ⟨_, _, rfl, run_takeDeferred hKV, ?_⟩⟩
    refine ⟨_, results_cells2 rfl _ _ ⟨w.heap.size + 1, 0, none⟩ ⟨w.heap.size + 2, 0, none⟩ rfl rfl (loadVar_int (hput _).1.cell) (loadVar_bool (hput _).2.cell), ?_⟩
    exact ⟨by rw [← HFR.out, HGO.out], hBV.trans (belowK_b (w := w) (Nat.le_refl _) V D _ _ (by omega) hKV rfl rfl)⟩

attribute [local go_sem] Oper.semAt_some

/-- One batch stands ahead of another. -/
def sk.R (x y : Nat × Bat) : Prop := x.1 < y.1 ∧ x.2.last < y.2.base
theorem sk.walkF_rise {L : List Nat} (hL : ∀ x ∈ L, x < 256) : ∀ (g at' : Nat) (ahead : Int), (∀ x ∈ dec.walkF g L at' ahead, at' ≤ x.1 ∧ ahead < x.2.base) ∧ (dec.walkF g L at' ahead).Pairwise sk.R
  | 0, _, _ => ⟨fun x hx => (by cases hx), .nil⟩
  | g + 1, at', ahead => by
    rw [dec.walkF_succ]
    cases h : dec.first (L.drop at') with
    | none => exact ⟨fun x hx => (by cases hx), .nil⟩
    | some y =>
      obtain ⟨b, u⟩ := y
      unfold dec.walkG
      dsimp only
      split
      · exact ⟨fun x hx => (by cases hx), .nil⟩
      · rename_i hb
        have hi := dec.is_of hL h
        have hm := (Bat.check_ok hi.check).1.2.2.1
        have hlow := hi.low
        obtain ⟨i1, i2⟩ := sk.walkF_rise hL g (at' + u) b.last
        refine ⟨fun x hx => ?_, List.pairwise_cons.2 ⟨fun x hx => ?_, i2⟩⟩
        · rcases List.mem_cons.1 hx with rfl | hx
          · exact ⟨Nat.le_refl _, by show ahead < b.base; omega⟩
          · have := i1 x hx
            exact ⟨by omega, by omega⟩
        · have := i1 x hx
          exact ⟨by show at' < x.1; omega, this.2⟩
theorem sk.look_in (f : Nat → Nat → Int) (o : Int) (E : List (Nat × Bat)) (hf : ∀ (i : Nat) (x : Nat × Bat), E[i]? = some x → f i 0 = x.2.base ∧ f i 1 = (x.1 : Int)) : ∀ k, k ≤ E.length → oi.look f o k = 0 ∨ ∃ y ∈ E, y.2.base ≤ o ∧ oi.look f o k = (y.1 : Int)
  | 0, _ => .inl rfl
  | k + 1, hk => by
    obtain ⟨y, hy⟩ : ∃ y, E[k]? = some y := ⟨_, List.getElem?_eq_getElem (by omega)⟩
    obtain ⟨h1, h2⟩ := hf k y hy
    unfold oi.look
    split
    · rename_i h
      exact .inr ⟨y, List.mem_of_getElem? hy, by omega, h2⟩
    · exact sk.look_in f o E hf k (by omega)
/-- An index of batches of the walk leads no further than to the first that reaches. -/
theorem sk.low {L : List Nat} (hL : ∀ x ∈ L, x < 256) (f : Nat → Nat → Int) (o : Int) (E : List (Nat × Bat)) (hE : E.Sublist (dec.walk L)) (hf : ∀ (i : Nat) (x : Nat × Bat), E[i]? = some x → f i 0 = x.2.base ∧ f i 1 = (x.1 : Int)) :
    ∀ x ∈ dec.walk L, o ≤ x.2.last → oi.look f o E.length ≤ (x.1 : Int) := by
  intro x hx ho
  rcases sk.look_in f o E hf E.length (Nat.le_refl _) with h | ⟨y, hy, h1, h2⟩
  · omega
  · rw [h2]
    have hp := (sk.walkF_rise hL L.length 0 (-1)).2
    have hyl := hE.subset hy
    obtain ⟨i, hi, hix⟩ := List.mem_iff_getElem.1 hx
    obtain ⟨j, hj, hjy⟩ := List.mem_iff_getElem.1 hyl
    have hpi := List.pairwise_iff_getElem.1 hp
    rcases Nat.lt_trichotomy i j with hij | hij | hij
    · have := hpi i j hi hj hij
      unfold dec.walk at hix hjy
      rw [hix, hjy] at this
      have := this.2
      omega
    · subst hij
      rw [hix] at hjy
      subst hjy
      exact Int.le_refl _
    · have := hpi j i hj hi hij
      unfold dec.walk at hix hjy
      rw [hix, hjy] at this
      have := this.1
      omega
/-- An index that was built, as entries. -/
def ob.num (E : List (Nat × Bat)) (i j : Nat) : Int :=
  match E[i]? with
  | none => 0
  | some x => if j = 0 then x.2.base else (x.1 : Int)
theorem ob.num_at {E : List (Nat × Bat)} {i : Nat} {x : Nat × Bat} (h : E[i]? = some x) : ob.num E i 0 = x.2.base ∧ ob.num E i 1 = (x.1 : Int) := by
  unfold ob.num
  rw [h]
  exact ⟨rfl, rfl⟩
theorem ob.at2 {w : World} {A : Option Addr} {E : List (Nat × Bat)} (h : At w A (E.length * 2) (fun j => (ob.row E).getD j undef)) : At2 w A E.length (ob.num E) := by
  refine ⟨_, h, fun i j hi hj => ?_⟩
  obtain ⟨x, hx⟩ : ∃ x, E[i]? = some x := ⟨_, List.getElem?_eq_getElem hi⟩
  have hg := flat_get ob.cell2 2 (fun _ => rfl) E i j x hx hj
  obtain ⟨h0, h1⟩ := ob.num_at hx
  show ((E.map ob.cell2).flatten).getD (i * 2 + j) undef = _
  rw [hg]
  match j, hj with
  | 0, _ => rw [h0]; rfl
  | 1, _ => rw [h1]; rfl
/-- With an index that was built the search finds what a walk finds. -/
theorem sk.built {L : List Nat} (hL : ∀ x ∈ L, x < 256) (mm o : Int) : sk.go o (oi.look (ob.num (ob.ent mm 0 (dec.walk L))) o (ob.ent mm 0 (dec.walk L)).length) 0 false (dec.walk L) = sk.find o (dec.walk L) :=
  sk.go_find o _ _ (sk.low hL _ o _ (ob.sub mm _ 0) fun _ _ h => ob.num_at h)
theorem sk.empty (L : List Nat) (o : Int) (f : Nat → Nat → Int) : sk.go o (oi.look f o 0) 0 false (dec.walk L) = sk.find o (dec.walk L) :=
  sk.go_find o _ _ fun x _ _ => by
    show (0 : Int) ≤ (x.1 : Int)
    omega
theorem sk.seek_built (A : Option Addr) (m c : Nat) (L : List Nat) (AE : Option Addr) (ec : Nat) (mm o : Int) (w : World) (hL : ∀ x ∈ L, x < 256) (hlen : L.length = m) (hmc : m ≤ c) (hc : c ≤ maxLen) (hm : m ≤ 1000000) (hat : At w A m (byteAt L))
    (hE : At w AE ((ob.ent mm 0 (dec.walk L)).length * 2) (fun j => (ob.row (ob.ent mm 0 (dec.walk L))).getD j undef)) :
    Calls Try.prog 16 #[.slice A m c, .slice AE (ob.ent mm 0 (dec.walk L)).length ec, .int .i64 o] w fun e w' => e = .returned (.tuple #[.int .i64 (sk.find o (dec.walk L)).1, .bool (sk.find o (dec.walk L)).2]) ∧ Below w.heap.size w w' := by
  have hwl := dec.walk_len hL
  have h2 := (ob.sub mm (dec.walk L) 0).length_le
  have h := sk.seek_any A m c L AE _ ec _ o w hL hlen hmc hc hm (by omega) hat (ob.at2 hE)
  rw [sk.built hL] at h
  exact h
theorem sk.seek_none (A : Option Addr) (m c : Nat) (L : List Nat) (o : Int) (w : World) (hL : ∀ x ∈ L, x < 256) (hlen : L.length = m) (hmc : m ≤ c) (hc : c ≤ maxLen) (hm : m ≤ 1000000) (hat : At w A m (byteAt L)) :
    Calls Try.prog 16 #[.slice A m c, .slice none 0 0, .int .i64 o] w fun e w' => e = .returned (.tuple #[.int .i64 (sk.find o (dec.walk L)).1, .bool (sk.find o (dec.walk L)).2]) ∧ Below w.heap.size w w' := by
  have h := sk.seek_any A m c L none 0 0 (fun _ _ => 0) o w hL hlen hmc hc hm (by omega) hat ⟨fun _ => .int .i64 0, fun h => absurd h (by omega), fun i j hi => absurd hi (by omega)⟩
  rw [sk.empty] at h
  exact h
theorem sk.find_drop (o : Int) (l : List (Nat × Bat)) (k : Nat) (y : Nat × Bat) (hy : l[k]? = some y) : sk.find o (l.drop k) = if y.2.last < o then sk.find o (l.drop (k + 1)) else ((y.1 : Int), true) := by
  obtain ⟨hk, e⟩ := List.getElem?_eq_some_iff.1 hy
  rw [List.drop_eq_getElem_cons hk, e]
  rfl

set_option maxRecDepth 100000 in
set_option maxHeartbeats 4000000 in
theorem sk.lawSeeks (A : Option Addr) (n c : Nat) (z : List Int) (every other o : Int) (w : World) (hm : z.length = n ∧ n ≤ c ∧ c ≤ maxLen) (hat0 : At w A n (fun j => .int .u8 (z.getD j 0))) (hz : ∀ x ∈ z, (Lit.int .u8 x).wf = true) :
    Calls Try.prog 4 #[.slice A n c, .int .i64 every, .int .i64 other, .int .i64 o] w fun e w' => e = .returned (.bool true) ∧ Below w.heap.size w w' := by
  obtain ⟨hzn, hnc, hcm⟩ := hm
  obtain ⟨hat, hby0⟩ := ints_bytes hat0 hzn hz
  obtain ⟨L, hL⟩ : ∃ L, L = z.map Int.toNat := ⟨_, rfl⟩
  have hln : L.length = n := by rw [hL, List.length_map]; exact hzn
  rw [← hL] at hat hby0
  have hby := ob.bytes_each hln hby0
  clear hby0 hat0 hz hzn hL
  have HAW := Lib.hid (fun wx => oi.awake_any wx)
  by_cases hn5 : n ≤ 4000
  · have hall := fun wx (h : Below w.heap.size w wx) => ref.all_any A c n L wx hln (hat.below h (Nat.le_refl _)) hby hnc hcm (by omega)
    have hwl := dec.walk_len hby
    rw [hln] at hwl
    obtain ⟨⟨F1, F2⟩, hF⟩ : ∃ y, y = sk.find o (dec.walk L) := ⟨_, rfl⟩
    have hb : ∀ ev : Int, ∃ (N : Nat) (T : World → Option Addr → Prop), (∀ wx, Below w.heap.size w wx → Calls Try.prog 19 #[.slice A n c, .int .i64 ev] wx fun e w' => ∃ A1 c1, e = .returned (.slice A1 N c1) ∧ T w' A1 ∧ Below wx.heap.size wx w') ∧
        (∀ wx A1 c1, Below w.heap.size w wx → T wx A1 → Calls Try.prog 16 #[.slice A n c, .slice A1 N c1, .int .i64 o] wx fun e w' => e = .returned (.tuple #[.int .i64 F1, .bool F2]) ∧ Below wx.heap.size wx w') := fun ev => by
      refine ⟨(ob.ent (max ev 1) 0 (dec.walk L)).length, fun wx A1 => At wx A1 ((ob.ent (max ev 1) 0 (dec.walk L)).length * 2) (fun j => (ob.row (ob.ent (max ev 1) 0 (dec.walk L))).getD j undef), fun wx hwx => ?_, fun wx A1 c1 hwx hT => ?_⟩
      · refine (ob.build_any A n c L ev wx hby hln hnc hcm (by omega) (hat.below hwx (Nat.le_refl _))).mono ?_
        rintro e w' ⟨A1, c1, h1, -, h2, h3⟩
        exact ⟨A1, c1, h1, h2, h3⟩
      · have h := sk.seek_built A n c L A1 c1 (max ev 1) o wx hby hln hnc hcm (by omega) (hat.below hwx (Nat.le_refl _)) hT
        rw [← hF] at h
        exact h
    have hs3 := fun wx (hwx : Below w.heap.size w wx) => sk.seek_none A n c L o wx hby hln hnc hcm (by omega) (hat.below hwx (Nat.le_refl _))
    rw [← hF] at hs3
    obtain ⟨N1, T1, hb1, hs1⟩ := hb every
    obtain ⟨N2, T2, hb2, hs2⟩ := hb other
    clear hb
    unfold wa.Post at hall
    obtain ⟨l, hl⟩ : ∃ l, l = dec.walk L := ⟨_, rfl⟩
    rw [← hl] at hwl hall hF
    obtain ⟨N, hN⟩ : ∃ N, N = l.length := ⟨_, rfl⟩
    rw [← hN] at hall hwl
    have HB1 := Lib.hid hb1; clear hb1
    have HB2 := Lib.hid hb2; clear hb2
    have HS1 := Lib.hid hs1; clear hs1
    have HS2 := Lib.hid hs2; clear hs2
    have HS3 := Lib.hid hs3; clear hs3
    have HALL := Lib.hid hall; clear hall
    have HF := Lib.hid hF; clear hF
    have HN := Lib.hid hN; clear hN hl
    clear hat hby hln
    go_enter Try.func4, Try.ntmps4
    go_wp2_with fail
    refine (HB1.out w (Below.refl _ _)).mono ?_
    rintro e w1 ⟨A1, c1, rfl, hT1, hw1⟩
    have HW1 := Lib.hid hw1; clear hw1 HB1
    have HT1 := Lib.hid hT1; clear hT1
    go_wp2_with fail
    refine (HS1.out w1 A1 c1 HW1.out HT1.out).mono ?_
    rintro e w2 ⟨rfl, hw2⟩
    have HW2 := Lib.hid (HW1.out.trans (hw2.mono HW1.out.size)); clear hw2 HW1 HS1 HT1
    go_wp2_with fail
    refine (HB2.out w2 HW2.out).mono ?_
    rintro e w3 ⟨A2, c2, rfl, hT2, hw3⟩
    have HW3 := Lib.hid (HW2.out.trans (hw3.mono HW2.out.size)); clear hw3 HW2 HB2
    have HT2 := Lib.hid hT2; clear hT2
    go_wp2_with fail
    refine (HS2.out w3 A2 c2 HW3.out HT2.out).mono ?_
    rintro e w4 ⟨rfl, hw4⟩
    have HW4 := Lib.hid (HW3.out.trans (hw4.mono HW3.out.size)); clear hw4 HW3 HS2 HT2
    go_wp2_with fail
    refine (HS3.out w4 HW4.out).mono ?_
    rintro e w5 ⟨rfl, hw5⟩
    have HW5 := Lib.hid (HW4.out.trans (hw5.mono HW4.out.size)); clear hw5 HW4 HS3
    go_wp2_with fail
    refine (HALL.out w5 HW5.out).mono ?_
    rintro e w6 ⟨A3, c3, rfl, hc3, hats, hw6⟩
    have HW6 := Lib.hid (HW5.out.trans (hw6.mono HW5.out.size)); clear hw6 HW5 HALL
    have HATS := Lib.hid hats; clear hats
    go_wp2_with fail
    go_loopg [16, 17, 18] N (fun g s16 s17 s18 wx => ∃ (k : Nat) (p : Int) (mt : Bool), k + g = N ∧ s16 = .int .i64 p ∧ s17 = .bool mt ∧ s18 = .int .i64 (k : Int) ∧ (if mt then (p, true) else sk.find o (l.drop k)) = (F1, F2) ∧ (mt = false → p = 0) ∧ Below w6.heap.size w6 wx)
    case atStart => exact ⟨0, 0, false, by omega, rfl, rfl, rfl, by rw [HF.out]; rfl, fun _ => rfl, Below.refl _ _⟩
    case round =>
      obtain ⟨k, p, mt, hkg, rfl, rfl, rfl, hfd, hp0, hbr⟩ := hrel
      have HBR := Lib.hid hbr; clear hbr
      have HEND := Lib.hid (fun (V : World) (h : Below wr.heap.size wr V) => (HW6.out.trans (HBR.out.mono HW6.out.size)).trans (h.mono (HW6.out.trans (HBR.out.mono HW6.out.size)).size))
      by_cases hmt : mt = true
      · subst hmt
        obtain ⟨rfl, rfl⟩ : p = F1 ∧ true = F2 := by simpa using hfd
        clear hfd hp0
        by_cases hk : k < N
        all_goals
          go_wp2_with fail
          (try go_quiet (fail))
          go_wp2_with fail
          refine (HAW.out _).mono ?_
          rintro e w7 ⟨rfl, hb7⟩
          have HB7 := Lib.hid (HEND.out _ hb7); clear hb7
          go_wp2_with fail
          (try rw [Exit.noGoto_ret])
          go_ret
          exact ⟨rfl, HB7.out⟩
      · obtain rfl : mt = false := by simpa using hmt
        clear hmt
        obtain rfl : p = 0 := hp0 rfl
        clear hp0
        rw [if_neg (by simp)] at hfd
        cases gk with
        | zero =>
          obtain rfl : k = N := by omega
          rw [List.drop_of_length_le (by rw [← HN.out]; exact Nat.le_refl _)] at hfd
          obtain ⟨rfl, rfl⟩ : (0 : Int) = F1 ∧ false = F2 := by simpa [sk.find] using hfd
          clear hfd
          go_wp2_with fail
          (try go_quiet (fail))
          go_wp2_with fail
          refine (HAW.out _).mono ?_
          rintro e w7 ⟨rfl, hb7⟩
          have HB7 := Lib.hid (HEND.out _ hb7); clear hb7
          go_wp2_with fail
          (try rw [Exit.noGoto_ret])
          go_ret
          exact ⟨rfl, HB7.out⟩
        | succ g =>
          have hkN : k < N := by omega
          obtain ⟨y, hy⟩ : ∃ y, l[k]? = some y := ⟨_, List.getElem?_eq_getElem (by rw [← HN.out]; exact hkN)⟩
          rw [sk.find_drop o l k y hy] at hfd
          obtain ⟨at', b⟩ := y
          obtain ⟨b2, o2, v2, hA2, hb2l, d0, d1, d2, -⟩ := (HATS.out.below HBR.out (Nat.le_refl _)).get hy
          subst hA2
          dsimp only at d0 d1 d2 hfd
          have HFD := Lib.hid hfd; clear hfd
          clear hy hb2l
          by_cases hlo : b.last < o
          · have hfd := HFD.out
            rw [if_pos hlo] at hfd
            have HFD2 := Lib.hid hfd; clear hfd HFD
            go_wp2_with fail
            go_roundg g
            case measure => omega
            case rel => exact ⟨k + 1, 0, false, by omega, rfl, rfl, by go_num, by rw [if_neg (by simp)]; exact HFD2.out, fun _ => rfl, HBR.out⟩
          · have hfd := HFD.out
            rw [if_neg hlo] at hfd
            have HFD2 := Lib.hid hfd; clear hfd HFD
            have hle : o ≤ b.last := by omega
            go_wp2_with fail
            go_roundg g
            case measure => omega
            case rel => exact ⟨k + 1, (at' : Int), true, by omega, rfl, rfl, by go_num, by rw [if_pos rfl]; exact HFD2.out, (fun h => (by cases h)), HBR.out⟩
  · go_enter Try.func4, Try.ntmps4
    have h1 : 4000 < n := by omega
    clear hn5
    go_wp2_with fail
    refine (HAW.out w).mono ?_
    rintro e w1 ⟨rfl, hb1⟩
    go_wp2_with fail
    go_ret
    exact ⟨rfl, hb1⟩

attribute [local go_sem] Oper.semAt_some

/-- The document's search. -/
def oa.find (o fr : Int) : List (Nat × Bat) → Int × Bool
  | [] => (0, false)
  | x :: l => if fr ≤ (x.1 : Int) ∧ o ≤ x.2.last then ((x.1 : Int), true) else oa.find o fr l
def oa.has (fr : Int) (l : List (Nat × Bat)) : Bool := l.any fun y => (y.1 : Int) == fr
def oa.seek (o fr : Int) (l : List (Nat × Bat)) : Int × Bool := oa.find o (if oa.has fr l = true then fr else 0) l
theorem oa.find_low {o fr : Int} : ∀ (l : List (Nat × Bat)), (∀ y ∈ l, fr ≤ (y.1 : Int)) → oa.find o fr l = oa.find o 0 l
  | [], _ => rfl
  | x :: l, h => by
    have h1 := h x (List.mem_cons_self ..)
    unfold oa.find
    rw [oa.find_low l fun y hy => h y (List.mem_cons_of_mem _ hy)]
    by_cases h2 : o ≤ x.2.last
    · rw [if_pos ⟨h1, h2⟩, if_pos ⟨by omega, h2⟩]
    · rw [if_neg (fun hh => h2 hh.2), if_neg (fun hh => h2 hh.2)]
theorem oa.has_iff {fr : Int} {l : List (Nat × Bat)} : oa.has fr l = true ↔ ∃ y ∈ l, (y.1 : Int) = fr := by
  unfold oa.has
  rw [List.any_eq_true]
  simp
theorem oa.find_hit {o fr : Int} : ∀ (l : List (Nat × Bat)), l.Pairwise sk.R → (∀ y ∈ l, o ≤ y.2.last) → oa.has fr l = true → oa.find o fr l = (fr, true)
  | [], _, _, h => by simp [oa.has] at h
  | x :: l, hp, hl, h => by
    obtain ⟨h1, h2⟩ := List.pairwise_cons.1 hp
    unfold oa.find
    by_cases hx : (x.1 : Int) = fr
    · rw [if_pos ⟨by omega, hl x (List.mem_cons_self ..)⟩, hx]
    · obtain ⟨y, hy, hyf⟩ := oa.has_iff.1 h
      have hyl : y ∈ l := by
        rcases List.mem_cons.1 hy with rfl | hy
        · exact absurd hyf hx
        · exact hy
      have := (h1 y hyl).1
      rw [if_neg (by omega)]
      exact oa.find_hit l h2 (fun z hz => hl z (List.mem_cons_of_mem _ hz)) (oa.has_iff.2 ⟨y, hyl, hyf⟩)
theorem oa.has_not {fr : Int} {x : Nat × Bat} {l : List (Nat × Bat)} (h1 : ∀ y ∈ l, sk.R x y) (hg : fr < (x.1 : Int)) : ¬ oa.has fr (x :: l) = true := fun h => by
  obtain ⟨y, hy, hyf⟩ := oa.has_iff.1 h
  rcases List.mem_cons.1 hy with rfl | hy
  · omega
  · have := (h1 y hy).1
    omega
theorem oa.has_cons {fr : Int} {x : Nat × Bat} {l : List (Nat × Bat)} (hx : (x.1 : Int) ≠ fr) : oa.has fr (x :: l) = oa.has fr l := by
  unfold oa.has
  rw [List.any_cons, show ((x.1 : Int) == fr) = false by simpa using hx, Bool.false_or]
theorem oa.go_true {o fr p : Int} : ∀ (l : List (Nat × Bat)), l.Pairwise sk.R → sk.go o fr p true l = (if oa.has fr l = true then fr else p, true)
  | [], _ => rfl
  | x :: l, hp => by
    obtain ⟨h1, h2⟩ := List.pairwise_cons.1 hp
    have hno : ¬ (true = false ∧ x.2.last < o) := fun h => by cases h.1
    by_cases hx : (x.1 : Int) = fr
    · rw [sk.go_eq hno hx, if_pos (show oa.has fr (x :: l) = true from oa.has_iff.2 ⟨x, List.mem_cons_self .., hx⟩), hx]
    · by_cases hg : fr < (x.1 : Int)
      · rw [sk.go_gt hno hg, if_neg (oa.has_not h1 hg)]
        rfl
      · rw [sk.go_lt hno (by omega), oa.go_true l h2, oa.has_cons hx]
        rfl
theorem oa.find_yes {o F : Int} {x : Nat × Bat} {l : List (Nat × Bat)} (h1 : F ≤ (x.1 : Int)) (h2 : o ≤ x.2.last) : oa.find o F (x :: l) = ((x.1 : Int), true) := by
  rw [oa.find, if_pos (show F ≤ (x.1 : Int) ∧ o ≤ x.2.last from ⟨h1, h2⟩)]
theorem oa.find_no {o F : Int} {x : Nat × Bat} {l : List (Nat × Bat)} (h : ¬ (F ≤ (x.1 : Int) ∧ o ≤ x.2.last)) : oa.find o F (x :: l) = oa.find o F l := by
  rw [oa.find, if_neg h]
theorem oa.go_ref {o fr : Int} : ∀ (l : List (Nat × Bat)), l.Pairwise sk.R → (∀ y ∈ l, y.2.base ≤ y.2.last) → sk.go o fr 0 false l = oa.seek o fr l
  | [], _, _ => by unfold oa.seek; rfl
  | x :: l, hp, hb => by
    obtain ⟨h1, h2⟩ := List.pairwise_cons.1 hp
    have ih := oa.go_ref (o := o) (fr := fr) l h2 fun y hy => hb y (List.mem_cons_of_mem _ hy)
    unfold oa.seek at ih ⊢
    by_cases hlo : x.2.last < o
    · have e1 : sk.go o fr 0 false (x :: l) = sk.go o fr 0 false l := by rw [sk.go, if_pos ⟨rfl, hlo⟩]
      rw [e1, ih, oa.find_no (fun h => by omega)]
      by_cases hx : (x.1 : Int) = fr
      · rw [if_pos (show oa.has fr (x :: l) = true from oa.has_iff.2 ⟨x, List.mem_cons_self .., hx⟩)]
        have hlow : ∀ y ∈ l, fr ≤ (y.1 : Int) := fun y hy => by have := (h1 y hy).1; omega
        rw [oa.find_low l hlow]
        split
        · exact oa.find_low l hlow
        · rfl
      · rw [oa.has_cons hx]
    · have hno : ¬ (false = false ∧ x.2.last < o) := fun h => hlo h.2
      by_cases hx : (x.1 : Int) = fr
      · rw [sk.go_eq hno hx, if_pos (show oa.has fr (x :: l) = true from oa.has_iff.2 ⟨x, List.mem_cons_self .., hx⟩), oa.find_yes (by omega) (by omega)]
      · by_cases hg : fr < (x.1 : Int)
        · rw [sk.go_gt hno hg, if_neg (oa.has_not h1 hg), oa.find_yes (by omega) (by omega)]
          rfl
        · rw [sk.go_lt hno (by omega), oa.go_true l h2, oa.has_cons hx]
          by_cases hh : oa.has fr l = true
          · rw [hh, if_pos rfl, if_pos rfl, oa.find_no (by omega)]
            exact (oa.find_hit l h2 (fun y hy => by have := (h1 y hy).2; have := hb y (List.mem_cons_of_mem _ hy); omega) hh).symm
          · have hf : oa.has fr l = false := by simpa using hh
            have e : oa.find o 0 (x :: l) = ((x.1 : Int), true) := oa.find_yes (by omega) (by omega)
            rw [hf]
            show _ = oa.find o 0 (x :: l)
            rw [e]
            rfl

set_option maxHeartbeats 1000000 in
theorem oa.reflook_any (A : Option Addr) (n c : Nat) (f : Nat → Nat → Int) (o : Int) (w : World) (hn : n ≤ 1099511627776) (h1 : At2 w A n f) :
    Calls Try.prog 21 #[.slice A n c, .int .i64 o] w fun e w' => e = .returned (.int .i64 (oi.look f o n)) ∧ w' = w := by
  have H1 := Lib.hid h1; clear h1
  go_enter Try.func21, Try.ntmps21
  go_wp2
  go_loop [5, 6] (fun v i => ∃ k : Nat, k ≤ n ∧ i = .int .i64 (k : Int) ∧ v = .int .i64 (oi.look f o k)) (fun _ i => n - (intOf i).toNat)
  case atStart => exact ⟨0, by omega, rfl, rfl⟩
  case round =>
    obtain ⟨k, hk, rfl, rfl⟩ := hrel
    by_cases hlt : k < n
    · obtain ⟨b, off, rfl, hbb, c0, c1⟩ := H1.out.get k hlt
      have he : oi.look f o (k + 1) = if f k 0 ≤ o then f k 1 else oi.look f o k := rfl
      obtain ⟨lk, hlk⟩ : ∃ lk, lk = oi.look f o k := ⟨_, rfl⟩
      obtain ⟨x, hx⟩ : ∃ x, x = f k 0 := ⟨_, rfl⟩
      obtain ⟨y, hy⟩ : ∃ y, y = f k 1 := ⟨_, rfl⟩
      rw [← hx] at c0
      rw [← hy] at c1
      rw [← hlk]
      have HQ := Lib.hid (show oi.look f o (k + 1) = if x ≤ o then y else lk by rw [hx, hlk, hy]; exact he); clear hlk hx hy he
      by_cases hlo : x ≤ o
      · have hq := HQ.out
        rw [if_pos hlo] at hq
        have HQ2 := Lib.hid hq; clear hq HQ
        go_wp2
        go_round
        case rel => exact ⟨k + 1, by omega, by go_num, by rw [HQ2.out]⟩
        case measure => simp [intOf]; omega
      · have hq := HQ.out
        rw [if_neg hlo] at hq
        have HQ2 := Lib.hid hq; clear hq HQ
        go_wp2
        go_round
        case rel => exact ⟨k + 1, by omega, by go_num, by rw [HQ2.out]⟩
        case measure => simp [intOf]; omega
    · obtain rfl : n = k := by omega
      go_wp2
      go_ret
      exact ⟨rfl, rfl⟩

theorem oa.find_drop (o fr : Int) (l : List (Nat × Bat)) (k : Nat) (y : Nat × Bat) (hy : l[k]? = some y) : oa.find o fr (l.drop k) = if fr ≤ (y.1 : Int) ∧ o ≤ y.2.last then ((y.1 : Int), true) else oa.find o fr (l.drop (k + 1)) := by
  obtain ⟨hk, e⟩ := List.getElem?_eq_some_iff.1 hy
  rw [List.drop_eq_getElem_cons hk, e]
  rfl
theorem oa.has_take (fr : Int) (l : List (Nat × Bat)) (k : Nat) (y : Nat × Bat) (hy : l[k]? = some y) : oa.has fr (l.take (k + 1)) = (oa.has fr (l.take k) || ((y.1 : Int) == fr)) := by
  obtain ⟨hk, e⟩ := List.getElem?_eq_some_iff.1 hy
  unfold oa.has
  rw [List.take_succ_eq_append_getElem hk, e, List.any_append]
  simp

set_option maxRecDepth 100000 in
set_option maxHeartbeats 4000000 in
theorem oa.refseek_any (A : Option Addr) (m c : Nat) (L : List Nat) (AE : Option Addr) (en ec : Nat) (f : Nat → Nat → Int) (o : Int) (w : World) (hL : ∀ x ∈ L, x < 256) (hlen : L.length = m) (hmc : m ≤ c) (hc : c ≤ maxLen) (hm : m ≤ 1000000) (hen : en ≤ 1099511627776) (hat : At w A m (byteAt L)) (hE : At2 w AE en f) :
    Calls Try.prog 17 #[.slice A m c, .slice AE en ec, .int .i64 o] w fun e w' => e = .returned (.tuple #[.int .i64 (oa.seek o (oi.look f o en) (dec.walk L)).1, .bool (oa.seek o (oi.look f o en) (dec.walk L)).2]) ∧ Below w.heap.size w w' := by
  have hlook := oa.reflook_any AE en ec f o w hen hE
  have hall := ref.all_any A c m L w hlen hat hL hmc hc hm
  have hwl := dec.walk_len hL
  rw [hlen] at hwl
  unfold wa.Post at hall
  unfold oa.seek
  obtain ⟨fr, hfr⟩ : ∃ fr, fr = oi.look f o en := ⟨_, rfl⟩
  rw [← hfr] at hlook ⊢
  obtain ⟨l, hl⟩ : ∃ l, l = dec.walk L := ⟨_, rfl⟩
  rw [← hl] at hall hwl ⊢
  clear hfr hl
  obtain ⟨N, hN⟩ : ∃ N, N = l.length := ⟨_, rfl⟩
  rw [← hN] at hall hwl
  obtain ⟨bg, hbg⟩ : ∃ bg, bg = oa.has fr l := ⟨_, rfl⟩
  rw [← hbg]
  have HBG := Lib.hid hbg; clear hbg
  have HLOOK := Lib.hid hlook; clear hlook
  have HALL := Lib.hid hall; clear hall
  have HN := Lib.hid hN; clear hN hat hE hL
  obtain ⟨⟨F1, F2⟩, hF⟩ : ∃ y, y = oa.find o (if bg = true then fr else 0) l := ⟨_, rfl⟩
  rw [← hF]
  have HF := Lib.hid hF; clear hF
  go_enter Try.func17, Try.ntmps17
  go_wp2_with fail
  refine HLOOK.out.mono ?_
  rintro e w' ⟨rfl, rfl⟩
  go_wp2_with fail
  refine HALL.out.mono ?_
  rintro e w1 ⟨A3, c3, rfl, hc3, hats, hw1⟩
  have HATS := Lib.hid hats; clear hats
  have HW1 := Lib.hid hw1; clear hw1 HALL HLOOK
  go_wp2_with fail
  go_loopg [10, 11] N (fun g s10 s11 wx => ∃ k : Nat, k + g = N ∧ s10 = .bool (oa.has fr (l.take k)) ∧ s11 = .int .i64 (k : Int) ∧ wx = w1)
  case atStart => exact ⟨0, by omega, rfl, rfl, rfl⟩
  case round =>
    obtain ⟨k, hkg, rfl, rfl, rfl⟩ := hrel
    cases gk with
    | zero =>
      obtain rfl : N = k := by omega
      have hbk : oa.has fr (l.take N) = bg := by rw [List.take_of_length_le (by rw [HN.out]; exact Nat.le_refl _), HBG.out]
      rw [hbk]
      clear hbk
      obtain ⟨fr2, hfr2⟩ : ∃ fr2, fr2 = if bg = true then fr else 0 := ⟨_, rfl⟩
      have hF := HF.out
      rw [← hfr2] at hF
      have HF2 := Lib.hid hF; clear hF HF HBG
      have HFR2 := Lib.hid hfr2; clear hfr2
      cases bg with
      | true =>
        obtain rfl : fr2 = fr := by rw [HFR2.out]; rfl
        go_wp2_with fail
        go_loopg [12] N (fun g s12 wx => ∃ k : Nat, k + g = N ∧ s12 = .int .i64 (k : Int) ∧ oa.find o fr2 (l.drop k) = (F1, F2) ∧ wx = wr)
        case atStart => exact ⟨0, by omega, rfl, HF2.out.symm, rfl⟩
        case round =>
          obtain ⟨k, hkg, rfl, hfd, rfl⟩ := hrel
          cases gk with
          | zero =>
            obtain rfl : N = k := by omega
            rw [List.drop_of_length_le (by rw [HN.out]; exact Nat.le_refl _)] at hfd
            obtain ⟨rfl, rfl⟩ : (0 : Int) = F1 ∧ false = F2 := by simpa [oa.find] using hfd
            clear hfd
            go_wp2_with fail
            (try rw [Exit.noGoto_ret])
            go_ret2
            exact ⟨rfl, HW1.out⟩
          | succ g =>
            have hkN : k < N := by omega
            obtain ⟨y, hy⟩ : ∃ y, l[k]? = some y := ⟨_, List.getElem?_eq_getElem (by rw [← HN.out]; exact hkN)⟩
            rw [oa.find_drop o fr2 l k y hy] at hfd
            obtain ⟨at', b⟩ := y
            obtain ⟨b2, o2, v2, hA2, hb2l, d0, d1, d2, -⟩ := HATS.out.get hy
            subst hA2
            dsimp only at d0 d1 d2 hfd
            clear hy hb2l
            by_cases h1 : fr2 ≤ (at' : Int)
            · by_cases h2 : o ≤ b.last
              · rw [if_pos ⟨h1, h2⟩] at hfd
                obtain ⟨rfl, rfl⟩ : (at' : Int) = F1 ∧ true = F2 := by simpa using hfd
                clear hfd
                go_wp2_with fail
                (try rw [Exit.noGoto_ret])
                go_ret2
                exact ⟨rfl, HW1.out⟩
              · rw [if_neg (fun h => h2 h.2)] at hfd
                have HFD := Lib.hid hfd; clear hfd
                go_wp2_with fail
                go_roundg g
                case measure => omega
                case rel => exact ⟨k + 1, by omega, by go_num, HFD.out, rfl⟩
            · rw [if_neg (fun h => h1 h.1)] at hfd
              have HFD := Lib.hid hfd; clear hfd
              have hd : decide (fr2 ≤ (at' : Int)) = false := by simpa using h1
              go_wp2_with fail
              go_roundg g
              case measure => omega
              case rel => exact ⟨k + 1, by omega, by go_num, HFD.out, rfl⟩
      | false =>
        obtain rfl : fr2 = 0 := by rw [HFR2.out]; rfl
        go_wp2_with fail
        go_loopg [12] N (fun g s12 wx => ∃ k : Nat, k + g = N ∧ s12 = .int .i64 (k : Int) ∧ oa.find o 0 (l.drop k) = (F1, F2) ∧ wx = wr)
        case atStart => exact ⟨0, by omega, rfl, HF2.out.symm, rfl⟩
        case round =>
          obtain ⟨k, hkg, rfl, hfd, rfl⟩ := hrel
          cases gk with
          | zero =>
            obtain rfl : N = k := by omega
            rw [List.drop_of_length_le (by rw [HN.out]; exact Nat.le_refl _)] at hfd
            obtain ⟨rfl, rfl⟩ : (0 : Int) = F1 ∧ false = F2 := by simpa [oa.find] using hfd
            clear hfd
            go_wp2_with fail
            (try rw [Exit.noGoto_ret])
            go_ret2
            exact ⟨rfl, HW1.out⟩
          | succ g =>
            have hkN : k < N := by omega
            obtain ⟨y, hy⟩ : ∃ y, l[k]? = some y := ⟨_, List.getElem?_eq_getElem (by rw [← HN.out]; exact hkN)⟩
            rw [oa.find_drop o 0 l k y hy] at hfd
            obtain ⟨at', b⟩ := y
            obtain ⟨b2, o2, v2, hA2, hb2l, d0, d1, d2, -⟩ := HATS.out.get hy
            subst hA2
            dsimp only at d0 d1 d2 hfd
            clear hy hb2l
            have h1 : (0 : Int) ≤ (at' : Int) := by omega
            by_cases h2 : o ≤ b.last
            · rw [if_pos ⟨h1, h2⟩] at hfd
              obtain ⟨rfl, rfl⟩ : (at' : Int) = F1 ∧ true = F2 := by simpa using hfd
              clear hfd
              go_wp2_with fail
              (try rw [Exit.noGoto_ret])
              go_ret2
              exact ⟨rfl, HW1.out⟩
            · rw [if_neg (fun h => h2 h.2)] at hfd
              have HFD := Lib.hid hfd; clear hfd
              go_wp2_with fail
              go_roundg g
              case measure => omega
              case rel => exact ⟨k + 1, by omega, by go_num, HFD.out, rfl⟩
    | succ g =>
      have hkN : k < N := by omega
      obtain ⟨y, hy⟩ : ∃ y, l[k]? = some y := ⟨_, List.getElem?_eq_getElem (by rw [← HN.out]; exact hkN)⟩
      have htk := oa.has_take fr l k y hy
      obtain ⟨at', b⟩ := y
      obtain ⟨b2, o2, v2, hA2, hb2l, d0, -⟩ := HATS.out.get hy
      subst hA2
      dsimp only at d0 htk
      clear hy hb2l
      obtain ⟨hh, hhe⟩ : ∃ hh, hh = oa.has fr (l.take k) := ⟨_, rfl⟩
      rw [← hhe] at htk ⊢
      have HTK := Lib.hid htk; clear htk hhe
      cases hh with
      | true =>
        go_wp2_with fail
        go_roundg g
        case measure => omega
        case rel => exact ⟨k + 1, by omega, by rw [HTK.out]; simp, by go_num, rfl⟩
      | false =>
        go_wp2_with fail
        go_roundg g
        case measure => omega
        case rel => exact ⟨k + 1, by omega, by rw [HTK.out]; simp, by go_num, rfl⟩

attribute [local go_sem] Oper.semAt_some

/-- Where the batches that came end. -/
def oa.nxt (pre : List (Nat × Bat)) : Int := match pre.getLast? with | none => 0 | some x => (x.1 : Int) + (x.2.enc.length : Int)
theorem oa.nxt_snoc (pre : List (Nat × Bat)) (x : Nat × Bat) : oa.nxt (pre ++ [x]) = (x.1 : Int) + (x.2.enc.length : Int) := by simp [oa.nxt]
theorem oa.walkF_pos {L : List Nat} (hL : ∀ x ∈ L, x < 256) : ∀ (g at' : Nat) (ahead : Int) (k : Nat) (x : Nat × Bat), (dec.walkF g L at' ahead)[k]? = some x →
    (x.1 : Int) = match ((dec.walkF g L at' ahead).take k).getLast? with | none => (at' : Int) | some y => (y.1 : Int) + (y.2.enc.length : Int)
  | 0, _, _, _, _, h => by cases h
  | g + 1, at', ahead, k, x, h => by
    rw [dec.walkF_succ] at h ⊢
    cases hf : dec.first (L.drop at') with
    | none => rw [hf] at h; cases h
    | some y =>
      obtain ⟨b, u⟩ := y
      rw [hf] at h
      unfold dec.walkG at h ⊢
      dsimp only at h ⊢
      by_cases hb : b.base ≤ ahead
      · rw [if_pos hb] at h; cases h
      · rw [if_neg hb] at h ⊢
        have hi := dec.is_of hL hf
        have hu : b.enc.length = u := by
          unfold Bat.enc
          rw [if_pos hi.check, ← hi.bytes, List.length_take, List.length_drop]
          have := hi.fits
          omega
        cases k with
        | zero =>
          obtain rfl : (at', b) = x := by simpa using h
          rfl
        | succ k =>
          rw [List.getElem?_cons_succ] at h
          have ih := oa.walkF_pos hL g (at' + u) b.last k x h
          rw [List.take_succ_cons, List.getLast?_cons]
          cases hc : ((dec.walkF g L (at' + u) b.last).take k).getLast? with
          | none =>
            rw [hc] at ih
            dsimp only at ih
            rw [ih, Option.getD_none]
            show ((at' + u : Nat) : Int) = (at' : Int) + (b.enc.length : Int)
            rw [hu]
            omega
          | some y =>
            rw [hc] at ih
            simpa using ih
theorem oa.walk_pos {L : List Nat} (hL : ∀ x ∈ L, x < 256) {k : Nat} {x : Nat × Bat} (h : (dec.walk L)[k]? = some x) : (x.1 : Int) = oa.nxt ((dec.walk L).take k) := by
  have := oa.walkF_pos hL L.length 0 (-1) k x h
  unfold oa.nxt
  exact this
theorem oa.infoRef : (Try.prog.info? 70).map (fun i => (i.zero, i.size, i.bytes)) = some (some (.agg #[.int .i64 0, .int .i64 0]), 2, 16) := by kernel_rfl
/-- Two rows share no block. -/
def oa.Apart (v u : Value) : Prop := ∀ k, v.ownBlock = some k → u.ownBlock ≠ some k
/-- What Build answers. -/
def oa.BPost (L : List Nat) (every : Int) (w : World) (e : Ending) (w' : World) : Prop :=
  ∃ A c vt, e = .returned (.tuple #[.slice A (ob.ent (max every 1) 0 (dec.walk L)).length c, vt]) ∧ At w' A ((ob.ent (max every 1) 0 (dec.walk L)).length * 2) (fun j => (ob.row (ob.ent (max every 1) 0 (dec.walk L))).getD j undef) ∧ Below w.heap.size w w'

set_option maxRecDepth 100000 in
set_option maxHeartbeats 4000000 in
theorem oa.refbuild_any (A : Option Addr) (m c : Nat) (L : List Nat) (every : Int) (w : World) (hL : ∀ x ∈ L, x < 256) (hlen : L.length = m) (hmc : m ≤ c) (hc : c ≤ maxLen) (hm : m ≤ 1000000) (hat : At w A m (byteAt L)) :
    Calls Try.prog 10 #[.slice A m c, .int .i64 every] w (oa.BPost L every w) := by
  obtain ⟨j0, hi, hz0, hz1, hz2⟩ := info_parts oa.infoRef
  have hall := ref.all_any A c m L w hlen hat hL hmc hc hm
  have hwl := dec.walk_len hL
  rw [hlen] at hwl
  have hpos := fun (k : Nat) (x : Nat × Bat) (h : (dec.walk L)[k]? = some x) => oa.walk_pos hL h
  have hbd : ∀ x ∈ dec.walk L, x.1 ≤ 1000000 := fun x hx => by
    obtain ⟨u, his⟩ := dec.walk_is hL x hx
    have := his.fits
    omega
  unfold wa.Post at hall
  unfold oa.BPost
  obtain ⟨mm, hmm⟩ : ∃ mm, mm = max every 1 := ⟨_, rfl⟩
  have hite : (if every < 1 then 1 else every) = mm := by rw [hmm]; split <;> omega
  rw [← hmm]
  clear hmm
  obtain ⟨l, hl⟩ : ∃ l, l = dec.walk L := ⟨_, rfl⟩
  rw [← hl] at hall hwl hpos hbd ⊢
  clear hl
  obtain ⟨N, hN⟩ : ∃ N, N = l.length := ⟨_, rfl⟩
  rw [← hN] at hall hwl
  have HALL := Lib.hid hall; clear hall
  have HPOS := Lib.hid hpos; clear hpos
  have HBD := Lib.hid hbd; clear hbd
  have HN := Lib.hid hN; clear hN hat hL hlen
  have HI := Lib.hid (And.intro hi (And.intro hz0 (And.intro hz1 hz2))); clear hi hz0 hz1 hz2
  go_enter Try.func10, Try.ntmps10
  go_wp2_with fail
  refine HALL.out.mono ?_
  rintro e w1 ⟨A3, c3, rfl, hc3, hats, hw1⟩
  have HATS := Lib.hid hats; clear hats
  have HW1 := Lib.hid hw1; clear hw1 HALL
  have HITE := Lib.hid hite; clear hite
  go_wp2_with fail
  go_loopg [7, 8, 9, 10, 11] N (fun g s7 s8 s9 s10 s11 wx => ∃ (k nt : Nat) (vo vt : Value) (xt : List Value) (mo : Int), k + g = N ∧ s7 = vo ∧ s8 = vt ∧ s9 = .int .i64 (oa.nxt (l.take k) - ob.lst mm 0 (l.take k)) ∧ s10 = .int .i64 mo ∧ s11 = .int .i64 (k : Int) ∧
    wx.ownsRow w1.heap.size 70 2 vo (ob.ent mm 0 (l.take k)).length (ob.row (ob.ent mm 0 (l.take k))) ∧ wx.ownsRow w1.heap.size 70 2 vt nt xt ∧ nt ≤ k ∧ oa.Apart vo vt ∧ Below w1.heap.size w1 wx)
  case atStart => exact ⟨0, 0, _, _, [], 0, by omega, rfl, rfl, rfl, rfl, rfl, World.ownsRow_nil _ _ _ _, World.ownsRow_nil _ _ _ _, by omega, (fun k h => by cases h), Below.refl _ _⟩
  case round =>
    obtain ⟨k, nt, vo, vt, xt, mo, hkg, rfl, rfl, rfl, rfl, rfl, ho, ht, hnt, hap, hbr⟩ := hrel
    have HBR := Lib.hid hbr; clear hbr
    obtain ⟨Ao, co, rfl, hco, hato⟩ := own_at ho
    obtain ⟨At2', ct, rfl, hct, -⟩ := own_at ht
    have HO := Lib.hid ho; clear ho
    have HT := Lib.hid ht; clear ht
    have HATO := Lib.hid hato; clear hato
    have HAP := Lib.hid hap; clear hap
    cases gk with
    | zero =>
      obtain rfl : N = k := by omega
      have htk : l.take N = l := List.take_of_length_le (by rw [HN.out]; exact Nat.le_refl _)
      rw [htk] at HATO HO ⊢
      have HB := Lib.hid (HW1.out.trans (HBR.out.mono HW1.out.size))
      clear htk
      go_wp2_with fail
      go_ret2
      exact ⟨_, _, _, rfl, HATO.out, HB.out⟩
    | succ g =>
      have hkN : k < N := by omega
      obtain ⟨y, hy⟩ : ∃ y, l[k]? = some y := ⟨_, List.getElem?_eq_getElem (by rw [← HN.out]; exact hkN)⟩
      have hps := HPOS.out k y hy
      have hyb := HBD.out y (List.mem_of_getElem? hy)
      have htk : l.take (k + 1) = l.take k ++ [y] := by
        obtain ⟨hk, e⟩ := List.getElem?_eq_some_iff.1 hy
        rw [List.take_succ_eq_append_getElem hk, e]
      have hsn := ob.snoc mm (l.take k) 0 y
      rw [← htk] at hsn
      have hnx := oa.nxt_snoc (l.take k) y
      rw [← htk] at hnx
      obtain ⟨hl0, hl1⟩ := ob.lst_bd mm (l.take k) 0 (by omega) (by omega) fun x hx => HBD.out x (List.mem_of_mem_take hx)
      have hel : (ob.ent mm 0 (l.take k)).length ≤ 1000000 := by
        have h1 := (ob.sub mm (l.take k) 0).length_le
        have h2 := List.length_take_le k l
        omega
      obtain ⟨at', b⟩ := y
      dsimp only at hps hyb hnx hsn
      rw [← hps]
      obtain ⟨b2, o2, v2, hA2, hb2l, d0, d1, d2, d3, d4, d5, d6, hrec⟩ := HATS.out.get hy
      subst hA2
      dsimp only at d0 d1 d2 d3 d4 d5 d6 hrec
      obtain ⟨A4, c4, V4, rfl, -⟩ := id hrec
      obtain ⟨nr, hnr⟩ : ∃ nr, nr = b.recs.length := ⟨_, rfl⟩
      rw [← hnr] at d6 hrec
      have hcell : ∀ W, Below w1.heap.size w1 W → W.cell? ⟨b2, o2 + k * 7, none⟩ = some (.int .i64 (at' : Int)) ∧ W.cell? ⟨b2, o2 + k * 7 + 1, none⟩ = some (.int .i64 b.base) ∧ W.cell? ⟨b2, o2 + k * 7 + 2, none⟩ = some (.int .i64 b.last) ∧ W.cell? ⟨b2, o2 + k * 7 + 3, none⟩ = some (.int .i64 b.prod) ∧
          W.cell? ⟨b2, o2 + k * 7 + 4, none⟩ = some (.int .i64 b.epoch) ∧ W.cell? ⟨b2, o2 + k * 7 + 5, none⟩ = some (.int .i64 b.seq) ∧ W.cell? ⟨b2, o2 + k * 7 + 6, none⟩ = some (.slice A4 nr c4) := fun W hb =>
        ⟨(hb.cell (p := ⟨b2, o2 + k * 7, none⟩) hb2l).trans d0, (hb.cell (p := ⟨b2, o2 + k * 7 + 1, none⟩) hb2l).trans d1, (hb.cell (p := ⟨b2, o2 + k * 7 + 2, none⟩) hb2l).trans d2, (hb.cell (p := ⟨b2, o2 + k * 7 + 3, none⟩) hb2l).trans d3, (hb.cell (p := ⟨b2, o2 + k * 7 + 4, none⟩) hb2l).trans d4, (hb.cell (p := ⟨b2, o2 + k * 7 + 5, none⟩) hb2l).trans d5, (hb.cell (p := ⟨b2, o2 + k * 7 + 6, none⟩) hb2l).trans d6⟩
      have HC := Lib.hid hcell; clear hcell d0 d1 d2 d3 d4 d5 d6 hy
      have hsz : ∀ W, Below w1.heap.size w1 W → Calls Try.prog 29 #[.agg #[.int .i64 b.base, .int .i64 b.last, .int .i64 b.prod, .int .i64 b.epoch, .int .i64 b.seq, .slice A4 nr c4]] W fun e w' => e = .returned (.int .i64 (b.enc.length : Int)) ∧ Below W.heap.size W w' := fun W hb => by
        have h := ref.size_any b A4 c4 W (by rw [← hnr]; exact hrec.below hb (Nat.le_refl _))
        rw [← hnr] at h
        exact h
      have htm : ∀ W, Below w1.heap.size w1 W → Calls Try.prog 30 #[.agg #[.int .i64 b.base, .int .i64 b.last, .int .i64 b.prod, .int .i64 b.epoch, .int .i64 b.seq, .slice A4 nr c4]] W fun e w' => e = .returned (.tuple #[.int .i64 (Bat.first b.recs), .int .i64 (Bat.mostT b.recs)]) ∧ Below W.heap.size W w' := fun W hb => by
        have h := ref.times_any b A4 c4 W (by rw [← hnr]; exact hrec.below hb (Nat.le_refl _))
        rw [← hnr] at h
        exact h
      have hel2 : b.enc.length ≤ 65536 := Bat.enc_le b
      obtain ⟨t0, ht0⟩ : ∃ t0, t0 = Bat.first b.recs := ⟨_, rfl⟩
      obtain ⟨mt, hmt⟩ : ∃ mt, mt = Bat.mostT b.recs := ⟨_, rfl⟩
      rw [← ht0, ← hmt] at htm
      obtain ⟨el, hel3⟩ : ∃ el, el = b.enc.length := ⟨_, rfl⟩
      rw [← hel3] at hsz hnx hel2
      have HSZ := Lib.hid hsz; clear hsz
      have HTM := Lib.hid htm; clear htm hrec ht0 hmt hel3 hnr
      obtain ⟨mo2, hmo2⟩ : ∃ mo2, (if mo < mt then mt else mo) = mo2 := ⟨_, rfl⟩
      have HMO := Lib.hid hmo2; clear hmo2
      obtain ⟨lst, hlst⟩ : ∃ lst, lst = ob.lst mm 0 (l.take k) := ⟨_, rfl⟩
      obtain ⟨en, hen⟩ : ∃ en, en = (ob.ent mm 0 (l.take k)).length := ⟨_, rfl⟩
      rw [← hlst] at hl0 hl1 hsn ⊢
      rw [← hen] at hel hco HO HATO HAP ⊢
      have HSN := Lib.hid (And.intro hsn (And.intro hnx htk)); clear hsn hnx htk hps
      have HEN := Lib.hid (And.intro hen hlst); clear hen hlst
      by_cases hdue : mm ≤ (at' : Int) - lst
      · have hs := HSN.out.1
        rw [if_pos hdue, if_pos hdue] at hs
        have HS := Lib.hid hs; clear hs
        obtain ⟨x0, x1, -⟩ := HC.out wr HBR.out
        have ab : (Value.slice Ao en co).ownBlock ≠ some b2 := fun h => by have := (HO.out.lt b2 h).1; omega
        have hb2z : b2 < wr.heap.size := by have := HBR.out.size; omega
        have hz1 : w1.heap.size ≤ wr.heap.size := HBR.out.size
        have hki : (k : Int) < N := by omega
        have hki0 : (0 : Int) ≤ k := by omega
        obtain ⟨i0, hi, hz0, hz1', hz2⟩ := info_parts oa.infoRef
        go_wp2_with fail
        go_region_held3 (fun w' => w'.cell? ⟨b2, o2 + k * 7, none⟩ = some (.int .i64 (at' : Int)) ∧ w'.cell? ⟨b2, o2 + k * 7 + 1, none⟩ = some (.int .i64 b.base))
          (first
            | go_keep
            | (go_split_ands
               refine ⟨?_, ?_⟩
               all_goals (rw [hgrow.cell_far _ (by simp; omega) (Ne.symm ab)]; assumption)))
          ((refine step_append_lies _ (by rfl) _ _ _ (by rfl) w1.heap.size 70 i0 _ 2 16 Try.underlying23 hi hz0 hz1' hz2 rfl (by omega) (.slice Ao en co) en (ob.row (ob.ent mm 0 (l.take k))) (by rfl) ((HO.out.alloc _).drew)
              ⟨wr.heap.size, 0, none⟩ 1 1 [.int .i64 b.base, .int .i64 (at' : Int)] (by rfl) (by rfl) (World.news_of_block (cs := #[.int .i64 b.base, .int .i64 (at' : Int)]) (t := 70) (fr := (0, 0)) (heap_alloc_new wr _)) (by simp [Value.oneCell'])
              (by omega) (by unfold maxLen; omega) (by omega) (by simp; omega) (wr.heap.size + 1) (by simp) ?_; intro gg cap w2 hown2 hgrow hgl hglt))
        have hb2' : Below w1.heap.size w1 w2 := ((HBR.out.alloc HBR.out.size _).drew).grown hgrow (by have := HBR.out.size; simp; omega) (fun g hg => (HO.out.lt g hg).1)
        have hgle : gg ≠ wr.heap.size := fun e => by
          rcases hgl with h | h
          · have := (HO.out.lt gg h).2; omega
          · omega
        have ht2 : w2.ownsRow w1.heap.size 70 2 (.slice At2' nt ct) nt xt := ((HT.out.alloc _).drew).kept hgrow (by
          rcases HT.out.2 with ⟨h, -⟩ | ⟨g', cap', cur', h, -⟩
          · exact .inl (by rw [h]; rfl)
          · refine .inr fun e => ?_
            rw [h] at e
            exact HAP.out g' e.symm (by rw [h]; rfl))
        have hap2 : oa.Apart (.slice (some ⟨gg, 0, none⟩) (en + 1) cap) (.slice At2' nt ct) := fun k1 hk1 hk2 => by
          have hk1 : gg = k1 := by simpa [Value.ownBlock] using hk1
          subst hk1
          rcases hgl with h | h
          · exact HAP.out gg h hk2
          · have := (HT.out.lt gg hk2).2
            omega
        have HB2 := Lib.hid hb2'; clear hb2'
        have HO2 := Lib.hid hown2; clear hown2
        have HT2 := Lib.hid ht2; clear ht2
        have HAP2 := Lib.hid hap2; clear hap2
        clear x0 x1 hgrow hgl hgle hglt ab HO HT HATO HAP hb2z hz1
        obtain ⟨-, x1, -⟩ := HC.out w2 HB2.out
        have hz2' : w1.heap.size ≤ w2.heap.size := HB2.out.size
        go_wp2_with (at_builtin; refine wpList_app2 _ rfl (.tmp 42) (.tmp 51) 23 rfl w1.heap.size 70 i0 _ 2 16 Try.underlying23 hi hz0 hz1' hz2 rfl (by decide) (.slice At2' nt ct) nt xt rfl (HT2.out.alloc _) (some ⟨w2.heap.size, 0, none⟩) 1 1 (fun j => (#[Value.int .i64 mo, .int .i64 b.base] : Array Value).getD j undef) rfl (At.new w2 #[Value.int .i64 mo, .int .i64 b.base] 70 (n := 1 * 2) rfl) (ent_one _ _) (by unfold maxLen; omega) (by omega) (by rw [World.size_alloc]; omega) ?_; intro v3 w3 hown3 hg3 hl3; have hb3 : Below w1.heap.size w1 w3 := (HB2.out.alloc HB2.out.size _).grown hg3 (by simp; omega) (fun g hg => (HT2.out.lt g hg).1); have ho3 : w3.ownsRow w1.heap.size 70 2 (.slice (some ⟨gg, 0, none⟩) (en + 1) cap) (en + 1) (ob.row (ob.ent mm 0 (l.take k)) ++ [.int .i64 b.base, .int .i64 (at' : Int)]) := (HO2.out.alloc _).kept hg3 (.inr fun e => HAP2.out gg rfl (by rw [← e]; rfl)); have hap3 : oa.Apart (.slice (some ⟨gg, 0, none⟩) (en + 1) cap) v3 := (fun k1 hk1 hk2 => by (rcases hl3 with h | h); (· exact HAP2.out k1 hk1 (by rw [← h]; exact hk2)); (· have e1 := (HO2.out.lt k1 hk1).2; rw [h] at hk2; simp at hk2; omega)); have HB3 := Lib.hid hb3; have HO3 := Lib.hid ho3; have HT3 := Lib.hid hown3; have HAP3 := Lib.hid hap3; clear hb3 ho3 hown3 hg3 hl3 hap3 x1; obtain ⟨-, x1, x2, x3, x4, x5, x6⟩ := HC.out w3 HB3.out)
        refine (HSZ.out _ HB3.out).mono ?_
        rintro e w4 ⟨rfl, hb4⟩
        have HO4 := Lib.hid (own_below HO3.out hb4)
        have HT4 := Lib.hid (own_below HT3.out hb4)
        have HB4 := Lib.hid (HB3.out.trans (hb4.mono HB3.out.size)); clear hb4 HO3 HT3 HB3
        clear x1 x2 x3 x4 x5 x6
        obtain ⟨-, x1, x2, x3, x4, x5, x6⟩ := HC.out w4 HB4.out
        go_wp2_with fail
        refine (HTM.out w4 HB4.out).mono ?_
        rintro e w5 ⟨rfl, hb5⟩
        have HO5 := Lib.hid (own_below HO4.out hb5)
        have HT5 := Lib.hid (own_below HT4.out hb5)
        have HB5 := Lib.hid (HB4.out.trans (hb5.mono HB4.out.size)); clear hb5 HO4 HT4 HB4
        clear x1 x2 x3 x4 x5 x6
        have hmo := HMO.out
        go_wp2_with fail
        clear hmo
        go_roundg g
        case measure => omega
        case rel => exact ⟨k + 1, nt + 1, _, v3, _, mo2, by omega, rfl, rfl, by rw [HSN.out.2.1, HS.out.2]; exact num_eq (by omega), by first | rfl | rw [HMO.out], by go_num, by rw [HS.out.1]; rw [List.length_append, ob.row_snoc, ← HEN.out.1]; exact HO5.out, HT5.out, by omega, HAP3.out, HB5.out⟩
      · have hs := HSN.out.1
        rw [if_neg hdue, if_neg hdue, List.append_nil] at hs
        have HS := Lib.hid hs; clear hs
        have hnd : (at' : Int) - lst < mm := by omega
        obtain ⟨-, x1, x2, x3, x4, x5, x6⟩ := HC.out wr HBR.out
        have HB3 := Lib.hid HBR.out
        have HO3 := Lib.hid HO.out
        have HT3 := Lib.hid HT.out
        have HAP3 := Lib.hid HAP.out
        clear HBR HO HT HAP HATO
        go_wp2_with fail
        refine (HSZ.out _ HB3.out).mono ?_
        rintro e w4 ⟨rfl, hb4⟩
        have HO4 := Lib.hid (own_below HO3.out hb4)
        have HT4 := Lib.hid (own_below HT3.out hb4)
        have HB4 := Lib.hid (HB3.out.trans (hb4.mono HB3.out.size)); clear hb4 HO3 HT3 HB3
        clear x1 x2 x3 x4 x5 x6
        obtain ⟨-, x1, x2, x3, x4, x5, x6⟩ := HC.out w4 HB4.out
        go_wp2_with fail
        refine (HTM.out w4 HB4.out).mono ?_
        rintro e w5 ⟨rfl, hb5⟩
        have HO5 := Lib.hid (own_below HO4.out hb5)
        have HT5 := Lib.hid (own_below HT4.out hb5)
        have HB5 := Lib.hid (HB4.out.trans (hb5.mono HB4.out.size)); clear hb5 HO4 HT4 HB4
        clear x1 x2 x3 x4 x5 x6
        have hmo := HMO.out
        go_wp2_with fail
        clear hmo
        go_roundg g
        case measure => omega
        case rel => exact ⟨k + 1, nt, _, _, xt, mo2, by omega, rfl, rfl, by rw [HSN.out.2.1, HS.out.2]; exact num_eq (by omega), by first | rfl | rw [HMO.out], by go_num, by rw [HS.out.1]; rw [← HEN.out.1]; exact HO5.out, HT5.out, by omega, HAP3.out, HB5.out⟩

attribute [local go_sem] Oper.semAt_some

/-- What DecodeEntries answers: K entries, and whether these are all. -/
def oa.DPost (L : List Nat) (K : Nat) (w : World) (e : Ending) (w' : World) : Prop :=
  ((16 * K = L.length ∧ ∃ v, e = .returned (.tuple #[v, .int .i64 0]) ∧ w'.ownsRow w.heap.size 70 2 v K (rows2 (oa.s L) K)) ∨ (16 * K ≠ L.length ∧ e = .returned (.tuple #[.slice none 0 0, .int .i64 2]))) ∧ Below w.heap.size w w'

set_option maxRecDepth 100000 in
set_option maxHeartbeats 4000000 in
theorem oa.refdec_any (A : Option Addr) (m c : Nat) (L : List Nat) (K : Nat) (w : World) (hL : ∀ x ∈ L, x < 256) (hlen : L.length = m) (hmc : m ≤ c) (hc : c ≤ maxLen) (hm : m ≤ 16000) (hat : At w A m (byteAt L))
    (hK : K ≤ m / 16) (hgood : ∀ j, j < K → ¬ oi.bad (oa.s L) j) (hbad : K < m / 16 → oi.bad (oa.s L) K) :
    Calls Try.prog 15 #[.slice A m c, .bool false] w (oa.DPost L K w) := by
  obtain ⟨i0, hi, hz0, hz1, hz2⟩ := info_parts oa.infoRef
  obtain ⟨n, hn⟩ : ∃ n, n = m / 16 := ⟨_, rfl⟩
  rw [← hn] at hK hbad
  have hn1 : n ≤ 1000 := by omega
  have hget : ∀ (i : Nat) (W : World) (b off c' : Nat), A = some ⟨b, off, none⟩ → i + 8 ≤ m → Below w.heap.size w W → Calls Try.prog 38 #[.slice (some ⟨b, off + i, none⟩) 8 c'] W fun e w' => e = .returned (.int .i64 (wrap64 (wire.val ((L.drop i).take 8) : Nat))) ∧ W = w' := fun i W b off c' hA hi hW =>
    wire.refgetfixed_all (some ⟨b, off + i, none⟩) 8 c' ((L.drop i).take 8) W (by rw [List.length_take, List.length_drop, hlen]; omega) (fun _ => by
      obtain ⟨b', off', hA', hb, hcs⟩ := (hat.below hW (Nat.le_refl _)) (by omega)
      rw [hA] at hA'
      obtain ⟨rfl, rfl⟩ : b = b' ∧ off = off' := by simpa using hA'
      refine ⟨b, off + i, rfl, hb, fun j hj => ?_⟩
      rw [Nat.add_assoc, hcs (i + j) (by omega)]
      unfold byteAt
      simp only [List.getD, List.getElem?_take, List.getElem?_drop, if_pos hj]) (fun x hx => hL x (List.mem_of_mem_drop (List.mem_of_mem_take hx))) (by omega)
  have HG := Lib.hid hget; clear hget
  have henc := fun (A1 : Option Addr) (c1 : Nat) (wx : World) (h : At2 wx A1 n (oa.s L)) => oi.refenc_any A1 n c1 (oa.s L) K wx (by omega) h (fun i j _ _ => oa.s_bd L i j) hK hbad hgood
  have HENC := Lib.hid henc; clear henc hgood hbad
  have HLEN := Lib.hid hlen; clear hlen
  have HMOD := Lib.hid (show m % 16 + 16 * n = m by omega)
  have HN := Lib.hid hn; clear hn
  have HAT := Lib.hid hat; clear hat hL
  unfold maxLen at hc
  by_cases hr : m % 16 = 0
  · have hrI : (m : Int).tmod 16 = 0 := by rw [show ((m : Int).tmod 16) = ((m % 16 : Nat) : Int) from rfl, hr]; rfl
    have hrI2 : ((m : Int) % 16 = 0) := by omega
    have HMN := Lib.hid (show 16 * n = m by have := HMOD.out; omega)
    go_enter Try.func15, Try.ntmps15
    go_wp2_with fail
    clear hrI hrI2
    go_loopg [6, 7] n (fun g s6 s7 wx => ∃ (k I : Nat) (v : Value), k + g = n ∧ s6 = v ∧ s7 = .int .i64 (I : Int) ∧ I = 16 * k ∧ wx.ownsRow w.heap.size 70 2 v k (rows2 (oa.s L) k) ∧ Below w.heap.size w wx)
    case atStart => exact ⟨0, 0, _, by omega, rfl, rfl, rfl, World.ownsRow_nil _ _ _ _, Below.refl _ _⟩
    case round =>
      obtain ⟨k, I, v, hkg, rfl, rfl, hIk, hown, hbw⟩ := hrel
      have HO := Lib.hid hown; clear hown
      have HB := Lib.hid hbw; clear hbw
      cases gk with
      | zero =>
        obtain rfl : n = k := by omega
        obtain rfl : m = I := by have := HMN.out; omega
        obtain ⟨A1, c1, rfl, -, hat1⟩ := own_at2 HO.out
        go_wp2_with fail
        refine (HENC.out A1 c1 wr hat1).mono ?_
        rintro e w2 ⟨h2, hb2⟩
        have HB2 := Lib.hid (HB.out.trans (hb2.mono HB.out.size))
        have HO2 := Lib.hid (own_below HO.out hb2); clear hb2 hat1
        rcases h2 with ⟨rfl, v2, rfl, -⟩ | ⟨hlt, rfl⟩
        · go_wp2_with fail
          (try rw [Exit.noGoto_ret])
          go_ret2
          exact ⟨.inl ⟨by rw [HLEN.out]; have := HMN.out; omega, _, rfl, HO2.out⟩, HB2.out⟩
        · go_wp2_with fail
          (try rw [Exit.noGoto_ret])
          go_ret2
          exact ⟨.inr ⟨by rw [HLEN.out]; have := HMN.out; omega, rfl⟩, HB2.out⟩
      | succ g =>
        have hkn : k < n := by omega
        have hI16 : I + 16 ≤ m := by have := HMN.out; omega
        obtain ⟨b, off, rfl, hb, -⟩ := HAT.out (by omega)
        have hIi : (I : Int) + 16 ≤ (m : Int) := by omega
        have hIc : (I : Int) + 16 ≤ (c : Int) := by omega
        obtain ⟨Av, cv, rfl, hcv, -⟩ := own_at HO.out
        have hrow : rows2 (oa.s L) (k + 1) = rows2 (oa.s L) k ++ [.int .i64 (wrap64 (wire.val ((L.drop I).take 8) : Nat)), .int .i64 (wrap64 (wire.val ((L.drop (I + 8)).take 8) : Nat))] := by
          rw [rows2_succ, hIk]
          rfl
        have HROW := Lib.hid hrow; clear hrow
        have HIK := Lib.hid hIk; clear hIk
        obtain ⟨I8, hI8⟩ : ∃ I8, I8 = I + 8 := ⟨_, rfl⟩
        obtain ⟨J16, hJ16⟩ : ∃ J16, J16 = I + 16 := ⟨_, rfl⟩
        have hw8 : IntKind.i64.wrap ((I : Int) + 8) = (I8 : Int) := by rw [IntWalk.i64_in _ (by omega)]; omega
        have hw16 : IntKind.i64.wrap ((I : Int) + 16) = (J16 : Int) := by rw [IntWalk.i64_in _ (by omega)]; omega
        have n1 : I ≤ I8 := by omega
        have n2 : I8 ≤ J16 := by omega
        have n3 : I8 ≤ c := by omega
        have n4 : J16 ≤ c := by omega
        have n5 : ¬ c = I := by omega
        have n6 : ¬ c = I8 := by omega
        have n7 : I8 - I = 8 := by omega
        have n8 : J16 - I8 = 8 := by omega
        rw [← hI8] at HROW
        have n9 : I + 8 ≤ m := by omega
        have n10 : I8 + 8 ≤ m := by omega
        have HII := Lib.hid (And.intro hI8 hJ16); clear hI8 hJ16
        have ha0 := fun c' => HG.out I wr.drew b off c' rfl n9 (bdrew HB.out 1)
        have ha1 := fun c' => HG.out I8 wr.drew b off c' rfl n10 (bdrew HB.out 1)
        obtain ⟨X0, hX0⟩ : ∃ X0, X0 = wrap64 (wire.val ((L.drop I).take 8) : Nat) := ⟨_, rfl⟩
        obtain ⟨X1, hX1⟩ : ∃ X1, X1 = wrap64 (wire.val ((L.drop I8).take 8) : Nat) := ⟨_, rfl⟩
        rw [← hX0, ← hX1] at HROW
        have hq0 := fun c' w0 hw0 => HG.out I w0 b off c' rfl n9 hw0
        have hq1 := fun c' w0 hw0 => HG.out I8 w0 b off c' rfl n10 hw0
        rw [← hX0] at hq0
        rw [← hX1] at hq1
        have HX0 := Lib.hid hq0; clear hq0
        have HX1 := Lib.hid hq1; clear hq1
        clear ha0 ha1 hX0 hX1
        have hx : ∀ w0, (∃ x : Later wr (fun k => w.heap.size ≤ k), w0 = x.1) → Below w.heap.size w w0 := by
          rintro _ ⟨x, rfl⟩
          exact HB.out.trans (x.2.below HB.out.size fun _ q => q)
        have hxa : ∀ w0, (∃ x : Later wr (fun k => w.heap.size ≤ k), w0 = x.1) → Calls Try.prog 38 #[.slice (some ⟨b, off + I, none⟩) 8 (c - I)] w0 fun e w' => e = .returned (.int .i64 X0) ∧ w' = w0 := fun w0 h => (HX0.out _ w0 (hx w0 h)).mono fun e w' h => ⟨h.1, h.2.symm⟩
        have hxb : ∀ w0, (∃ x : Later wr (fun k => w.heap.size ≤ k), w0 = x.1) → Calls Try.prog 38 #[.slice (some ⟨b, off + I8, none⟩) 8 (c - I8)] w0 fun e w' => e = .returned (.int .i64 X1) ∧ w' = w0 := fun w0 h => (HX1.out _ w0 (hx w0 h)).mono fun e w' h => ⟨h.1, h.2.symm⟩
        have HXA := Lib.hid hxa; clear hxa HX0
        have HXB := Lib.hid hxb; clear hxb HX1 hx
        go_wp2_with fail
        have hS0 : later wr (fun k => w.heap.size ≤ k) wr.drew := later_of ((Chg.refl _ _).drew)
        refine wp_plan (S := fun w0 => ∃ x : Later wr (fun k => w.heap.size ≤ k), w0 = x.1) (by kernel_rfl) hS0 ?_
        intro hS K0 hK0
        have HS := Lib.hid hS; clear hS hS0
        refine plan_group [true, true, true, true, true, true, false, true, true, true, true, true, true] [0, 1, 2, 3, 4, 5, 7, 8, 9, 10, 11, 12] 6 (by dsimp only [sel]) (by rfl) rfl (by kernel_rfl) (by kernel_rfl) HS.out ?_
        (repeat go_big_quiet_step (fail)); refine wpQuiet_nil ?_
        refine plan_pure [false, false, false, false, false, false, true] 6 (some 26) 5 (.int .i64 X0) (by dsimp only [sel]) (by rfl) rfl (by rfl) (by rfl) (Go.Proofs.enters_of Try.func38 (by kernel_rfl) rfl) (by rfl) (by kernel_rfl) (by kernel_rfl) HS.out (by exact HXA.out) ?_; go_big_quiet_step (fail); refine wpQuiet_nil ?_
        refine plan_pure [false, false, false, false, false, false, false, false, false, false, false, false, false, true] 13 (some 33) 4 (.int .i64 X1) (by dsimp only [sel]) (by rfl) rfl (by rfl) (by rfl) (Go.Proofs.enters_of Try.func38 (by kernel_rfl) rfl) (by rfl) (by kernel_rfl) (by kernel_rfl) HS.out (by exact HXB.out) ?_; go_big_quiet_step (fail); refine wpQuiet_nil ?_
        refine plan_one [false, false, false, false, false, false, false, false, false, false, false, false, false, false, true] 14 3 (by dsimp only [sel]) (by rfl) rfl (by kernel_rfl) ?_; intro K1 hK1; go_wp2_with fail
        refine ⟨HS.out, ?_⟩
        refine plan_one [false, false, false, false, false, false, false, false, false, false, false, false, false, false, false, true] 15 2 (by dsimp only [sel]) (by rfl) rfl (by kernel_rfl) ?_; intro K1 hK1; go_wp2_with fail
        obtain ⟨w2, hw2⟩ : ∃ w2, w2 = (wr.alloc (.cells #[.int .i64 X0, .int .i64 X1] 70)).drew := ⟨_, rfl⟩
        rw [← hw2]
        have hat2 : At w2 (some ⟨wr.heap.size, 0, none⟩) (1 * 2) (fun j => (#[Value.int .i64 X0, .int .i64 X1] : Array Value).getD j undef) := by rw [hw2]; exact (At.new wr #[Value.int .i64 X0, .int .i64 X1] 70 (n := 1 * 2) rfl).drew 1
        have ho2 : w2.ownsRow w.heap.size 70 2 (.slice Av k cv) k (rows2 (oa.s L) k) := by rw [hw2]; exact (HO.out.alloc _).drew
        have hb2 : Below wr.heap.size wr w2 := by rw [hw2]; exact bdrew ((Below.refl _ wr).alloc (Nat.le_refl _) _) 1
        clear hw2
        have hbw2 := HB.out.trans (hb2.mono HB.out.size)
        have hbz : w.heap.size ≤ w2.heap.size := hbw2.size
        have HAT2 := Lib.hid hat2; clear hat2
        have HO2 := Lib.hid ho2; clear ho2
        have HB2 := Lib.hid hbw2; clear hbw2
        have hc2 := chg_of (P := fun k => w.heap.size ≤ k) hb2
        have HC2 := Lib.hid hc2; clear hc2
        have HS2 := Lib.hid (later_of HC2.out); clear hb2
        refine ⟨HS2.out, ?_⟩
        refine plan_one [false, false, false, false, false, false, false, false, false, false, false, false, false, false, false, false, true] 16 1 (by dsimp only [sel]) (by rfl) rfl (by kernel_rfl) ?_; intro K1 hK1; go_wp2_with (at_builtin; go_loud (refine wpList_app2 _ rfl (.tmp 20) (.tmp 35) 23 rfl w.heap.size 70 i0 _ 2 16 Try.underlying23 hi hz0 hz1 hz2 rfl (by decide) (.slice Av k cv) k (rows2 (oa.s L) k) rfl HO2.out (some ⟨wr.heap.size, 0, none⟩) 1 1 (fun j => (#[Value.int .i64 X0, .int .i64 X1] : Array Value).getD j undef) rfl HAT2.out (ent_one _ _) (by unfold maxLen; omega) (by omega) hbz ?_); intro v' w3 hown3 hg3 hl3; rw [ent_cells, ← HROW.out] at hown3; have HO3 := Lib.hid hown3; have HB3 := Lib.hid (HB2.out.grown hg3 hbz (fun g hg => (HO2.out.lt g hg).1)); have HS3 := Lib.hid (later_of (HC2.out.trans (Chg.grown hg3) fun j _ hj => (HO2.out.lt j hj).1)); clear hown3 hg3 hl3)
        refine ⟨HS3.out, ?_⟩
        go_simp
        refine plan_group [false, false, false, false, false, false, false, false, false, false, false, false, false, false, false, false, false, true] [17] 0 (by dsimp only [sel]) (by rfl) rfl (by kernel_rfl) (by kernel_rfl) HS3.out ?_
        (repeat go_big_quiet_step (fail)); refine wpQuiet_nil ?_
        refine wp_plan_end (by kernel_rfl) ?_
        have hJ : (J16 : Int) = (I : Int) + 16 := by have := HII.out; omega
        have HJ := Lib.hid hJ; clear hJ hw8
        go_wp2_with fail
        go_roundg g
        case measure => omega
        case rel => exact ⟨k + 1, J16, _, by omega, rfl, by first | rfl | go_num | (rw [HJ.out]), by have := HII.out; have := HIK.out; omega, HO3.out, HB3.out⟩
  · have hrI : ¬ ((m : Int) % 16 = 0) := by omega
    have hrb : (((m : Int).tmod 16) != 0) = true := by
      rw [show ((m : Int).tmod 16) = ((m % 16 : Nat) : Int) from rfl]
      simp
      omega
    go_enter Try.func15, Try.ntmps15
    go_wp2_with fail
    go_ret2
    exact ⟨.inr ⟨by rw [HLEN.out]; omega, rfl⟩, Below.refl _ _⟩

attribute [local go_sem] Oper.semAt_some

/-- What both encoders answer. -/
def oa.EP (LX : List Nat) (ev : Int) (w : World) (e : Ending) (w' : World) : Prop :=
  (∃ X cx, e = .returned (.tuple #[.slice X LX.length cx, .int .i64 ev]) ∧ At w' X LX.length (byteAt LX)) ∧ Below w.heap.size w w'
theorem oa.enc_both (f : Nat → Nat → Int) (n : Nat) (hn : n ≤ 200) (hf : ∀ i j, i < n → j < 2 → -9223372036854775808 ≤ f i j ∧ f i j ≤ 9223372036854775807) :
    ∃ (LX : List Nat) (ev : Int), LX.length ≤ 3200 ∧ (∀ wx A1 c1, At2 wx A1 n f → Calls Try.prog 11 #[.slice A1 n c1] wx (oa.EP LX ev wx)) ∧ (∀ wx A1 c1, At2 wx A1 n f → Calls Try.prog 13 #[.slice A1 n c1, .bool false] wx (oa.EP LX ev wx)) := by
  obtain ⟨K, h1, h2, h3⟩ := oa.first (oi.bad f) n
  have hown : ∀ (w' : World) (B : Nat) (v : Value) (ev : Int), w'.ownsRow B 5 1 v (oi.enc f n).length (u8s (oi.enc f n)) → ∃ X cx, Ending.returned (.tuple #[v, .int .i64 ev]) = .returned (.tuple #[.slice X (oi.enc f n).length cx, .int .i64 ev]) ∧ At w' X (oi.enc f n).length (byteAt (oi.enc f n)) := fun w' B v ev h => by
    obtain ⟨X, cx, rfl, -, -, h4⟩ := own_bytes h
    exact ⟨X, cx, rfl, h4⟩
  have hnil : ∀ (w' : World), ∃ X cx, Ending.returned (.tuple #[.slice none 0 0, .int .i64 1]) = .returned (.tuple #[.slice X ([] : List Nat).length cx, .int .i64 1]) ∧ At w' X ([] : List Nat).length (byteAt []) := fun w' => ⟨none, 0, rfl, fun h => absurd h (by simp)⟩
  by_cases hK : K < n
  · refine ⟨[], 1, by simp, fun wx A1 c1 h => ?_, fun wx A1 c1 h => ?_⟩
    · refine (oi.encode_any A1 n c1 f wx (by omega) h hf).mono ?_
      rintro e w' ⟨⟨hok, -⟩ | ⟨-, rfl⟩, hb⟩
      · exact absurd (h3 hK) (hok K hK)
      · exact ⟨hnil w', hb⟩
    · refine (oi.refenc_any A1 n c1 f K wx (by omega) h hf h1 h3 h2).mono ?_
      rintro e w' ⟨⟨rfl, -⟩ | ⟨-, rfl⟩, hb⟩
      · omega
      · exact ⟨hnil w', hb⟩
  · obtain rfl : K = n := by omega
    refine ⟨oi.enc f K, 0, by rw [oi.enc_len]; omega, fun wx A1 c1 h => ?_, fun wx A1 c1 h => ?_⟩
    · refine (oi.encode_any A1 K c1 f wx (by omega) h hf).mono ?_
      rintro e w' ⟨⟨-, v, rfl, ho⟩ | ⟨⟨k, hk, hbad, -⟩, -⟩, hb⟩
      · exact ⟨hown w' _ v 0 ho, hb⟩
      · exact absurd hbad (h2 k hk)
    · refine (oi.refenc_any A1 K c1 f K wx (by omega) h hf h1 h3 h2).mono ?_
      rintro e w' ⟨⟨-, v, rfl, ho⟩ | ⟨hlt, -⟩, hb⟩
      · exact ⟨hown w' _ v 0 ho, hb⟩
      · omega
/-- What both decoders answer. -/
def oa.DP (L : List Nat) (nz : Nat) (gv : Int) (w : World) (e : Ending) (w' : World) : Prop :=
  (∃ Z cz, e = .returned (.tuple #[.slice Z nz cz, .int .i64 gv]) ∧ At2 w' Z nz (oa.s L)) ∧ Below w.heap.size w w'
theorem oa.dec_both (B : Option Addr) (m c : Nat) (L : List Nat) (hL : ∀ x ∈ L, x < 256) (hlen : L.length = m) (hmc : m ≤ c) (hc : c ≤ maxLen) (hm : m ≤ 4000) :
    ∃ (nz : Nat) (gv : Int), nz ≤ 250 ∧ (∀ wx, At wx B m (byteAt L) → Calls Try.prog 14 #[.slice B m c] wx (oa.DP L nz gv wx)) ∧ (∀ wx, At wx B m (byteAt L) → Calls Try.prog 15 #[.slice B m c, .bool false] wx (oa.DP L nz gv wx)) := by
  obtain ⟨K, h1, h2, h3⟩ := oa.first (oi.bad (oa.s L)) (m / 16)
  have hrest := oa.rest hL K (by rw [hlen]; exact h1) (by rw [hlen]; exact h3)
  have htake := oa.enc_take hL K (by omega) h2
  have hcat : oi.enc (oa.s L) K ++ L.drop (16 * K) = L := by rw [htake, List.take_append_drop]
  have hdec := fun wx (h : At wx B m (byteAt L)) => oi.decode_all B m c K (oa.s L) (L.drop (16 * K)) wx (by omega) hrest (fun x hx => hL x (List.mem_of_mem_drop hx)) (fun i j _ _ => oa.s_bd L i j) h2 (by rw [hcat]; exact hlen) (by rw [hcat]; exact h) ⟨hmc, hc⟩
  have href := fun wx (h : At wx B m (byteAt L)) => oa.refdec_any B m c L K wx hL hlen hmc hc (by omega) h h1 h2 h3
  have hnil : ∀ (w' : World) (gv : Int), ∃ Z cz, Ending.returned (.tuple #[.slice none 0 0, .int .i64 gv]) = .returned (.tuple #[.slice Z 0 cz, .int .i64 gv]) ∧ At2 w' Z 0 (oa.s L) := fun w' gv => ⟨none, 0, rfl, fun _ => .int .i64 0, fun h => absurd h (by omega), fun i j hi => absurd hi (by omega)⟩
  have hdl : (L.drop (16 * K)).length = m - 16 * K := by rw [List.length_drop, hlen]
  by_cases he : 16 * K = m
  · refine ⟨K, 0, by omega, fun wx h => ?_, fun wx h => ?_⟩
    · refine (hdec wx h).mono ?_
      rintro e w' ⟨⟨-, v, rfl, ho⟩ | ⟨hne, -⟩, hb⟩
      · obtain ⟨Z, cz, rfl, -, hz⟩ := own_at2 ho
        exact ⟨⟨Z, cz, rfl, hz⟩, hb⟩
      · exact absurd (List.length_eq_zero_iff.1 (by omega)) hne
    · refine (href wx h).mono ?_
      rintro e w' ⟨⟨-, v, rfl, ho⟩ | ⟨hne, -⟩, hb⟩
      · obtain ⟨Z, cz, rfl, -, hz⟩ := own_at2 ho
        exact ⟨⟨Z, cz, rfl, hz⟩, hb⟩
      · exact absurd (by rw [hlen]; exact he) hne
  · refine ⟨0, 2, by omega, fun wx h => ?_, fun wx h => ?_⟩
    · refine (hdec wx h).mono ?_
      rintro e w' ⟨⟨hn, -⟩ | ⟨-, rfl⟩, hb⟩
      · rw [hn] at hdl
        simp only [List.length_nil] at hdl
        omega
      · exact ⟨hnil w' 2, hb⟩
    · refine (href wx h).mono ?_
      rintro e w' ⟨⟨hn, -⟩ | ⟨-, rfl⟩, hb⟩
      · omega
      · exact ⟨hnil w' 2, hb⟩

set_option maxRecDepth 100000 in
set_option maxHeartbeats 4000000 in
theorem oa.lawAsks (A : Option Addr) (n c : Nat) (z : List Int) (every : Int) (AE : Option Addr) (en ec : Nat) (V : Nat → Value) (f : Nat → Nat → Int) (o : Int) (AB : Option Addr) (nb cb : Nat) (zb : List Int) (w : World) (hm : z.length = n ∧ n ≤ c ∧ c ≤ maxLen) (hat0 : At w A n (fun j => .int .u8 (z.getD j 0))) (hz : ∀ x ∈ z, (Lit.int .u8 x).wf = true)
    (hme : en ≤ ec ∧ ec ≤ maxLen) (hate : At w AE (en * 2) V) (hV : ∀ i j, i < en → j < 2 → V (i * 2 + j) = .int .i64 (f i j)) (hwf : ∀ i j, i < en → j < 2 → (Lit.int .i64 (f i j)).wf = true)
    (hmb : zb.length = nb ∧ nb ≤ cb ∧ cb ≤ maxLen) (hatb0 : At w AB nb (fun j => .int .u8 (zb.getD j 0))) (hzb : ∀ x ∈ zb, (Lit.int .u8 x).wf = true) :
    Calls Try.prog 3 #[.slice A n c, .int .i64 every, .slice AE en ec, .int .i64 o, .slice AB nb cb] w fun e w' => e = .returned (.bool true) ∧ Below w.heap.size w w' := by
  have hbytes : ∀ (A : Option Addr) (n : Nat) (z : List Int), z.length = n → At w A n (fun j => .int .u8 (z.getD j 0)) → (∀ x ∈ z, (Lit.int .u8 x).wf = true) → ∃ L : List Nat, L.length = n ∧ At w A n (byteAt L) ∧ ∀ x ∈ L, x < 256 := fun A n z hzn hat hz => by
    obtain ⟨h1, h2⟩ := ints_bytes hat hzn hz
    have hl : (z.map Int.toNat).length = n := by rw [List.length_map]; exact hzn
    exact ⟨_, hl, h1, ob.bytes_each hl h2⟩
  obtain ⟨hzn, hnc, hcm⟩ := hm
  obtain ⟨hzb1, hnbc, hcbm⟩ := hmb
  obtain ⟨hec, hecm⟩ := hme
  obtain ⟨L, hln, hat, hby⟩ := hbytes A n z hzn hat0 hz
  obtain ⟨Lb, hlnb, hatb, hbyb⟩ := hbytes AB nb zb hzb1 hatb0 hzb
  have hatE : At2 w AE en f := ⟨V, hate, hV⟩
  have hf : ∀ i j, i < en → j < 2 → -9223372036854775808 ≤ f i j ∧ f i j ≤ 9223372036854775807 := fun i j hi hj => wf_bd (hwf i j hi hj)
  clear hat0 hz hatb0 hzb hate hV hwf hbytes hzn hzb1
  have HAW := Lib.hid (fun wx => oi.awake_any wx)
  by_cases hsz : n ≤ 4000 ∧ en ≤ 200 ∧ nb ≤ 4000
  · obtain ⟨hn5, hen5, hnb5⟩ := hsz
    obtain ⟨LX, ev, hLX, henc, hrenc⟩ := oa.enc_both f en hen5 hf
    obtain ⟨nz, gv, hnz, hdec, hrdec⟩ := oa.dec_both AB nb cb Lb hbyb hlnb hnbc hcbm hnb5
    have hbuild := fun wx (h : Below w.heap.size w wx) => ob.build_any A n c L every wx hby hln hnc hcm (by omega) (hat.below h (Nat.le_refl _))
    have hrbuild := fun wx (h : Below w.heap.size w wx) => oa.refbuild_any A n c L every wx hby hln hnc hcm (by omega) (hat.below h (Nat.le_refl _))
    have hgo : sk.go o (oi.look f o en) 0 false (dec.walk L) = oa.seek o (oi.look f o en) (dec.walk L) := oa.go_ref _ (sk.walkF_rise hby _ _ _).2 fun y hy => by
      obtain ⟨u, his⟩ := dec.walk_is hby y hy
      exact (Bat.check_ok his.check).1.2.2.1
    have hseek := fun wx A1 c1 (h : Below w.heap.size w wx) (h1 : At2 wx A1 en f) => sk.seek_any A n c L A1 en c1 f o wx hby hln hnc hcm (by omega) (by omega) (hat.below h (Nat.le_refl _)) h1
    have hrseek := fun wx (h : Below w.heap.size w wx) => oa.refseek_any A n c L AE en ec f o wx hby hln hnc hcm (by omega) (by omega) (hat.below h (Nat.le_refl _)) (hatE.below h (Nat.le_refl _))
    rw [hgo] at hseek
    obtain ⟨⟨F1, F2⟩, hF⟩ : ∃ y, y = oa.seek o (oi.look f o en) (dec.walk L) := ⟨_, rfl⟩
    rw [← hF] at hseek hrseek
    clear hgo hF
    have hwl := dec.walk_len hby
    rw [hln] at hwl
    have hel := (ob.sub (max every 1) (dec.walk L) 0).length_le
    unfold ob.Post at hbuild
    unfold oa.BPost at hrbuild
    obtain ⟨E, hE⟩ : ∃ E, E = ob.ent (max every 1) 0 (dec.walk L) := ⟨_, rfl⟩
    rw [← hE] at hbuild hrbuild hel
    have hobat := fun (wx : World) A1 (h : At wx A1 (E.length * 2) (fun j => (ob.row E).getD j undef)) => ob.at2 h
    obtain ⟨G, hG⟩ : ∃ G, G = ob.num E := ⟨_, rfl⟩
    rw [← hG] at hobat
    obtain ⟨N, hN⟩ : ∃ N, N = E.length := ⟨_, rfl⟩
    rw [← hN] at hbuild hrbuild hobat hel
    clear hE hG hN
    have hN1 : N ≤ 80 := by omega
    have HBUILD := Lib.hid hbuild; clear hbuild
    have HRB := Lib.hid hrbuild; clear hrbuild
    have HOB := Lib.hid hobat; clear hobat
    have HENC := Lib.hid henc; clear henc
    have HRENC := Lib.hid hrenc; clear hrenc
    have HDEC := Lib.hid (fun wx (h : Below w.heap.size w wx) => hdec wx (hatb.below h (Nat.le_refl _))); clear hdec
    have HRDEC := Lib.hid (fun wx (h : Below w.heap.size w wx) => hrdec wx (hatb.below h (Nat.le_refl _))); clear hrdec
    have HSEEK := Lib.hid hseek; clear hseek
    have HRSEEK := Lib.hid hrseek; clear hrseek
    have HE := Lib.hid hatE; clear hatE hat hatb hby hbyb hln hlnb hf
    have HMADE := Lib.hid (fun wx (h : Below w.heap.size w wx) => oi.made_any AE en ec f wx (by omega) (HE.out.below h (Nat.le_refl _)))
    have n1 : ¬ 4000 < n := by omega
    have n2 : ¬ 200 < en := by omega
    have n3 : ¬ 4000 < nb := by omega
    clear hwl hel
    go_enter Try.func3, Try.ntmps3
    go_wp2_with fail
    refine (HRB.out w (Below.refl _ _)).mono ?_
    rintro e w1 ⟨Ao, co, vt, rfl, hato, hw1⟩
    have HO1 := Lib.hid (HOB.out _ _ hato); clear hato HRB
    have HW1 := Lib.hid hw1; clear hw1
    go_wp2_with fail
    refine (HMADE.out w1 HW1.out).mono ?_
    rintro e w2 ⟨⟨v2, rfl, hown2⟩, hb2⟩
    obtain ⟨A2, c2, rfl, -, hat2⟩ := own_at2 hown2
    have HM2 := Lib.hid hat2; clear hown2 hat2
    have HO2 := Lib.hid (HO1.out.below hb2 (Nat.le_refl _)); clear HO1
    have HW2 := Lib.hid (HW1.out.trans (hb2.mono HW1.out.size)); clear hb2 HW1
    go_wp2_with fail
    refine (HENC.out w2 A2 c2 HM2.out).mono ?_
    rintro e w3 ⟨⟨X, cx, rfl, hatx⟩, hb3⟩
    have HX3 := Lib.hid hatx; clear hatx HM2 HENC
    have HO3 := Lib.hid (HO2.out.below hb3 (Nat.le_refl _)); clear HO2
    have HW3 := Lib.hid (HW2.out.trans (hb3.mono HW2.out.size)); clear hb3 HW2
    go_wp2_with fail
    refine (HRENC.out w3 AE ec (HE.out.below HW3.out (Nat.le_refl _))).mono ?_
    rintro e w4 ⟨⟨Y, cy, rfl, haty⟩, hb4⟩
    have HY4 := Lib.hid haty; clear haty HRENC
    have HX4 := Lib.hid (HX3.out.below hb4 (Nat.le_refl _)); clear HX3
    have HO4 := Lib.hid (HO3.out.below hb4 (Nat.le_refl _)); clear HO3
    have HW4 := Lib.hid (HW3.out.trans (hb4.mono HW3.out.size)); clear hb4 HW3
    go_wp2_with fail
    refine (HDEC.out w4 HW4.out).mono ?_
    rintro e w5 ⟨⟨Z, cz, rfl, hatz⟩, hb5⟩
    have HZ5 := Lib.hid hatz; clear hatz HDEC
    have HY5 := Lib.hid (HY4.out.below hb5 (Nat.le_refl _)); clear HY4
    have HX5 := Lib.hid (HX4.out.below hb5 (Nat.le_refl _)); clear HX4
    have HO5 := Lib.hid (HO4.out.below hb5 (Nat.le_refl _)); clear HO4
    have HW5 := Lib.hid (HW4.out.trans (hb5.mono HW4.out.size)); clear hb5 HW4
    go_wp2_with fail
    refine (HRDEC.out w5 HW5.out).mono ?_
    rintro e w6 ⟨⟨Q, cq, rfl, hatq⟩, hb6⟩
    have HQ6 := Lib.hid hatq; clear hatq HRDEC
    have HZ6 := Lib.hid (HZ5.out.below hb6 (Nat.le_refl _)); clear HZ5
    have HY6 := Lib.hid (HY5.out.below hb6 (Nat.le_refl _)); clear HY5
    have HX6 := Lib.hid (HX5.out.below hb6 (Nat.le_refl _)); clear HX5
    have HO6 := Lib.hid (HO5.out.below hb6 (Nat.le_refl _)); clear HO5
    have HW6 := Lib.hid (HW5.out.trans (hb6.mono HW5.out.size)); clear hb6 HW5
    go_wp2_with fail
    refine (HMADE.out w6 HW6.out).mono ?_
    rintro e w7 ⟨⟨v7, rfl, hown7⟩, hb7⟩
    obtain ⟨A7, c7, rfl, -, hat7⟩ := own_at2 hown7
    have HM7 := Lib.hid hat7; clear hown7 hat7
    have HA7 := Lib.hid (And.intro (HQ6.out.below hb7 (Nat.le_refl _)) (And.intro (HZ6.out.below hb7 (Nat.le_refl _)) (And.intro (HY6.out.below hb7 (Nat.le_refl _)) (And.intro (HX6.out.below hb7 (Nat.le_refl _)) (HO6.out.below hb7 (Nat.le_refl _)))))); clear HQ6 HZ6 HY6 HX6 HO6
    have HW7 := Lib.hid (HW6.out.trans (hb7.mono HW6.out.size)); clear hb7 HW6
    go_wp2_with fail
    refine (HSEEK.out w7 A7 c7 HW7.out HM7.out).mono ?_
    rintro e w8 ⟨rfl, hb8⟩
    have HA8 := Lib.hid (And.intro (HA7.out.1.below hb8 (Nat.le_refl _)) (And.intro (HA7.out.2.1.below hb8 (Nat.le_refl _)) (And.intro (HA7.out.2.2.1.below hb8 (Nat.le_refl _)) (And.intro (HA7.out.2.2.2.1.below hb8 (Nat.le_refl _)) (HA7.out.2.2.2.2.below hb8 (Nat.le_refl _)))))); clear HA7 HM7 HSEEK
    have HW8 := Lib.hid (HW7.out.trans (hb8.mono HW7.out.size)); clear hb8 HW7
    go_wp2_with fail
    refine (HRSEEK.out w8 HW8.out).mono ?_
    rintro e w9 ⟨rfl, hb9⟩
    have HA9 := Lib.hid (And.intro (HA8.out.1.below hb9 (Nat.le_refl _)) (And.intro (HA8.out.2.1.below hb9 (Nat.le_refl _)) (And.intro (HA8.out.2.2.1.below hb9 (Nat.le_refl _)) (And.intro (HA8.out.2.2.2.1.below hb9 (Nat.le_refl _)) (HA8.out.2.2.2.2.below hb9 (Nat.le_refl _)))))); clear HA8 HRSEEK
    have HW9 := Lib.hid (HW8.out.trans (hb9.mono HW8.out.size)); clear hb9 HW8
    go_wp2_with fail
    refine (HBUILD.out w9 HW9.out).mono ?_
    rintro e w10 ⟨Ab, cb', rfl, -, hatb, hb10⟩
    have HB10 := Lib.hid (HOB.out _ _ hatb); clear hatb HBUILD HOB
    have HA10 := Lib.hid (And.intro (HA9.out.1.below hb10 (Nat.le_refl _)) (And.intro (HA9.out.2.1.below hb10 (Nat.le_refl _)) (And.intro (HA9.out.2.2.1.below hb10 (Nat.le_refl _)) (And.intro (HA9.out.2.2.2.1.below hb10 (Nat.le_refl _)) (HA9.out.2.2.2.2.below hb10 (Nat.le_refl _)))))); clear HA9
    have HW10 := Lib.hid (HW9.out.trans (hb10.mono HW9.out.size)); clear hb10 HW9
    go_wp2_with fail
    refine (oi.same_any Ab cb' Ao N co G w10 (by omega) HB10.out HA10.out.2.2.2.2).mono ?_
    rintro e w11' ⟨rfl, q11, rfl⟩
    have HW11 := Lib.hid (bdrew HW10.out q11)
    have hb11 : Below w10.heap.size w10 (w10.drewN q11) := bdrew (Below.refl _ _) q11
    have HA11 := Lib.hid (And.intro (HA10.out.1.below hb11 (Nat.le_refl _)) (And.intro (HA10.out.2.1.below hb11 (Nat.le_refl _)) (And.intro (HA10.out.2.2.1.below hb11 (Nat.le_refl _)) (HA10.out.2.2.2.1.below hb11 (Nat.le_refl _))))); clear HA10 HB10 HW10 hb11
    generalize w10.drewN q11 = w11 at *
    go_wp2_with fail
    refine (HMADE.out w11 HW11.out).mono ?_
    rintro e w12 ⟨⟨v12, rfl, hown12⟩, hb12⟩
    obtain ⟨A12, c12, rfl, -, hat12⟩ := own_at2 hown12
    have HM12 := Lib.hid hat12; clear hown12 hat12 HMADE
    have HA12 := Lib.hid (And.intro (HA11.out.1.below hb12 (Nat.le_refl _)) (And.intro (HA11.out.2.1.below hb12 (Nat.le_refl _)) (And.intro (HA11.out.2.2.1.below hb12 (Nat.le_refl _)) (HA11.out.2.2.2.below hb12 (Nat.le_refl _))))); clear HA11
    have HW12 := Lib.hid (HW11.out.trans (hb12.mono HW11.out.size)); clear hb12 HW11
    go_wp2_with fail
    refine (oi.lookup_any A12 en c12 f o w12 (by omega) HM12.out).mono ?_
    rintro e w' ⟨rfl, rfl⟩
    go_wp2_with fail
    refine (oa.reflook_any AE en ec f o w' (by omega) (HE.out.below HW12.out (Nat.le_refl _))).mono ?_
    rintro e w12' ⟨rfl, rfl⟩
    have hcx := conv_any (c := cx) Try.underlying22 Try.underlying5 Try.underlying9 LX rfl HA12.out.2.2.2
    have hcy := conv_any (c := cy) Try.underlying22 Try.underlying5 Try.underlying9 LX rfl HA12.out.2.2.1
    go_wp2_with fail
    clear hcx hcy
    refine (oi.same_any Z cz Q nz cq (oa.s Lb) _ (by omega) HA12.out.2.1 HA12.out.1).mono ?_
    rintro e w13' ⟨rfl, q13, rfl⟩
    have HW13 := Lib.hid (bdrew HW12.out q13); clear HW12 HA12 HM12
    generalize World.drewN _ q13 = w13 at *
    go_wp2_with fail
    refine (HAW.out w13).mono ?_
    rintro e w14 ⟨rfl, hb14⟩
    have HW14 := Lib.hid (HW13.out.trans (hb14.mono HW13.out.size)); clear hb14
    go_wp2_with fail
    go_ret
    exact ⟨rfl, HW14.out⟩
  · have h3 : 4000 < n ∨ (¬ 4000 < n ∧ 200 < en) ∨ (¬ 4000 < n ∧ ¬ 200 < en ∧ 4000 < nb) := by omega
    clear hsz
    go_enter Try.func3, Try.ntmps3
    rcases h3 with h1 | ⟨h1, h2⟩ | ⟨h1, h2, h3⟩
    all_goals
      go_wp2_with fail
      refine (HAW.out w).mono ?_
      rintro e w1 ⟨rfl, hb1⟩
      go_wp2_with fail
      go_ret
      exact ⟨rfl, hb1⟩
end Go.Proofs.Ytchdolcnhopmjaa

/- The reference of chapter 5: the walk of readRecord. -/
import Derived.Test.YtahncanmfjmfnaaRrB
namespace Go.Proofs.Ytahncanmfjmfnaa
open Go.RowKit

/-- What readRecord answers. -/
def rr.RecPost (first base : Int) (L : List Nat) (w : World) (e : Ending) (w' : World) : Prop :=
  (∃ x0 x1 b2 v3 b4 v5 ok K V, e = .returned (.tuple #[.agg #[.int .i64 x0, .int .i64 x1, .bool b2, v3, .bool b4, v5], .bool ok]) ∧ Fresh w' w.heap.size v3 K ∧ Fresh w' w.heap.size v5 V ∧ rr.rec first base L = if ok then some ⟨x0, x1, b2, K, b4, V⟩ else none) ∧ Below w.heap.size w w'

set_option maxRecDepth 20000 in
set_option maxHeartbeats 4000000 in
theorem ref.readrec_any (A : Option Addr) (c n : Nat) (L : List Nat) (first base : Int) (w : World) (hln : L.length = n) (hat : At w A n (byteAt L)) (hb : ∀ x ∈ L, x < 256) (hn : n ≤ c) (hl : n ≤ 1000000) :
    Calls Try.prog 56 #[.slice A n c, .int .i64 first, .int .i64 base] w (rr.RecPost first base L w) := by
  have hno : ∀ wx, Below w.heap.size w wx → rr.rec first base L = none → rr.RecPost first base L w (.returned (.tuple #[.agg #[.int .i64 0, .int .i64 0, .bool false, .slice none 0 0, .bool false, .slice none 0 0], .bool false])) wx := fun wx h1 h2 =>
    ⟨⟨0, 0, false, .slice none 0 0, false, .slice none 0 0, false, [], [], rfl, Fresh.nil _ _, Fresh.nil _ _, by rw [h2]; rfl⟩, h1⟩
  have HNO := Lib.hid hno; clear hno
  have HAT := Lib.hid hat; clear hat
  have HB := Lib.hid hb; clear hb
  have HLN := Lib.hid hln; clear hln
  go_enter Try.func56, Try.ntmps56
  go_wp2_with fail
  obtain ⟨w1, hw1⟩ : ∃ w1, w1 = w.alloc (.cells #[.int .i64 0, .int .i64 0, .bool false, .slice none 0 0, .bool false, .slice none 0 0] 44) := ⟨_, rfl⟩
  try rw [← hw1]
  have hbk : Blk w1 w.heap.size 44 #[.int .i64 0, .int .i64 0, .bool false, .slice none 0 0, .bool false, .slice none 0 0] := by rw [hw1]; exact Blk.new _ _ _
  have hb1 : Below w.heap.size w w1 := by rw [hw1]; exact (Below.refl _ w).alloc (Nat.le_refl _) _
  clear hw1
  have hlt1 : w.heap.size < w1.heap.size := hbk.lt
  have HBK := Lib.hid hbk; clear hbk
  have HB1 := Lib.hid hb1; clear hb1
  have HAT1 := Lib.hid (HAT.out.below HB1.out (Nat.le_refl _))
  have hend : ∀ wx, Below w.heap.size w wx → Below w.heap.size w (wx.setRow w.heap.size #[.int .i64 0, .int .i64 0, .bool false, .slice none 0 0, .bool false, .slice none 0 0]) := fun wx h =>
    h.trans ((Chg.setRow wx w.heap.size _).below h.size fun k hk => by have hk : k = w.heap.size := hk; omega)
  have HEND := Lib.hid hend; clear hend
  refine (ref.get_dec A c n L w1 HLN.out HAT1.out HB.out hl).mono ?_
  rintro e w2 ⟨⟨t, R1, K1, k, hd1, rfl, hcase⟩, rfl⟩
  have HD1 := Lib.hid hd1; clear hd1
  rcases hcase with ⟨rfl, rfl⟩ | ⟨hk1, hk2, rfl, rfl⟩
  · have hnone : rr.rec first base L = none := rr.rec1 (by rw [HD1.out])
    have HNONE := Lib.hid hnone; clear hnone
    go_wp2_with (show Go.wpList _ _ _ (⟨_, .store _ (.tmp 6) (.tmp 23), _, _, _, _⟩ :: _) _ _; go_loud (refine wpList_store_row rfl 44 (.tmp 6) (.tmp 23) rfl w.heap.size #[.int .i64 0, .int .i64 0, .bool false, .slice none 0 0, .bool false, .slice none 0 0] rfl rfl _ _ HBK.out bat.recInfo6 rfl (by simp [Value.oneCell']) ?_))
    have hk7 := HBK.out.row #[.int .i64 0, .int .i64 0, .bool false, .slice none 0 0, .bool false, .slice none 0 0]
    refine bodyPost_ret (res_cell2 rfl _ _ _ _ _ rfl hk7 Try.underlying44 rfl bat.recInfo6) rfl ?_
    exact HNO.out _ (HEND.out _ HB1.out) HNONE.out
  have hk0 : ((k : Int) == 0) = false := by simp; omega
  go_wp2_with (show Go.wpList _ _ _ (⟨_, .slice _ (.tmp 25) _ _ _, _, _, _, _⟩ :: _) _ _; go_loud (refine wpList_slicep rfl (.tmp 25) _ _ rfl A n c k n rfl (.inr rfl) (.inl ⟨rfl, rfl⟩) (by omega) (Nat.le_refl _) (by omega) ?_; intro A1 c1 hp hc11 hc12; have HP1 := Lib.hid hp; clear hp))
  have hdl : (L.drop k).length = n - k := by rw [List.length_drop, HLN.out]
  have hpk : Piece A L A1 (L.drop k) := by
    have h := HP1.out L HLN.out
    rw [List.take_of_length_le (by rw [List.length_drop, HLN.out]; exact Nat.le_refl _)] at h
    exact h
  have HDL := Lib.hid hdl; clear hdl
  have hat2 : At w1 A1 (n - k) (byteAt (L.drop k)) := by
    have h := hpk w1 (by rw [HLN.out]; exact HAT1.out)
    rw [HDL.out] at h
    exact h
  have HAT2 := Lib.hid hat2; clear hat2 hpk HP1
  have hbd : ∀ x ∈ L.drop k, x < 256 := fun x hx => HB.out x (List.mem_of_mem_drop hx)
  have HBD := Lib.hid hbd; clear hbd
  refine (ref.get_dec A1 c1 (n - k) (L.drop k) w1 HDL.out HAT2.out HBD.out (by omega)).mono ?_
  rintro e w2 ⟨⟨o, R2, K2, j, hd2, rfl, hcase⟩, rfl⟩
  have HD2 := Lib.hid hd2; clear hd2
  rcases hcase with ⟨rfl, rfl⟩ | ⟨hj1, hj2, rfl, rfl⟩
  · have hnone : rr.rec first base L = none := rr.rec2 HD1.out (by rw [HD2.out])
    have HNONE := Lib.hid hnone; clear hnone
    go_wp2_with (show Go.wpList _ _ _ (⟨_, .store _ (.tmp 6) (.tmp 33), _, _, _, _⟩ :: _) _ _; go_loud (refine wpList_store_row rfl 44 (.tmp 6) (.tmp 33) rfl w.heap.size #[.int .i64 0, .int .i64 0, .bool false, .slice none 0 0, .bool false, .slice none 0 0] rfl rfl _ _ HBK.out bat.recInfo6 rfl (by simp [Value.oneCell']) ?_))
    have hk7 := HBK.out.row #[.int .i64 0, .int .i64 0, .bool false, .slice none 0 0, .bool false, .slice none 0 0]
    refine bodyPost_ret (res_cell2 rfl _ _ _ _ _ rfl hk7 Try.underlying44 rfl bat.recInfo6) rfl ?_
    exact HNO.out _ (HEND.out _ HB1.out) HNONE.out
  have hj0 : ((j : Int) == 0) = false := by simp; omega
  have hdd : (L.drop k).drop j = L.drop (k + j) := by rw [List.drop_drop]
  rw [hdd] at HD2
  clear hdd
  go_upto_region 8 with (show Go.wpList _ _ _ (⟨_, .slice _ (.tmp 34) _ _ _, _, _, _, _⟩ :: _) _ _; go_loud (refine wpList_slicep rfl (.tmp 34) _ _ rfl A n c (k + j) n rfl (.inr (by rw [Int.natCast_add]; rfl)) (.inl ⟨rfl, rfl⟩) (by omega) (Nat.le_refl _) (by omega) ?_; intro A2 c2 hp hc21 hc22; have HP2 := Lib.hid hp; clear hp))
  have hdl2 : (L.drop (k + j)).length = n - (k + j) := by rw [List.length_drop, HLN.out]
  have hpk2 : Piece A L A2 (L.drop (k + j)) := by
    have h := HP2.out L HLN.out
    rw [List.take_of_length_le (by rw [List.length_drop, HLN.out]; exact Nat.le_refl _)] at h
    exact h
  have HPC := Lib.hid hpk2; clear hpk2 HP2
  have HDL2 := Lib.hid hdl2; clear hdl2
  have hbd2 : ∀ x ∈ L.drop (k + j), x < 256 := fun x hx => HB.out x (List.mem_of_mem_drop hx)
  have HBD2 := Lib.hid hbd2; clear hbd2
  clear HAT2 HBD
  obtain ⟨R2, hR2⟩ : ∃ R2, R2 = L.drop (k + j) := ⟨_, rfl⟩
  rw [← hR2] at HD2 HPC HDL2 HBD2
  clear hR2
  obtain ⟨R1, hR1⟩ : ∃ R1, R1 = L.drop k := ⟨_, rfl⟩
  rw [← hR1] at HD1 HD2
  clear hR1 HDL
  obtain ⟨mz, hmz⟩ : ∃ mz, mz = n - (k + j) := ⟨_, rfl⟩
  rw [← hmz] at HDL2 hc21 ⊢
  have hmz2 : mz ≤ n := by omega
  clear hmz
  by_cases hbad : t < -1125899906842624 ∨ 1125899906842624 < t ∨ o < 0 ∨ 4611686018427387904 < o
  · have hnone : rr.rec first base L = none := rr.rec3 HD1.out HD2.out hbad
    have HNONE := Lib.hid hnone; clear hnone
    have hb4 : t < -1125899906842624 ∨ (-1125899906842624 ≤ t ∧ 1125899906842624 < t) ∨ (-1125899906842624 ≤ t ∧ t ≤ 1125899906842624 ∧ o < 0) ∨ (-1125899906842624 ≤ t ∧ t ≤ 1125899906842624 ∧ 0 ≤ o ∧ 4611686018427387904 < o) := by omega
    clear hbad
    have HBKW := Lib.hid HBK.out
    rcases hb4 with h1 | ⟨h1, h2⟩ | ⟨h1, h2, h3⟩ | ⟨h1, h2, h3, h4⟩
    all_goals
      go_wp2_with (show Go.wpList _ _ _ (⟨_, .store _ (.tmp 6) (.tmp 53), _, _, _, _⟩ :: _) _ _; go_loud (refine wpList_store_row rfl 44 (.tmp 6) (.tmp 53) rfl w.heap.size #[.int .i64 0, .int .i64 0, .bool false, .slice none 0 0, .bool false, .slice none 0 0] rfl rfl _ _ HBKW.out bat.recInfo6 rfl (by simp [Value.oneCell']) ?_))
      have hk7 := HBKW.out.row #[.int .i64 0, .int .i64 0, .bool false, .slice none 0 0, .bool false, .slice none 0 0]
      (try rw [Exit.noGoto_ret])
      (try simp only [Exit.inBlock, Exit.then])
      refine bodyPost_ret (res_cell2 rfl _ _ _ _ _ rfl hk7 Try.underlying44 rfl bat.recInfo6) rfl ?_
      exact HNO.out _ (HEND.out _ HB1.out) HNONE.out
  have hgood := hbad
  obtain ⟨t0, t1, o0, o1⟩ : -1125899906842624 ≤ t ∧ t ≤ 1125899906842624 ∧ 0 ≤ o ∧ o ≤ 4611686018427387904 := by omega
  have HG := Lib.hid hgood; clear hgood hbad
  go_upto_region 11 with fail
  obtain ⟨X0, hX0⟩ : ∃ X0, X0 = wrap64 (base + o) := ⟨_, rfl⟩
  obtain ⟨X1, hX1⟩ : ∃ X1, X1 = wrap64 (first + t) := ⟨_, rfl⟩
  rw [← hX0, ← hX1]
  have HX := Lib.hid (And.intro hX0 hX1); clear hX0 hX1
  obtain ⟨w3, hw3⟩ : ∃ w3, w3 = w1.alloc (.cells #[.int .i64 X0, .int .i64 X1, .bool false, .slice none 0 0, .bool false, .slice none 0 0] 44) := ⟨_, rfl⟩
  rw [← hw3]
  have hb3 : Below w1.heap.size w1 w3 := by rw [hw3]; exact (Below.refl _ w1).alloc (Nat.le_refl _) _
  have hk3 : Blk w3 w1.heap.size 44 #[.int .i64 X0, .int .i64 X1, .bool false, .slice none 0 0, .bool false, .slice none 0 0] := by rw [hw3]; exact Blk.new _ _ _
  clear hw3
  have HB3 := Lib.hid hb3; clear hb3
  have HK3 := Lib.hid hk3; clear hk3
  obtain ⟨p, hp⟩ : ∃ p, p = w1.heap.size := ⟨_, rfl⟩
  rw [← hp] at HB3 HK3 ⊢
  have hwp : w.heap.size < p := by rw [hp]; exact hlt1
  have hbel : ∀ wx, Below p w1 wx → Below w.heap.size w wx := fun wx h => HB1.out.trans (by rw [hp] at h; exact h.mono HB1.out.size)
  have HBEL := Lib.hid hbel; clear hbel
  have hbox : ∀ wx, Below p w1 wx → Blk wx w.heap.size 44 #[.int .i64 0, .int .i64 0, .bool false, .slice none 0 0, .bool false, .slice none 0 0] := fun wx h => (chg_of (P := fun _ => False) (by rw [← hp]; exact h)).blk HBK.out id
  have HBOX := Lib.hid hbox; clear hbox
  have hatx : ∀ wx, Below p w1 wx → At wx A n (byteAt L) := fun wx h => HAT1.out.below h (by rw [hp]; exact Nat.le_refl _)
  have HATX := Lib.hid hatx; clear hatx
  have hset : ∀ (wx : World) (q : Nat) (u : Value), Below p w1 wx → Below p w1 (wx.setCell ⟨p, q, none⟩ u) := fun wx q u h =>
    h.trans ((Chg.setCell wx p q u).below (by rw [hp]; exact Nat.le_trans (Nat.le_refl _) h.size) fun k hk => by have hk : k = p := hk; omega)
  have HSET := Lib.hid hset; clear hset
  have HP := Lib.hid hp; clear hp hlt1
  clear HBK HAT1
  go_wp2_with fail
  go_loopg [0, 13] 2 (fun g s0 s13 wx => ∃ (i : Nat) (Bk : List Nat) (Ab : Option Addr) (mb cb : Nat) (b2 : Bool) (K : List Nat) (v3 : Value) (b4 : Bool) (V : List Nat) (v5 : Value), i + g = 2 ∧ s13 = .int .i64 (i : Int) ∧ s0 = .slice Ab mb cb ∧ mb = Bk.length ∧ Piece A L Ab Bk ∧ mb ≤ cb ∧ mb ≤ 1000000 ∧ (∀ x ∈ Bk, x < 256) ∧ Below p w1 wx ∧
    Blk wx p 44 #[.int .i64 X0, .int .i64 X1, .bool b2, v3, .bool b4, v5] ∧ Fresh wx (p + 1) v3 K ∧ Fresh wx (p + 1) v5 V ∧
    ((i = 0 ∧ Bk = R2 ∧ b2 = false ∧ v3 = .slice none 0 0 ∧ K = [] ∧ b4 = false ∧ v5 = .slice none 0 0 ∧ V = []) ∨ (i = 1 ∧ dec.field R2 = some (b2, K, Bk) ∧ b4 = false ∧ v5 = .slice none 0 0 ∧ V = []) ∨
      (i = 2 ∧ ∃ R4, dec.field R2 = some (b2, K, R4) ∧ dec.field R4 = some (b4, V, Bk))))
  case atStart => exact ⟨0, R2, A2, mz, c2, false, [], .slice none 0 0, false, [], .slice none 0 0, rfl, rfl, rfl, HDL2.out.symm, HPC.out, hc21, by omega, HBD2.out, HB3.out, HK3.out, Fresh.nil _ _, Fresh.nil _ _, .inl ⟨rfl, rfl, rfl, rfl, rfl, rfl, rfl, rfl⟩⟩
  case round =>
    obtain ⟨i, Bk, Ab, mb, cb, b2, K, v3, b4, V, v5, hig, rfl, rfl, hmb, hpb, hmb1, hmbl, hbb, hbx, hkp, hf3, hf5, hst⟩ := hrel
    have HMB := Lib.hid hmb; clear hmb
    have HPB := Lib.hid hpb; clear hpb
    have HBB := Lib.hid hbb; clear hbb
    have HBX := Lib.hid hbx; clear hbx
    have HKP := Lib.hid hkp; clear hkp
    have HF3 := Lib.hid hf3; clear hf3
    have HF5 := Lib.hid hf5; clear hf5
    have HBKW := Lib.hid (HBOX.out wr HBX.out)
    have hltp : p < wr.heap.size := HKP.out.lt
    have hltw : w.heap.size < wr.heap.size := by omega
    have hatb : At wr Ab mb (byteAt Bk) := by
      have h := HPB.out wr (by rw [HLN.out]; exact HATX.out wr HBX.out)
      rw [← HMB.out] at h
      exact h
    have HATB := Lib.hid hatb; clear hatb
    rcases hst with ⟨rfl, rfl, rfl, rfl, rfl, rfl, rfl, rfl⟩ | ⟨rfl, hfd1, rfl, rfl, rfl⟩ | ⟨rfl, R4, hfd1, hfd2⟩
    · obtain rfl : gk = 2 := by omega
      have HXX := Lib.hid HBX.out
      go_wp2_with fail
      refine (ref.get_dec Ab cb mb Bk wr HMB.out.symm HATB.out HBB.out (by omega)).mono ?_
      rintro e w4 ⟨⟨N, R, K2, l, hd3, rfl, hcase⟩, rfl⟩
      rcases hcase with ⟨rfl, rfl⟩ | ⟨hl1, hl2, rfl, rfl⟩
      · have hnone : rr.rec first base L = none := rr.rec4 HD1.out HD2.out HG.out (dec.field_no hd3 (.inl rfl))
        have HNONE := Lib.hid hnone; clear hnone hd3
        go_wp2_with (show Go.wpList _ _ _ (⟨_, .store _ (.tmp 6) (.tmp 84), _, _, _, _⟩ :: _) _ _; go_loud (refine wpList_store_row rfl 44 (.tmp 6) (.tmp 84) rfl w.heap.size #[.int .i64 0, .int .i64 0, .bool false, .slice none 0 0, .bool false, .slice none 0 0] rfl rfl _ _ HBKW.out bat.recInfo6 rfl (by simp [Value.oneCell']) ?_))
        have hk7 := HBKW.out.row #[.int .i64 0, .int .i64 0, .bool false, .slice none 0 0, .bool false, .slice none 0 0]
        (try rw [Exit.noGoto_ret])
        (try simp only [Exit.inBlock, Exit.then])
        refine bodyPost_ret (res_cell2 rfl _ _ _ _ _ rfl hk7 Try.underlying44 rfl bat.recInfo6) rfl ?_
        exact HNO.out _ (HEND.out _ (HBEL.out wr HBX.out)) HNONE.out
      have hl0 : ((l : Int) == 0) = false := by simp; omega
      have hrl : (Bk.drop l).length = mb - l := by rw [List.length_drop, ← HMB.out]
      by_cases hn1 : N < -1
      · have hnone : rr.rec first base L = none := rr.rec4 HD1.out HD2.out HG.out (dec.field_no hd3 (.inr (.inl hn1)))
        have HNONE := Lib.hid hnone; clear hnone hd3 hrl
        go_wp2_with (show Go.wpList _ _ _ (⟨_, .store _ (.tmp 6) (.tmp 84), _, _, _, _⟩ :: _) _ _; go_loud (refine wpList_store_row rfl 44 (.tmp 6) (.tmp 84) rfl w.heap.size #[.int .i64 0, .int .i64 0, .bool false, .slice none 0 0, .bool false, .slice none 0 0] rfl rfl _ _ HBKW.out bat.recInfo6 rfl (by simp [Value.oneCell']) ?_))
        have hk7 := HBKW.out.row #[.int .i64 0, .int .i64 0, .bool false, .slice none 0 0, .bool false, .slice none 0 0]
        (try rw [Exit.noGoto_ret])
        (try simp only [Exit.inBlock, Exit.then])
        refine bodyPost_ret (res_cell2 rfl _ _ _ _ _ rfl hk7 Try.underlying44 rfl bat.recInfo6) rfl ?_
        exact HNO.out _ (HEND.out _ (HBEL.out wr HBX.out)) HNONE.out
      by_cases hn2 : (mb : Int) - (l : Int) < N
      · have hnone : rr.rec first base L = none := rr.rec4 HD1.out HD2.out HG.out (dec.field_no hd3 (.inr (.inr (by rw [hrl]; omega))))
        have HNONE := Lib.hid hnone; clear hnone hd3 hrl
        have hn3 : -1 ≤ N := by omega
        clear hn1
        go_wp2_with (show Go.wpList _ _ _ (⟨_, .store _ (.tmp 6) (.tmp 84), _, _, _, _⟩ :: _) _ _; go_loud (refine wpList_store_row rfl 44 (.tmp 6) (.tmp 84) rfl w.heap.size #[.int .i64 0, .int .i64 0, .bool false, .slice none 0 0, .bool false, .slice none 0 0] rfl rfl _ _ HBKW.out bat.recInfo6 rfl (by simp [Value.oneCell']) ?_))
        have hk7 := HBKW.out.row #[.int .i64 0, .int .i64 0, .bool false, .slice none 0 0, .bool false, .slice none 0 0]
        (try rw [Exit.noGoto_ret])
        (try simp only [Exit.inBlock, Exit.then])
        refine bodyPost_ret (res_cell2 rfl _ _ _ _ _ rfl hk7 Try.underlying44 rfl bat.recInfo6) rfl ?_
        exact HNO.out _ (HEND.out _ (HBEL.out wr HBX.out)) HNONE.out
      have HRL := Lib.hid hrl; clear hrl
      have hn3 : -1 ≤ N := by omega
      have hn4 : N ≤ (mb : Int) - (l : Int) := by omega
      clear hn1 hn2
      go_upto_region 18 with (show Go.wpList _ _ _ (⟨_, .slice _ (.tmp 85) _ _ _, _, _, _, _⟩ :: _) _ _; go_loud (refine wpList_slicep rfl (.tmp 85) _ _ rfl Ab mb cb l mb rfl (.inr rfl) (.inl ⟨rfl, rfl⟩) (by omega) (Nat.le_refl _) (by omega) ?_; intro A6 c6 hp hc61 hc62; have HP6 := Lib.hid hp; clear hp))
      have hpk6 : Piece A L A6 (Bk.drop l) := by
        have h := HP6.out Bk HMB.out.symm
        rw [List.take_of_length_le (by rw [HRL.out]; exact Nat.le_refl _)] at h
        exact HPB.out.trans h
      have HPC6 := Lib.hid hpk6; clear hpk6 HP6
      have hbd6 : ∀ x ∈ Bk.drop l, x < 256 := fun x hx => HBB.out x (List.mem_of_mem_drop hx)
      have HBD6 := Lib.hid hbd6; clear hbd6
      obtain ⟨S, hS⟩ : ∃ S, S = Bk.drop l := ⟨_, rfl⟩
      rw [← hS] at hd3 HRL HPC6 HBD6
      clear hS
      obtain ⟨ms, hms⟩ : ∃ ms, ms = mb - l := ⟨_, rfl⟩
      rw [← hms] at HRL hc61 ⊢
      have hms2 : ms ≤ mb := by omega
      have hn5 : N ≤ (ms : Int) := by omega
      clear hms hn4
      have hats : At wr A6 ms (byteAt S) := by
        have h := HPC6.out wr (by rw [HLN.out]; exact HATX.out wr HBX.out)
        rw [HRL.out] at h
        exact h
      have HATS := Lib.hid hats; clear hats
      by_cases hneg : N < 0
      · obtain rfl : N = -1 := by omega
        have hfd := dec.field_nil hd3
        have HFD := Lib.hid hfd; clear hfd hd3 hneg hn3 hn5
        go_wp2_with fail
        go_roundg 1
        case measure => omega
        case rel => exact ⟨1, S, A6, ms, c6, false, [], .slice none 0 0, false, [], .slice none 0 0, rfl, by go_num, rfl, HRL.out.symm, HPC6.out, hc61, by omega, HBD6.out, HBX.out, HKP.out, HF3.out, HF5.out, .inr (.inl ⟨rfl, HFD.out, rfl, rfl, rfl⟩)⟩
      · obtain ⟨z, rfl⟩ : ∃ z : Nat, N = (z : Int) := ⟨N.toNat, by omega⟩
        have hzs : z ≤ ms := by omega
        have hfd := dec.field_yes hd3 (by rw [HRL.out]; exact hzs)
        have HFD := Lib.hid hfd; clear hfd hd3 hneg hn3 hn5
        have hz0 : ¬ (z : Int) < 0 := by omega
        have e2 : wr.cell? ⟨p, 2, none⟩ = some (.bool false) := HKP.out.cell 2 rfl
        have f2 : wr.frozen? ⟨p, 2, none⟩ = false := HKP.out.frozen 2
        go_upto_region 21 with fail
        obtain ⟨w5, hw5⟩ : ∃ w5, w5 = wr.setCell ⟨p, 2, none⟩ (.bool true) := ⟨_, rfl⟩
        rw [← hw5]
        have hk5 : Blk w5 p 44 #[.int .i64 X0, .int .i64 X1, .bool true, .slice none 0 0, .bool false, .slice none 0 0] := by rw [hw5]; exact HKP.out.set 2 _
        have hb5 : Below p w1 w5 := by rw [hw5]; exact HSET.out _ 2 _ HBX.out
        have hf3 : Fresh w5 (p + 1) (.slice none 0 0) [] := by rw [hw5]; exact HF3.out.chg (Chg.setCell wr p 2 _) fun g h1 _ h3 => by have h3 : g = p := h3; omega
        have hs5 : w5.heap.size = wr.heap.size := by rw [hw5]; simp
        have hltp5 : p < w5.heap.size := by omega
        have hltw5 : w.heap.size < w5.heap.size := by omega
        clear hw5 hs5 e2 f2
        have HK5 := Lib.hid hk5; clear hk5
        have HB5 := Lib.hid hb5; clear hb5
        have HF35 := Lib.hid hf3; clear hf3
        have hats5 : At w5 A6 ms (byteAt S) := by
          have h := HPC6.out w5 (by rw [HLN.out]; exact HATX.out w5 HB5.out)
          rw [HRL.out] at h
          exact h
        have HATS5 := Lib.hid hats5; clear hats5
        go_upto_region 24 with (first
          | (show Go.wpList _ _ _ (⟨_, .slice _ (.tmp 94) _ _ _, _, _, _, _⟩ :: _) _ _; refine wpList_slicep rfl (.tmp 94) _ _ rfl A6 ms c6 0 z rfl (.inl ⟨rfl, rfl⟩) (.inr rfl) (by omega) hzs (by omega) ?_; intro A7 c7 hp hc71 hc72; have HP7 := Lib.hid hp; clear hp; rw [Nat.sub_zero])
          | (at_builtin; (refine wpList_acc rfl (.tmp 93) (.tmp 96) rfl _ _ rfl (Acc.empty w5 w5 (Below.refl _ _)) A7 z c7 (S.take z) rfl (by rw [List.length_take, HRL.out]; omega) (by have h := HP7.out S HRL.out (w5.alloc (.cells #[] 5)) (by rw [HRL.out]; exact HATS5.out.alloc _); rw [List.drop_zero, Nat.sub_zero, List.length_take, HRL.out, Nat.min_eq_left hzs] at h; exact h) (by rw [List.length_take, HRL.out]; simp; omega) ?_); intro v8 w8 hA; rw [List.nil_append] at hA; obtain ⟨A8, c8, hv8, -, -⟩ := hA.at'; subst hv8; have hlz : (S.take z).length = z := (by rw [List.length_take, HRL.out]; omega); rw [hlz] at hA ⊢; clear hlz; have HA8 := Lib.hid hA; clear hA; have HK8 := Lib.hid ((chg_of (P := fun _ => False) HA8.out.2).blk HK5.out id); have e3 : w8.cell? ⟨p, 3, none⟩ = some (.slice none 0 0) := HK8.out.cell 3 rfl; have f3 : w8.frozen? ⟨p, 3, none⟩ = false := HK8.out.frozen 3; have hsz8 : w5.heap.size ≤ w8.heap.size := HA8.out.2.size))
        clear e3 f3
        obtain ⟨w9, hw9⟩ : ∃ w9, w9 = w8.setCell ⟨p, 3, none⟩ (.slice A8 z c8) := ⟨_, rfl⟩
        rw [← hw9]
        have hch9 := Chg.setCell w8 p 3 (.slice A8 z c8)
        rw [← hw9] at hch9
        have hk9 : Blk w9 p 44 #[.int .i64 X0, .int .i64 X1, .bool true, .slice A8 z c8, .bool false, .slice none 0 0] := by rw [hw9]; exact HK8.out.set 3 _
        have hb9 : Below p w1 w9 := by rw [hw9]; exact HSET.out _ 3 _ (HB5.out.trans (HA8.out.2.mono (by omega)))
        have hf9 : Fresh w9 (p + 1) (.slice A8 z c8) (S.take z) := (Fresh.acc HA8.out (by omega) fun x hx => HBD6.out x (List.mem_of_mem_take hx)).chg hch9 fun g h1 _ h3 => by have h3 : g = p := h3; omega
        have hf39 : Fresh w9 (p + 1) (.slice none 0 0) [] := ((HF35.out.below HA8.out.2).chg hch9 fun g h1 _ h3 => by have h3 : g = p := h3; omega)
        clear hw9 hch9
        have HK9 := Lib.hid hk9; clear hk9
        have HB9 := Lib.hid hb9; clear hb9
        have HF9 := Lib.hid hf9; clear hf9
        have HF39 := Lib.hid hf39; clear hf39
        go_wp2_with (show Go.wpList _ _ _ (⟨_, .slice _ (.tmp 106) _ _ _, _, _, _, _⟩ :: _) _ _; go_loud (refine wpList_slicep rfl (.tmp 106) _ _ rfl A6 ms c6 z ms rfl (.inr rfl) (.inl ⟨rfl, rfl⟩) hzs (Nat.le_refl _) (by omega) ?_; intro A9 c9 hp hc91 hc92; have HP9 := Lib.hid hp; clear hp))
        go_roundg 1
        case measure => omega
        case rel =>
          have hpk9 : Piece A L A9 (S.drop z) := by
            have h := HP9.out S HRL.out
            rw [List.take_of_length_le (by rw [List.length_drop, HRL.out]; exact Nat.le_refl _)] at h
            exact HPC6.out.trans h
          exact ⟨1, S.drop z, A9, ms - z, c9, true, S.take z, .slice A8 z c8, false, [], .slice none 0 0, rfl, by go_num, rfl, by rw [List.length_drop, HRL.out], hpk9, hc91, by omega, fun x hx => HBD6.out x (List.mem_of_mem_drop hx), HB9.out, HK9.out, HF9.out, Fresh.nil _ _, .inr (.inl ⟨rfl, HFD.out, rfl, rfl, rfl⟩)⟩
    · obtain rfl : gk = 1 := by omega
      have HFD1 := Lib.hid hfd1; clear hfd1
      obtain ⟨⟨A3, c3, rfl, q31, q32, q33, q34⟩, q35⟩ := HF3.out
      clear q31 q32 q33 q34 q35
      obtain ⟨kn, hkn⟩ : ∃ kn, kn = K.length := ⟨_, rfl⟩
      rw [← hkn] at HKP HF3
      clear hkn
      go_wp2_with fail
      refine (ref.get_dec Ab cb mb Bk wr HMB.out.symm HATB.out HBB.out (by omega)).mono ?_
      rintro e w4 ⟨⟨N, R, K2, l, hd3, rfl, hcase⟩, rfl⟩
      rcases hcase with ⟨rfl, rfl⟩ | ⟨hl1, hl2, rfl, rfl⟩
      · have hnone : rr.rec first base L = none := rr.rec5 HD1.out HD2.out HG.out HFD1.out (dec.field_no hd3 (.inl rfl))
        have HNONE := Lib.hid hnone; clear hnone hd3
        go_wp2_with (show Go.wpList _ _ _ (⟨_, .store _ (.tmp 6) (.tmp 84), _, _, _, _⟩ :: _) _ _; go_loud (refine wpList_store_row rfl 44 (.tmp 6) (.tmp 84) rfl w.heap.size #[.int .i64 0, .int .i64 0, .bool false, .slice none 0 0, .bool false, .slice none 0 0] rfl rfl _ _ HBKW.out bat.recInfo6 rfl (by simp [Value.oneCell']) ?_))
        have hk7 := HBKW.out.row #[.int .i64 0, .int .i64 0, .bool false, .slice none 0 0, .bool false, .slice none 0 0]
        (try rw [Exit.noGoto_ret])
        (try simp only [Exit.inBlock, Exit.then])
        refine bodyPost_ret (res_cell2 rfl _ _ _ _ _ rfl hk7 Try.underlying44 rfl bat.recInfo6) rfl ?_
        exact HNO.out _ (HEND.out _ (HBEL.out wr HBX.out)) HNONE.out
      have hl0 : ((l : Int) == 0) = false := by simp; omega
      have hrl : (Bk.drop l).length = mb - l := by rw [List.length_drop, ← HMB.out]
      by_cases hn1 : N < -1
      · have hnone : rr.rec first base L = none := rr.rec5 HD1.out HD2.out HG.out HFD1.out (dec.field_no hd3 (.inr (.inl hn1)))
        have HNONE := Lib.hid hnone; clear hnone hd3 hrl
        go_wp2_with (show Go.wpList _ _ _ (⟨_, .store _ (.tmp 6) (.tmp 84), _, _, _, _⟩ :: _) _ _; go_loud (refine wpList_store_row rfl 44 (.tmp 6) (.tmp 84) rfl w.heap.size #[.int .i64 0, .int .i64 0, .bool false, .slice none 0 0, .bool false, .slice none 0 0] rfl rfl _ _ HBKW.out bat.recInfo6 rfl (by simp [Value.oneCell']) ?_))
        have hk7 := HBKW.out.row #[.int .i64 0, .int .i64 0, .bool false, .slice none 0 0, .bool false, .slice none 0 0]
        (try rw [Exit.noGoto_ret])
        (try simp only [Exit.inBlock, Exit.then])
        refine bodyPost_ret (res_cell2 rfl _ _ _ _ _ rfl hk7 Try.underlying44 rfl bat.recInfo6) rfl ?_
        exact HNO.out _ (HEND.out _ (HBEL.out wr HBX.out)) HNONE.out
      by_cases hn2 : (mb : Int) - (l : Int) < N
      · have hnone : rr.rec first base L = none := rr.rec5 HD1.out HD2.out HG.out HFD1.out (dec.field_no hd3 (.inr (.inr (by rw [hrl]; omega))))
        have HNONE := Lib.hid hnone; clear hnone hd3 hrl
        have hn3 : -1 ≤ N := by omega
        clear hn1
        go_wp2_with (show Go.wpList _ _ _ (⟨_, .store _ (.tmp 6) (.tmp 84), _, _, _, _⟩ :: _) _ _; go_loud (refine wpList_store_row rfl 44 (.tmp 6) (.tmp 84) rfl w.heap.size #[.int .i64 0, .int .i64 0, .bool false, .slice none 0 0, .bool false, .slice none 0 0] rfl rfl _ _ HBKW.out bat.recInfo6 rfl (by simp [Value.oneCell']) ?_))
        have hk7 := HBKW.out.row #[.int .i64 0, .int .i64 0, .bool false, .slice none 0 0, .bool false, .slice none 0 0]
        (try rw [Exit.noGoto_ret])
        (try simp only [Exit.inBlock, Exit.then])
        refine bodyPost_ret (res_cell2 rfl _ _ _ _ _ rfl hk7 Try.underlying44 rfl bat.recInfo6) rfl ?_
        exact HNO.out _ (HEND.out _ (HBEL.out wr HBX.out)) HNONE.out
      have HRL := Lib.hid hrl; clear hrl
      have hn3 : -1 ≤ N := by omega
      have hn4 : N ≤ (mb : Int) - (l : Int) := by omega
      clear hn1 hn2
      go_upto_region 18 with (show Go.wpList _ _ _ (⟨_, .slice _ (.tmp 85) _ _ _, _, _, _, _⟩ :: _) _ _; go_loud (refine wpList_slicep rfl (.tmp 85) _ _ rfl Ab mb cb l mb rfl (.inr rfl) (.inl ⟨rfl, rfl⟩) (by omega) (Nat.le_refl _) (by omega) ?_; intro A6 c6 hp hc61 hc62; have HP6 := Lib.hid hp; clear hp))
      have hpk6 : Piece A L A6 (Bk.drop l) := by
        have h := HP6.out Bk HMB.out.symm
        rw [List.take_of_length_le (by rw [HRL.out]; exact Nat.le_refl _)] at h
        exact HPB.out.trans h
      have HPC6 := Lib.hid hpk6; clear hpk6 HP6
      have hbd6 : ∀ x ∈ Bk.drop l, x < 256 := fun x hx => HBB.out x (List.mem_of_mem_drop hx)
      have HBD6 := Lib.hid hbd6; clear hbd6
      obtain ⟨S, hS⟩ : ∃ S, S = Bk.drop l := ⟨_, rfl⟩
      rw [← hS] at hd3 HRL HPC6 HBD6
      clear hS
      obtain ⟨ms, hms⟩ : ∃ ms, ms = mb - l := ⟨_, rfl⟩
      rw [← hms] at HRL hc61 ⊢
      have hms2 : ms ≤ mb := by omega
      have hn5 : N ≤ (ms : Int) := by omega
      clear hms hn4
      have hats : At wr A6 ms (byteAt S) := by
        have h := HPC6.out wr (by rw [HLN.out]; exact HATX.out wr HBX.out)
        rw [HRL.out] at h
        exact h
      have HATS := Lib.hid hats; clear hats
      by_cases hneg : N < 0
      · obtain rfl : N = -1 := by omega
        have hfd := dec.field_nil hd3
        have HFD := Lib.hid hfd; clear hfd hd3 hneg hn3 hn5
        go_wp2_with fail
        go_roundg 0
        case measure => omega
        case rel => exact ⟨2, S, A6, ms, c6, b2, K, .slice A3 kn c3, false, [], .slice none 0 0, rfl, by go_num, rfl, HRL.out.symm, HPC6.out, hc61, by omega, HBD6.out, HBX.out, HKP.out, HF3.out, HF5.out, .inr (.inr ⟨rfl, Bk, HFD1.out, HFD.out⟩)⟩
      · obtain ⟨z, rfl⟩ : ∃ z : Nat, N = (z : Int) := ⟨N.toNat, by omega⟩
        have hzs : z ≤ ms := by omega
        have hfd := dec.field_yes hd3 (by rw [HRL.out]; exact hzs)
        have HFD := Lib.hid hfd; clear hfd hd3 hneg hn3 hn5
        have hz0 : ¬ (z : Int) < 0 := by omega
        have e2 : wr.cell? ⟨p, 4, none⟩ = some (.bool false) := HKP.out.cell 4 rfl
        have f2 : wr.frozen? ⟨p, 4, none⟩ = false := HKP.out.frozen 4
        go_upto_region 23 with fail
        obtain ⟨w5, hw5⟩ : ∃ w5, w5 = wr.setCell ⟨p, 4, none⟩ (.bool true) := ⟨_, rfl⟩
        rw [← hw5]
        have hk5 : Blk w5 p 44 #[.int .i64 X0, .int .i64 X1, .bool b2, .slice A3 kn c3, .bool true, .slice none 0 0] := by rw [hw5]; exact HKP.out.set 4 _
        have hb5 : Below p w1 w5 := by rw [hw5]; exact HSET.out _ 4 _ HBX.out
        have hf3 : Fresh w5 (p + 1) (.slice A3 kn c3) K := by rw [hw5]; exact HF3.out.chg (Chg.setCell wr p 4 _) fun g h1 _ h3 => by have h3 : g = p := h3; omega
        have hs5 : w5.heap.size = wr.heap.size := by rw [hw5]; simp
        have hltp5 : p < w5.heap.size := by omega
        have hltw5 : w.heap.size < w5.heap.size := by omega
        clear hw5 hs5 e2 f2
        have HK5 := Lib.hid hk5; clear hk5
        have HB5 := Lib.hid hb5; clear hb5
        have HF35 := Lib.hid hf3; clear hf3
        have hats5 : At w5 A6 ms (byteAt S) := by
          have h := HPC6.out w5 (by rw [HLN.out]; exact HATX.out w5 HB5.out)
          rw [HRL.out] at h
          exact h
        have HATS5 := Lib.hid hats5; clear hats5
        go_upto_region 24 with (first
          | (show Go.wpList _ _ _ (⟨_, .slice _ (.tmp 101) _ _ _, _, _, _, _⟩ :: _) _ _; refine wpList_slicep rfl (.tmp 101) _ _ rfl A6 ms c6 0 z rfl (.inl ⟨rfl, rfl⟩) (.inr rfl) (by omega) hzs (by omega) ?_; intro A7 c7 hp hc71 hc72; have HP7 := Lib.hid hp; clear hp; rw [Nat.sub_zero])
          | (at_builtin; (refine wpList_acc rfl (.tmp 100) (.tmp 103) rfl _ _ rfl (Acc.empty w5 w5 (Below.refl _ _)) A7 z c7 (S.take z) rfl (by rw [List.length_take, HRL.out]; omega) (by have h := HP7.out S HRL.out (w5.alloc (.cells #[] 5)) (by rw [HRL.out]; exact HATS5.out.alloc _); rw [List.drop_zero, Nat.sub_zero, List.length_take, HRL.out, Nat.min_eq_left hzs] at h; exact h) (by rw [List.length_take, HRL.out]; simp; omega) ?_); intro v8 w8 hA; rw [List.nil_append] at hA; obtain ⟨A8, c8, hv8, -, -⟩ := hA.at'; subst hv8; have hlz : (S.take z).length = z := (by rw [List.length_take, HRL.out]; omega); rw [hlz] at hA ⊢; clear hlz; have HA8 := Lib.hid hA; clear hA; have HK8 := Lib.hid ((chg_of (P := fun _ => False) HA8.out.2).blk HK5.out id); have e3 : w8.cell? ⟨p, 5, none⟩ = some (.slice none 0 0) := HK8.out.cell 5 rfl; have f3 : w8.frozen? ⟨p, 5, none⟩ = false := HK8.out.frozen 5; have hsz8 : w5.heap.size ≤ w8.heap.size := HA8.out.2.size))
        clear e3 f3
        obtain ⟨w9, hw9⟩ : ∃ w9, w9 = w8.setCell ⟨p, 5, none⟩ (.slice A8 z c8) := ⟨_, rfl⟩
        rw [← hw9]
        have hch9 := Chg.setCell w8 p 5 (.slice A8 z c8)
        rw [← hw9] at hch9
        have hk9 : Blk w9 p 44 #[.int .i64 X0, .int .i64 X1, .bool b2, .slice A3 kn c3, .bool true, .slice A8 z c8] := by rw [hw9]; exact HK8.out.set 5 _
        have hb9 : Below p w1 w9 := by rw [hw9]; exact HSET.out _ 5 _ (HB5.out.trans (HA8.out.2.mono (by omega)))
        have hf9 : Fresh w9 (p + 1) (.slice A8 z c8) (S.take z) := (Fresh.acc HA8.out (by omega) fun x hx => HBD6.out x (List.mem_of_mem_take hx)).chg hch9 fun g h1 _ h3 => by have h3 : g = p := h3; omega
        have hf39 : Fresh w9 (p + 1) (.slice A3 kn c3) K := ((HF35.out.below HA8.out.2).chg hch9 fun g h1 _ h3 => by have h3 : g = p := h3; omega)
        clear hw9 hch9
        have HK9 := Lib.hid hk9; clear hk9
        have HB9 := Lib.hid hb9; clear hb9
        have HF9 := Lib.hid hf9; clear hf9
        have HF39 := Lib.hid hf39; clear hf39
        go_wp2_with (show Go.wpList _ _ _ (⟨_, .slice _ (.tmp 106) _ _ _, _, _, _, _⟩ :: _) _ _; go_loud (refine wpList_slicep rfl (.tmp 106) _ _ rfl A6 ms c6 z ms rfl (.inr rfl) (.inl ⟨rfl, rfl⟩) hzs (Nat.le_refl _) (by omega) ?_; intro A9 c9 hp hc91 hc92; have HP9 := Lib.hid hp; clear hp))
        go_roundg 0
        case measure => omega
        case rel =>
          have hpk9 : Piece A L A9 (S.drop z) := by
            have h := HP9.out S HRL.out
            rw [List.take_of_length_le (by rw [List.length_drop, HRL.out]; exact Nat.le_refl _)] at h
            exact HPC6.out.trans h
          exact ⟨2, S.drop z, A9, ms - z, c9, b2, K, .slice A3 kn c3, true, S.take z, .slice A8 z c8, rfl, by go_num, rfl, by rw [List.length_drop, HRL.out], hpk9, hc91, by omega, fun x hx => HBD6.out x (List.mem_of_mem_drop hx), HB9.out, HK9.out, HF39.out, HF9.out, .inr (.inr ⟨rfl, Bk, HFD1.out, HFD.out⟩)⟩
    · obtain rfl : gk = 0 := by omega
      have hrec := rr.rec6 (first := first) (base := base) HD1.out HD2.out HG.out hfd1 hfd2
      rw [← HX.out.1, ← HX.out.2, ← HMB.out] at hrec
      have HREC := Lib.hid hrec; clear hrec hfd1 hfd2
      obtain ⟨⟨A3, c3, rfl, q31, q32, q33, q34⟩, q35⟩ := HF3.out
      obtain ⟨⟨A5, c5, rfl, q51, q52, q53, q54⟩, q55⟩ := HF5.out
      clear q31 q32 q33 q34 q35 q51 q52 q53 q54 q55
      obtain ⟨kn, hkn⟩ : ∃ kn, kn = K.length := ⟨_, rfl⟩
      obtain ⟨vn, hvn⟩ : ∃ vn, vn = V.length := ⟨_, rfl⟩
      rw [← hkn] at HKP HF3
      rw [← hvn] at HKP HF5
      clear hkn hvn
      have g0 : wr.cell? ⟨p, 0, none⟩ = some (.int .i64 X0) := HKP.out.cell 0 rfl
      have g1 : wr.cell? ⟨p, 1, none⟩ = some (.int .i64 X1) := HKP.out.cell 1 rfl
      have g2 : wr.cell? ⟨p, 2, none⟩ = some (.bool b2) := HKP.out.cell 2 rfl
      have g3 : wr.cell? ⟨p, 3, none⟩ = some (.slice A3 kn c3) := HKP.out.cell 3 rfl
      have g4 : wr.cell? ⟨p, 4, none⟩ = some (.bool b4) := HKP.out.cell 4 rfl
      have g5 : wr.cell? ⟨p, 5, none⟩ = some (.slice A5 vn c5) := HKP.out.cell 5 rfl
      have hres : ∀ ok : Bool, rr.rec first base L = (if ok then some ⟨X0, X1, b2, K, b4, V⟩ else none) → rr.RecPost first base L w (.returned (.tuple #[.agg #[.int .i64 X0, .int .i64 X1, .bool b2, .slice A3 kn c3, .bool b4, .slice A5 vn c5], .bool ok])) (wr.setRow w.heap.size #[.int .i64 X0, .int .i64 X1, .bool b2, .slice A3 kn c3, .bool b4, .slice A5 vn c5]) := fun ok h => by
        have hch := Chg.setRow wr w.heap.size #[.int .i64 X0, .int .i64 X1, .bool b2, .slice A3 kn c3, .bool b4, .slice A5 vn c5]
        exact ⟨⟨X0, X1, b2, _, b4, _, ok, K, V, rfl, (HF3.out.chg hch fun g h1 _ h3 => by have h3 : g = w.heap.size := h3; omega).up (by omega), (HF5.out.chg hch fun g h1 _ h3 => by have h3 : g = w.heap.size := h3; omega).up (by omega), h⟩,
          (HBEL.out wr HBX.out).trans (hch.below (by omega) fun k hk => by have hk : k = w.heap.size := hk; omega)⟩
      have HRES := Lib.hid hres; clear hres
      by_cases hm0 : mb = 0
      · subst hm0
        have hrec2 : rr.rec first base L = some ⟨X0, X1, b2, K, b4, V⟩ := by rw [HREC.out]; rfl
        have HREC2 := Lib.hid hrec2; clear hrec2 HREC
        go_wp2_with (show Go.wpList _ _ _ (⟨_, .store _ (.tmp 6) (.tmp 109), _, _, _, _⟩ :: _) _ _; go_loud (refine wpList_store_row rfl 44 (.tmp 6) (.tmp 109) rfl w.heap.size #[.int .i64 X0, .int .i64 X1, .bool b2, .slice A3 kn c3, .bool b4, .slice A5 vn c5] rfl rfl _ _ HBKW.out bat.recInfo6 rfl (by simp [Value.oneCell']) ?_))
        have hk7 := HBKW.out.row #[.int .i64 X0, .int .i64 X1, .bool b2, .slice A3 kn c3, .bool b4, .slice A5 vn c5]
        (try rw [Exit.noGoto_ret])
        (try simp only [Exit.inBlock, Exit.then])
        refine bodyPost_ret (res_cell2 rfl _ _ _ _ _ rfl hk7 Try.underlying44 rfl bat.recInfo6) rfl ?_
        exact HRES.out true HREC2.out
      · have hd0 : ((mb : Int) == 0) = false := by simp; omega
        have hrec2 : rr.rec first base L = none := by rw [HREC.out, if_pos (by omega)]
        have HREC2 := Lib.hid hrec2; clear hrec2 HREC
        go_wp2_with (show Go.wpList _ _ _ (⟨_, .store _ (.tmp 6) (.tmp 109), _, _, _, _⟩ :: _) _ _; go_loud (refine wpList_store_row rfl 44 (.tmp 6) (.tmp 109) rfl w.heap.size #[.int .i64 X0, .int .i64 X1, .bool b2, .slice A3 kn c3, .bool b4, .slice A5 vn c5] rfl rfl _ _ HBKW.out bat.recInfo6 rfl (by simp [Value.oneCell']) ?_))
        have hk7 := HBKW.out.row #[.int .i64 X0, .int .i64 X1, .bool b2, .slice A3 kn c3, .bool b4, .slice A5 vn c5]
        (try rw [Exit.noGoto_ret])
        (try simp only [Exit.inBlock, Exit.then])
        refine bodyPost_ret (res_cell2 rfl _ _ _ _ _ rfl hk7 Try.underlying44 rfl bat.recInfo6) rfl ?_
        exact HRES.out false HREC2.out
end Go.Proofs.Ytahncanmfjmfnaa

/- The walk of the law DiskTails. -/
import Derived.Test.YthffkbcjidbdaaaDkP
import Derived.Test.YthffkbcjidbdaaaDkS
import Derived.Test.YthffkbcjidbdaaaAlikeB
import Derived.Test.YthffkbcjidbdaaaOpenB
import Derived.Deep.Onto
namespace Go.Proofs.Ythffkbcjidbdaaa
open Go.RowKit Go.Maps
set_option maxRecDepth 100000

/-- The first k of these, in one row. -/
def tl.flat (Ls : List (List Nat)) (k : Nat) : List Nat := (Ls.take k).flatten
theorem tl.flat_succ (Ls : List (List Nat)) (k : Nat) (h : k < Ls.length) : tl.flat Ls (k + 1) = tl.flat Ls k ++ Ls.getD k [] := by
  unfold tl.flat
  rw [List.take_succ_eq_append_getElem h, List.flatten_append]
  simp [List.getD, List.getElem?_eq_getElem h]
theorem tl.flat_le (Ls : List (List Nat)) (k n : Nat) (h : k ≤ n) : (tl.flat Ls k).length ≤ (tl.flat Ls n).length := by
  unfold tl.flat
  have e : Ls.take n = (Ls.take n).take k ++ (Ls.take n).drop k := (List.take_append_drop k _).symm
  rw [List.take_take, Nat.min_eq_left h] at e
  rw [e, List.flatten_append, List.length_append]
  omega
def tl.F : ByteArray := ByteArray.mk #[102]
theorem tl.F_ok : dk.okName tl.F = true := by decide

theorem at_two4 (w : World) (a b : Int) (t : TypeId) : At (w.alloc (.cells #[.int .i64 a, .int .i64 b] t)) (some ⟨w.heap.size, 0, none⟩) 2 (fun j => .int .i64 ([a, b].getD j 0)) :=
  (At.new w #[.int .i64 a, .int .i64 b] t (fr := (0, 0)) (n := 2) rfl).congr fun j hj => by
    have hj' : j = 0 ∨ j = 1 := by omega
    rcases hj' with rfl | rfl <;> rfl
theorem Raw.below4 {w w' : World} {v : Value} {L : List Nat} (h : Raw w v L) (hb : Below w.heap.size w w') : Raw w' v L := by
  obtain ⟨A, c, rfl, h0, h1, h2, h3⟩ := h
  exact ⟨A, c, rfl, h0, h1, h2.below hb (Nat.le_refl _), h3⟩

/-- A disk whose blocks are all younger than B, and none of them is a value's. -/
def dk.Mine (B : Nat) (v : Value) (w : World) (p : Nat) (D : Dsk) (m : Nat) : Prop := ∃ F, DskIn w p D F m ∧ (∀ k, F k → B ≤ k) ∧ (∀ k, F k → k < w.heap.size) ∧ ∀ k, v.ownBlock = some k → ¬ F k
theorem dk.mine_next {B : Nat} {v : Value} {w w' : World} {F : Nat → Prop} {p : Nat} {D' : Dsk} {m' : Nat} (hF : ∀ k, F k → B ≤ k) (hv : ∀ k, v.ownBlock = some k → ¬ F k ∧ k < w.heap.size) (hB : B ≤ w.heap.size) (h : DskIn w' p D' (dk.grow F w w') m') : dk.Mine B v w' p D' m' :=
  ⟨_, h, fun k hk => hk.1.elim (hF k) fun q => Nat.le_trans hB q, fun k hk => hk.2, fun k hk hg => hg.1.elim (hv k hk).1 fun q => by
    have := (hv k hk).2
    omega⟩
set_option maxHeartbeats 8000000 in
theorem law4.tails (A : Option Addr) (n c : Nat) (z : List Int) (X : Option Addr) (q d : Nat) (V : Nat → Value) (Ls : List (List Nat)) (Y : Option Addr) (r e : Nat) (ps : List Int) (w : World) (hz : z.length = n ∧ n ≤ c ∧ c ≤ maxLen) (hatz : At w A n (fun j => .int .u8 (z.getD j 0))) (hwf : ∀ x ∈ z, (Lit.int .u8 x).wf = true)
    (hx : Ls.length = q ∧ q ≤ d ∧ d ≤ maxLen) (hatx : At w X q V) (hV : ∀ j, j < q → Raw w (V j) (Ls.getD j []))
    (hp : ps.length = r ∧ r ≤ e ∧ e ≤ maxLen) (hatp : At w Y r (fun j => .int .i64 (ps.getD j 0))) (hwp : ∀ x ∈ ps, (Lit.int .i64 x).wf = true) :
    Calls Try.prog 7 #[.slice A n c, .slice X q d, .slice Y r e] w fun a w' => a = .returned (.bool true) ∧ Below w.heap.size w w' := by
  obtain ⟨hz1, hnc, hcm⟩ := hz
  unfold maxLen at hcm
  obtain ⟨haz, hzb⟩ := ints_bytes hatz hz1 hwf
  obtain ⟨L, hL⟩ : ∃ L, L = z.map Int.toNat := ⟨_, rfl⟩
  rw [← hL] at haz hzb
  have hlen : L.length = n := by rw [hL, List.length_map, hz1]
  clear hL hatz hwf hz1
  have HAT := Lib.hid (And.intro haz (And.intro hlen hzb)); clear haz hlen hzb
  obtain ⟨hx1, hx2, hx3⟩ := hx
  unfold maxLen at hx3
  have HAX := Lib.hid (And.intro hatx (And.intro hV hx1)); clear hatx hV hx1
  obtain ⟨hp1, hp2, hp3⟩ := hp
  have hpk : dk.Picks w Y r e ps := ⟨hatp, hp1, hp2, hp3, fun x hx => wf_bd (hwp x hx)⟩
  unfold maxLen at hp3
  have HPK := Lib.hid hpk; clear hpk hatp hp1 hwp
  go_enter Try.func7, Try.ntmps7
  go_wp2_with fail
  go_loopw [7, 8] (fun x i wr => ∃ (k : Nat) (t : Int), k ≤ q ∧ i = .int .i64 (k : Int) ∧ x = .int .i64 t ∧ 0 ≤ t ∧ t ≤ 1099511627776 ∧ (t ≤ 500 → t = (tl.flat Ls k).length + k) ∧ Below w.heap.size w wr) (fun _ i _ => q - (intOf i).toNat)
  case atStart => exact ⟨0, 0, by omega, rfl, rfl, by omega, by omega, fun _ => rfl, Below.refl _ _⟩
  case round =>
    obtain ⟨k, t, hk, rfl, rfl, ht0, ht1, ht, hb⟩ := hrel
    have HT := Lib.hid ht; clear ht
    have HB := Lib.hid hb; clear hb
    have haw := law4.awake_any wr
    have HAW := Lib.hid haw; clear haw
    by_cases hgo : k < q ∧ t ≤ 500
    · obtain ⟨hlt, ht2⟩ := hgo
      have hlt' : (k : Int) < (q : Int) := by omega
      obtain ⟨b, off, rfl, hbb, hc⟩ := HAX.out.1 (by omega)
      obtain ⟨Ai, ci, hvi, hli, hci, _, _⟩ := HAX.out.2.1 k hlt
      obtain ⟨M, hM⟩ : ∃ M, M = Ls.getD k [] := ⟨_, rfl⟩
      rw [← hM] at hvi hli
      have hc1 : wr.cell? ⟨b, off + k, none⟩ = some (.slice Ai M.length ci) := by rw [HB.out.cell (by exact hbb), hc k hlt, hvi]
      clear hc hvi
      unfold maxLen at hci
      have HM := Lib.hid hM; clear hM
      go_wp2_with fail
      refine (alike.sum_any t _ 2 2 [(M.length : Int), 1] _ ht0 ht1 (by omega) rfl (at_two4 _ _ _ _) (fun x hx => by simp at hx; omega)).mono ?_
      rintro a w' ⟨rfl, rfl⟩
      have hsm : alike.sum t [(M.length : Int), 1] = min (t + M.length + 1) 1099511627776 := by unfold alike.sum; simp; omega
      rw [hsm]
      clear hsm
      go_wp2_with fail
      go_roundw
      case rel =>
        refine ⟨k + 1, min (t + M.length + 1) 1099511627776, by omega, by go_num, rfl, by omega, by omega, fun h => ?_, HB.out.alloc HB.out.size _⟩
        have h1 := HT.out (by omega)
        rw [tl.flat_succ Ls k (by rw [HAX.out.2.2]; exact hlt), ← HM.out, List.length_append]
        omega
      case measure => simp [intOf]; omega
    · have hno : ∀ wx, Below wr.heap.size wr wx → Below w.heap.size w wx := fun wx h => HB.out.trans (h.mono HB.out.size)
      have HNO := Lib.hid hno; clear hno
      by_cases hbig : 500 < t
      · clear hgo
        have hnb : ¬ t ≤ 500 := by omega
        go_wp2_with (go_at_call 11; refine HAW.out.mono ?_; rintro a w' ⟨rfl, hb⟩; have HB2 := Lib.hid hb; clear hb)
        all_goals
          go_ret
          exact ⟨rfl, HNO.out _ HB2.out⟩
      · have hkn : ¬ k < q := by omega
        obtain rfl : k = q := by omega
        clear hgo hkn
        have ht2 : t ≤ 500 := by omega
        have htl := HT.out ht2
        by_cases h3 : 300 < n
        · have g1 : decide (300 < (n : Int)) = true := decide_eq_true (by omega)
          go_wp2_with (go_at_call 11; refine HAW.out.mono ?_; rintro a w' ⟨rfl, hb⟩; have HB2 := Lib.hid hb; clear hb)
          go_ret
          exact ⟨rfl, HNO.out _ HB2.out⟩
        by_cases h4 : 20 < r
        · have g1 : decide (300 < (n : Int)) = false := decide_eq_false (by omega)
          have g2 : decide (20 < (r : Int)) = true := decide_eq_true (by omega)
          go_wp2_with (go_at_call 11; refine HAW.out.mono ?_; rintro a w' ⟨rfl, hb⟩; have HB2 := Lib.hid hb; clear hb)
          go_ret
          exact ⟨rfl, HNO.out _ HB2.out⟩
        have g1 : decide (300 < (n : Int)) = false := decide_eq_false (by omega)
        have g2 : decide (20 < (r : Int)) = false := decide_eq_false (by omega)
        have hnew := disk.New_any 1048576 wr (by omega)
        have HNEW := Lib.hid hnew; clear hnew
        have HTL := Lib.hid htl; clear htl
        go_upto_region 9 with (go_at_call 12; refine HNEW.out.mono ?_; rintro a w1 ⟨p, rfl, h1, h2⟩; have H1 := Lib.hid (And.intro h1 h2); clear h1 h2)
        clear g1 g2 HAW HNEW
        have hq5 : k ≤ 500 ∧ (tl.flat Ls k).length ≤ 500 := by have := HTL.out; omega
        have HQ5 := Lib.hid hq5
        obtain ⟨wo, rfl⟩ : ∃ wo : World, wo = wr := ⟨_, rfl⟩
        have hLb : ∀ x ∈ L, x < 256 := fun x hx => by
          obtain ⟨j, hj, rfl⟩ := List.getElem_of_mem hx
          have := HAT.out.2.2 j (by rw [← HAT.out.2.1]; exact hj)
          rw [List.getD_eq_getElem?_getD, List.getElem?_eq_getElem hj] at this
          exact this
        have hfi := dk.solo_first tl.F_ok 1048576 A n c L p _ w1 H1.out.1 (HAT.out.1.below (HB.out.trans (H1.out.2.mono HB.out.size)) (Nat.le_refl _)) HAT.out.2.1 hLb (fun k off e h0 hF => by
          obtain ⟨b2, o2, e2, hb2, -⟩ := HAT.out.1 h0
          rw [e] at e2
          obtain rfl : k = b2 := by simpa using congrArg (fun o => o.map Addr.block) e2
          have h1 := hF.1
          have h2 := HB.out.size
          omega) (by omega) (by omega) (by omega)
        have HFI := Lib.hid hfi; clear hfi hLb hq5
        go_upto_region 11 with (first
          | (go_at_call 22; refine HFI.out.mono ?_; rintro a w2 ⟨rfl, ⟨f, fl2, h1⟩, h2⟩; have H2 := Lib.hid (And.intro h1 h2); clear h1 h2)
          | (go_at_call 23; refine (dk.solo_Sync tl.F_ok p 1 _ w2 H2.out.1 (by omega)).mono ?_; rintro a w3 ⟨rfl, ⟨fl3, h1⟩, h2⟩; have H3 := Lib.hid (And.intro h1 h2); clear h1 h2)
          | (go_at_call 24; refine (dk.solo_Dir tl.F_ok p 1 _ w3 H3.out.1 (by omega) (by omega)).mono ?_; rintro a w4 ⟨rfl, h1, h2⟩; have H4 := Lib.hid (And.intro h1 h2); clear h1 h2))
        clear HFI
        obtain ⟨B, hB⟩ : ∃ B, B = wo.heap.size := ⟨_, rfl⟩
        have hbw : Below w.heap.size w w4 ∧ (∀ j, (dk.grow (dk.grow (dk.grow (dk.fresh wo w1) w1 w2) w2 w3) w3 w4) j → B ≤ j) ∧ w.heap.size ≤ B ∧ B ≤ w4.heap.size := by
          have s0 := HB.out.size
          have s1 := H1.out.2.size
          have s2 := H2.out.2.size
          have s3 := H3.out.2.size
          have s4 := H4.out.2.size
          have f1 : ∀ j, (dk.fresh wo w1) j → B ≤ j := fun j hj => by rw [hB]; exact hj.1
          have f2 : ∀ j, (dk.grow (dk.fresh wo w1) w1 w2) j → B ≤ j := fun j hj => hj.1.elim (f1 j) fun q => by omega
          have f3 : ∀ j, (dk.grow (dk.grow (dk.fresh wo w1) w1 w2) w2 w3) j → B ≤ j := fun j hj => hj.1.elim (f2 j) fun q => by omega
          refine ⟨?_, fun j hj => hj.1.elim (f3 j) fun q => by omega, by omega, by omega⟩
          have b1 := HB.out.trans (H1.out.2.mono s0)
          have b2 := b1.trans (H2.out.2.below (B := w.heap.size) (by omega) fun j hj => by have := f1 j hj; omega)
          have b3 := b2.trans (H3.out.2.below (B := w.heap.size) (by omega) fun j hj => by have := f2 j hj; omega)
          exact b3.trans (H4.out.2.below (B := w.heap.size) (by omega) fun j hj => by have := f3 j hj; omega)
        have H5 := Lib.hid (And.intro H4.out.1 hbw); clear hbw
        have hm5 : (w4.alloc (.cells #[] 5)).ownsRow w4.heap.size 5 1 (.slice (some ⟨w4.heap.size, 0, none⟩) 0 0) 0 [] := World.ownsRow_made w4 #[] 0 (Nat.le_refl _) (by unfold maxLen; omega) (by simp)
        have HM5 := Lib.hid hm5; clear hm5
        obtain ⟨i0, hi, hz0, hz1, hz2⟩ := info_parts infoByte
        go_upto_region 12 with (at_builtin; go_loud (refine wpList_app2 _ rfl (.tmp 75) (.tmp 76) 34 rfl w4.heap.size 5 i0 _ 1 1 Try.underlying34 hi hz0 hz1 hz2 rfl (by decide) _ 0 [] rfl HM5.out A n c (byteAt L) rfl (by rw [Nat.mul_one]; exact (HAT.out.1.below H5.out.2.1 (Nat.le_refl _)).alloc _) (fun j _ => byteAt_one L j) (by unfold maxLen; omega) (by omega) (by simp) ?_); intro v5 w5 hown hg hl; rw [List.nil_append, byteAt_cells_n L n HAT.out.2.1, Nat.zero_add] at hown; have hb5 : Below w4.heap.size w4 w5 := ((Below.refl _ w4).alloc (Nat.le_refl _) _).grown hg (by simp) (fun g hg => by cases hg; exact Nat.le_refl _); have H6 := Lib.hid (And.intro hown hb5); clear hown hg hl hb5)
        have hin : ∃ (A5 : Option Addr) (c5 : Nat), v5 = .slice A5 (L ++ tl.flat Ls 0).length c5 ∧ w5.ownsRow B 5 1 v5 (L ++ tl.flat Ls 0).length (u8s (L ++ tl.flat Ls 0)) ∧ dk.Mine B v5 w5 p (dk.solo tl.F 1048576 3 f (L ++ tl.flat Ls 0) n (dk.put (fun _ => none) tl.F (some f)) [] fl3) 2 ∧ Below w.heap.size w w5 ∧ B ≤ w5.heap.size := by
          have e0 : L ++ tl.flat Ls 0 = L := by unfold tl.flat; simp
          rw [e0, HAT.out.2.1]
          have s5 := H6.out.2.size
          obtain ⟨q1, q2⟩ := H5.out.2.2.2
          have hrow : w5.ownsRow B 5 1 v5 n (u8s L) := H6.out.1.mono (by omega)
          obtain ⟨A5, c5, hv5, -⟩ := own_at H6.out.1
          refine ⟨A5, c5, hv5, hrow, ⟨_, ?_, H5.out.2.2.1, fun j hj => by have := hj.2; omega, fun j hj hh => ?_⟩, H5.out.2.1.trans (H6.out.2.mono (by omega)), by omega⟩
          · have h := H5.out.1.below H6.out.2
            rw [HAT.out.2.1] at h
            exact h
          · have h1 := (H6.out.1.lt j hj).1
            have h2 := hh.2
            omega
        have HIN := Lib.hid hin; clear hin
        clear H6 HM5 HNO hB
        have hBw := H5.out.2.2.2.1
        have hk5 := HQ5.out.1
        go_wp2_with fail
        go_loopw [11, 12] (fun v i wx => ∃ (j m : Nat) (A5 : Option Addr) (c5 : Nat) (fl : Nat → FileV), j ≤ k ∧ i = .int .i64 (j : Int) ∧ m ≤ 2 + j ∧ v = .slice A5 (L ++ tl.flat Ls j).length c5 ∧ wx.ownsRow B 5 1 v (L ++ tl.flat Ls j).length (u8s (L ++ tl.flat Ls j)) ∧ dk.Mine B v wx p (dk.solo tl.F 1048576 (3 + (j : Int)) f (L ++ tl.flat Ls j) n (dk.put (fun _ => none) tl.F (some f)) [] fl) m ∧ Below w.heap.size w wx ∧ B ≤ wx.heap.size) (fun _ i _ => k - (intOf i).toNat)
        case atStart =>
          obtain ⟨A5, c5, e1, e2, e3, e4, e5⟩ := HIN.out
          exact ⟨0, 2, A5, c5, fl3, by omega, rfl, by omega, e1, e2, e3, e4, e5⟩
        case round =>
          obtain ⟨j, m, A5, c5, fl, hj, rfl, hm, rfl, hown, hmine, hb, hBr⟩ := hrel
          have HM := Lib.hid (And.intro hown (And.intro hmine hb)); clear hown hmine hb
          have hlenj : (L ++ tl.flat Ls j).length = n + (tl.flat Ls j).length := by rw [List.length_append, HAT.out.2.1]
          obtain ⟨N, hN⟩ : ∃ N, N = (L ++ tl.flat Ls j).length := ⟨_, rfl⟩
          rw [← hN] at HM
          rw [← hN]
          have hN8 : N ≤ 800 := by
            have h1 := tl.flat_le Ls j k hj
            have h2 := HQ5.out.2
            omega
          have hnN : n ≤ N := by omega
          have HN := Lib.hid hN; clear hN hlenj
          by_cases hlt : j < k
          · have hlt' : (j : Int) < (k : Int) := by omega
            obtain ⟨b, off, rfl, hbb, hc⟩ := HAX.out.1 (by omega)
            obtain ⟨Ai, ci, hvi, hli, hci, hati, hbi⟩ := HAX.out.2.1 j hlt
            obtain ⟨M, hM⟩ : ∃ M, M = Ls.getD j [] := ⟨_, rfl⟩
            rw [← hM] at hvi hli hati hbi
            have hfs : tl.flat Ls (j + 1) = tl.flat Ls j ++ M := by rw [tl.flat_succ Ls j (by rw [HAX.out.2.2]; exact hlt), ← hM]
            have hMl : M.length ≤ 500 := by
              have h1 := tl.flat_le Ls (j + 1) k (by omega)
              have h2 := HQ5.out.2
              rw [hfs, List.length_append] at h1
              omega
            have hcw : ∀ wx, Below w.heap.size w wx → wx.cell? ⟨b, off + j, none⟩ = some (.slice Ai M.length ci) := fun wx h => by rw [h.cell (by exact hbb), hc j hlt, hvi]
            have hc1 := hcw wr HM.out.2.2
            unfold maxLen at hci
            obtain ⟨ml, hml⟩ : ∃ ml, ml = M.length := ⟨_, rfl⟩
            rw [← hml] at hc1 hcw hMl hli hati
            have HMM := Lib.hid (And.intro hfs (And.intro hati (And.intro hbi (And.intro hml hcw)))); clear hfs hati hbi hml hcw hM hc hvi
            obtain ⟨F, hd, hFB, hFl, hFv⟩ := HM.out.2.1
            have hap := dk.solo_append tl.F_ok Ai ml ci M p m F wr hd (HMM.out.2.1.below HM.out.2.2 (Nat.le_refl _)) HMM.out.2.2.2.1.symm HMM.out.2.2.1 (fun g off e h0 hF => by
              obtain ⟨b2, o2, e2, hb2, -⟩ := HMM.out.2.1 h0
              rw [e] at e2
              obtain rfl : g = b2 := by simpa using congrArg (fun o => o.map Addr.block) e2
              have := hFB _ hF
              omega) (by rw [← HN.out]; omega) (by omega) (by omega) (by omega) (by show 0 ≤ _; omega) (by omega)
            have HAP := Lib.hid (And.intro hap (And.intro hFB (And.intro hFl hFv))); clear hap hd hFB hFl hFv
            go_upto_region 17 with (go_at_call 22; refine HAP.out.1.mono ?_; rintro a w2 ⟨rfl, ⟨fl', h1⟩, h2⟩; have H7 := Lib.hid (And.intro h1 h2); clear h1 h2)
            have hb2 : Below w.heap.size w w2 := HM.out.2.2.trans (H7.out.2.below (B := w.heap.size) (by omega) fun g hg => by have := HAP.out.2.1 g hg; omega)
            have hc2 := HMM.out.2.2.2.2 w2 hb2
            have hrow := H7.out.2.own HM.out.1 fun g hg => HAP.out.2.2.2 g hg
            have hs2 := H7.out.2.size
            have H8 := Lib.hid (And.intro hrow hb2); clear hrow hb2 hc1
            go_wp2_with (at_builtin; go_loud (refine wpList_app2 _ rfl (.tmp 91) (.tmp 95) 34 rfl B 5 i0 _ 1 1 Try.underlying34 hi hz0 hz1 hz2 rfl (by decide) _ N _ rfl H8.out.1 Ai ml ci (byteAt M) rfl (by rw [Nat.mul_one]; exact HMM.out.2.1.below H8.out.2 (Nat.le_refl _)) (fun j _ => byteAt_one M j) (by unfold maxLen; omega) (by omega) (by omega) ?_); intro v5 w5 hown hg hl; rw [byteAt_cells_n M ml HMM.out.2.2.2.1.symm, ← u8s_append] at hown; have H9 := Lib.hid (And.intro hown (And.intro hg hl)); clear hown hg hl)
            go_roundw
            case rel =>
              have hlist : L ++ tl.flat Ls j ++ M = L ++ tl.flat Ls (j + 1) := by rw [HMM.out.1, List.append_assoc]
              have hown := H9.out.1
              rw [hlist] at hown
              have hlen : N + ml = (L ++ tl.flat Ls (j + 1)).length := by rw [← hlist, List.length_append, ← HN.out, HMM.out.2.2.2.1]
              rw [hlen] at hown
              obtain ⟨A6, c6, hv6, -⟩ := own_at hown
              have hcg := Chg.grown H9.out.2.1
              have hs5 := hcg.size
              have hd5 := H7.out.1
              rw [hlist] at hd5
              have hvo := fun g hg => HAP.out.2.2.2 g hg
              have hvl := fun g hg => (HM.out.1.lt g hg).2
              have hfv : ∀ g, (Value.slice A5 N c5).ownBlock = some g → ¬ dk.grow F wr w2 g := fun g hg hh => hh.1.elim (hvo g hg) fun q => by
                have := hvl g hg
                omega
              refine ⟨j + 1, m + 1, A6, c6, fl', by omega, by go_num, by omega, hv6, hown, ⟨dk.grow F wr w2, ?_, fun g hg => hg.1.elim (HAP.out.2.1 g) fun q => by omega, fun g hg => Nat.lt_of_lt_of_le hg.2 hs5, fun g hg hh => ?_⟩, H8.out.2.trans (hcg.below (B := w.heap.size) (by omega) fun g hg => by have := (HM.out.1.lt g hg).1; omega), by omega⟩
              · have h := hd5.keep hcg fun g hg e => hfv g e hg
                rw [show (3 : Int) + ((j + 1 : Nat) : Int) = 3 + (j : Int) + 1 from by omega]
                exact h
              · rcases H9.out.2.2 with e | e
                · rw [e] at hg
                  exact hfv g hg hh
                · rw [e] at hg
                  have h1 : w2.heap.size = g := by simpa using hg
                  have h2 := hh.2
                  omega
            case measure => simp [intOf]; omega
          · obtain rfl : j = k := by omega
            obtain ⟨S, hS⟩ : ∃ S, S = L ++ tl.flat Ls j := ⟨_, rfl⟩
            rw [← hS] at HM HN
            clear hS hlt
            obtain ⟨F, hd, hFB, hFl, hFv⟩ := HM.out.2.1
            have hcr := dk.solo_Crash tl.F_ok Y r e ps p m F wr hd (HPK.out.chg (chg_of (P := fun _ => False) (HM.out.2.2.mono (Nat.le_refl _))) (fun _ q => q.elim)) (by rw [← HN.out]; exact hnN) (by rw [← HN.out]; omega) (by omega)
            have HCR := Lib.hid hcr; clear hcr
            have HD := Lib.hid (And.intro hd (And.intro hFB (And.intro hFl hFv))); clear hd hFB hFl hFv
            go_upto_region 21 with (go_at_call 20; refine HCR.out.mono ?_; rintro a w5 ⟨q1, E1, kk, m5, rfl, h1, h2, h3, h4, h5, -, h7⟩; have hkN : kk ≤ N := (by rw [HN.out]; exact h3); have H7 := Lib.hid (And.intro h1 (And.intro h4 (And.intro h5 h7))); clear h1 h3 h4 h5 h7)
            have hre := disk.Read_any tl.F q1 E1 _ m5 w5 H7.out.1 (dk.ok_le tl.F_ok) (by rw [H7.out.2.1, List.length_take, ← HN.out]; omega)
            rw [H7.out.2.1, H7.out.2.2.1, List.length_take, ← HN.out, Nat.min_eq_left hkN] at hre
            have HRE := Lib.hid hre; clear hre
            go_upto_region 22 with (go_at_call 16; refine HRE.out.mono ?_; rintro a w6 ⟨v6, rfl, h4, h5⟩; obtain ⟨A6, c6, hv6, hc6, -, hat6⟩ := own_bytes h4; subst hv6; have H8 := Lib.hid (And.intro hat6 (And.intro h5 hc6)); clear h4 h5 hat6 hc6)
            have hb6 : Below wr.heap.size wr w6 := H7.out.2.2.2.trans (H8.out.2.1.mono H7.out.2.2.2.size)
            have hre := disk.Read_any tl.F p _ F m w6 (HD.out.1.below hb6) (dk.ok_le tl.F_ok) (by rw [dk.solo_bytes.1, ← HN.out]; omega)
            rw [dk.solo_bytes.1, dk.solo_bytes.2.1, ← HN.out] at hre
            have HRE2 := Lib.hid (And.intro hre hb6); clear hre hb6 HRE
            go_upto_region 23 with (go_at_call 16; refine HRE2.out.1.mono ?_; rintro a w7 ⟨v7, rfl, h4, h5⟩; obtain ⟨A7, c7, hv7, hc7, -, hat7⟩ := own_bytes h4; subst hv7; have H9 := Lib.hid (And.intro hat7 (And.intro h5 hc7)); clear h4 h5 hat7 hc7)
            have hb7 : Below w.heap.size w w7 := (HM.out.2.2.trans (HRE2.out.2.mono HM.out.2.2.size)).trans (H9.out.2.1.mono (Nat.le_trans HM.out.2.2.size HRE2.out.2.size))
            have hall : At w7 A5 N (byteAt S) := by
              obtain ⟨A8, c8, e8, -, -, h8⟩ := own_bytes HM.out.1
              obtain ⟨rfl, rfl⟩ : A5 = A8 ∧ c5 = c8 := by simpa using e8
              exact h8.below (HRE2.out.2.trans (H9.out.2.1.mono HRE2.out.2.size)) (Nat.le_refl _)
            have hat6 : At w7 A6 kk (byteAt (S.take kk)) := H8.out.1.below H9.out.2.1 (Nat.le_refl _)
            have hpre : At w7 A5 kk (byteAt (S.take kk)) := (hall.le hkN).congr fun j hj => by
              unfold byteAt
              simp [List.getD, hj]
            have hkl : (S.take kk).length = kk := by rw [List.length_take, ← HN.out]; omega
            have hNS := HN.out.symm
            have hc5 : N ≤ c5 := by
              obtain ⟨A8, c8, e8, h8, -⟩ := own_at HM.out.1
              obtain ⟨rfl, rfl⟩ : A5 = A8 ∧ c5 = c8 := by simpa using e8
              exact h8
            obtain ⟨str, hstr⟩ : ∃ str, str = strOf (S.take kk) := ⟨_, rfl⟩
            obtain ⟨stw, hstw⟩ : ∃ stw, stw = strOf S := ⟨_, rfl⟩
            have k1 : ∀ y : Later w7 (fun _ => False), (convert 34 9 (.slice A6 kk c6)).run Try.prog y.1 = .ok (.string str) y.1 := fun y => by rw [hstr]; exact conv_any (P := Try.prog) Try.underlying34 Try.underlying5 Try.underlying9 _ hkl (y.2.at' hat6 fun _ _ _ _ q => q)
            have k2 : ∀ y : Later w7 (fun _ => False), (convert 34 9 (.slice A5 kk c5)).run Try.prog y.1 = .ok (.string str) y.1 := fun y => by rw [hstr]; exact conv_any (P := Try.prog) Try.underlying34 Try.underlying5 Try.underlying9 _ hkl (y.2.at' hpre fun _ _ _ _ q => q)
            have k3 : ∀ y : Later w7 (fun _ => False), (convert 34 9 (.slice A7 N c7)).run Try.prog y.1 = .ok (.string stw) y.1 := fun y => by rw [hstw]; exact conv_any (P := Try.prog) Try.underlying34 Try.underlying5 Try.underlying9 _ hNS (y.2.at' H9.out.1 fun _ _ _ _ q => q)
            have k4 : ∀ y : Later w7 (fun _ => False), (convert 34 9 (.slice A5 N c5)).run Try.prog y.1 = .ok (.string stw) y.1 := fun y => by rw [hstw]; exact conv_any (P := Try.prog) Try.underlying34 Try.underlying5 Try.underlying9 _ hNS (y.2.at' hall fun _ _ _ _ q => q)
            have g5 : decide (n ≤ kk) = true := decide_eq_true h2
            have g6 : decide ((n : Int) ≤ (kk : Int)) = true := decide_eq_true (by omega)
            have g7 : decide (kk ≤ N) = true := decide_eq_true hkN
            have g8 : decide ((kk : Int) ≤ (N : Int)) = true := decide_eq_true (by omega)
            have haw := law4.awake_any w7.drew
            have HAWB := Lib.hid (And.intro haw hb7); clear haw hb7 hall hat6 hpre hkl hNS hstr hstw
            have hS0 : later w7 (fun _ => False) w7.drew := later_of ((Chg.refl _ _).drew)
            refine wp_plan (S := fun w0 => ∃ x : Later w7 (fun _ => False), w0 = x.1) (by kernel_rfl) hS0 ?_
            intro hS' K5 hK5
            have HS := Lib.hid hS'; clear hS' hS0
            refine plan_group [true, true, true, true, true, true, true, true, true, true, true, true, true, true, true, true, true, true, true, true, true, true, true, true, true, true, true] [0, 1, 2, 3, 4, 5, 6, 7, 8, 9, 10, 11, 12, 13, 14, 15, 16, 17, 18, 19, 20, 21, 22, 23, 24, 25, 26] 14 (by dsimp only [sel]) (by rfl) rfl (by kernel_rfl) (by kernel_rfl) HS.out ?_
            (repeat go_big_quiet_step (fail)); refine wpQuiet_nil ?_
            refine plan_one [false, false, false, false, false, false, false, false, false, false, false, false, false, false, false, false, false, false, false, false, false, false, false, false, false, false, false, true] 27 13 (by dsimp only [sel]) (by rfl) rfl (by kernel_rfl) ?_; intro K1 hK1
            have j2 : (convert 34 9 (.slice A5 kk c5)).run Try.prog w7.drew = .ok (.string str) w7.drew := k2 ⟨w7.drew, (Chg.refl _ _).drew⟩
            have j4 : (convert 34 9 (.slice A5 N c5)).run Try.prog w7.drew = .ok (.string stw) w7.drew := k4 ⟨w7.drew, (Chg.refl _ _).drew⟩
            go_wp2_with fail
            refine ⟨by first | exact HS.out | exact fun _ => HS.out, ?_⟩
            refine plan_group [false, false, false, false, false, false, false, false, false, false, false, false, false, false, false, false, false, false, false, false, false, false, false, false, false, false, false, false, true, true, true, true, true, true] [28, 29, 30, 31, 32, 33] 7 (by dsimp only [sel]) (by rfl) rfl (by kernel_rfl) (by kernel_rfl) HS.out ?_
            (repeat go_big_quiet_step (fail)); refine wpQuiet_nil ?_
            refine plan_one [false, false, false, false, false, false, false, false, false, false, false, false, false, false, false, false, false, false, false, false, false, false, false, false, false, false, false, false, false, false, false, false, false, false, true] 34 6 (by dsimp only [sel]) (by rfl) rfl (by kernel_rfl) ?_; intro K1 hK1; go_wp2_with fail
            refine ⟨by first | exact HS.out | exact fun _ => HS.out, ?_⟩
            refine plan_group [false, false, false, false, false, false, false, false, false, false, false, false, false, false, false, false, false, false, false, false, false, false, false, false, false, false, false, false, false, false, false, false, false, false, false, true, true, true] [35, 36, 37] 3 (by dsimp only [sel]) (by rfl) rfl (by kernel_rfl) (by kernel_rfl) HS.out ?_
            (repeat go_big_quiet_step (fail)); refine wpQuiet_nil ?_
            refine plan_one [false, false, false, false, false, false, false, false, false, false, false, false, false, false, false, false, false, false, false, false, false, false, false, false, false, false, false, false, false, false, false, false, false, false, false, false, false, false, true] 38 2 (by dsimp only [sel]) (by rfl) rfl (by kernel_rfl) ?_; intro K1 hK1; go_wp2_with fail
            refine HAWB.out.1.mono ?_
            rintro a w8 ⟨rfl, h8⟩
            have hc8 : Chg w7 w8 (fun _ => False) := ((Chg.refl w7 (fun _ => False)).drew).trans (chg_of h8) fun _ _ q => q
            have H8' := Lib.hid (And.intro (later_of hc8) (HAWB.out.2.trans (hc8.below (B := w.heap.size) HAWB.out.2.size fun _ q => q.elim))); clear h8 hc8
            go_wp2_with fail
            refine ⟨by first | exact H8'.out.1 | exact fun _ => H8'.out.1, ?_⟩
            refine plan_group [false, false, false, false, false, false, false, false, false, false, false, false, false, false, false, false, false, false, false, false, false, false, false, false, false, false, false, false, false, false, false, false, false, false, false, false, false, false, false, true, true] [39, 40] 0 (by dsimp only [sel]) (by rfl) rfl (by kernel_rfl) (by kernel_rfl) H8'.out.1 ?_
            (repeat go_big_quiet_step (fail)); refine wpQuiet_nil ?_
            refine wp_plan_end (by kernel_rfl) ?_
            go_wp2_with fail
            go_ret
            exact ⟨rfl, H8'.out.2⟩
end Go.Proofs.Ythffkbcjidbdaaa

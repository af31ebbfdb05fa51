/- Contracts of cordwainalike.Batch and Batches: what batches weigh. -/
import Derived.Test.YtahncanmfjmfnaaPlanC
import Derived.Test.YtahncanmfjmfnaaBats
import Derived.Test.YtahncanmfjmfnaaAlikeB
namespace Go.Proofs.Ytahncanmfjmfnaa
open Go.RowKit

def Rec.weight (r : Rec) : Int := 1 + (r.key.length : Int) + r.val.length
/-- A batch's weight. -/
def Bat.weight (b : Bat) : Int := min (1 + (b.recs.map Rec.weight).sum) 1099511627776
theorem Rec.weight_pos (r : Rec) : 1 ≤ r.weight := by unfold Rec.weight; omega
theorem weights_ge (rs : List Rec) : (rs.length : Int) ≤ (rs.map Rec.weight).sum := by
  induction rs with
  | nil => simp
  | cons r rs ih =>
    have := r.weight_pos
    simp only [List.map_cons, List.sum_cons, List.length_cons]
    omega
theorem weights_take (rs : List Rec) (k : Nat) (r : Rec) (h : rs[k]? = some r) : ((rs.take (k + 1)).map Rec.weight).sum = ((rs.take k).map Rec.weight).sum + r.weight := by
  obtain ⟨hk, rfl⟩ := List.getElem?_eq_some_iff.1 h
  rw [List.take_succ_eq_append_getElem hk, List.map_append, List.sum_append]
  simp
theorem weights_take_le (rs : List Rec) (k : Nat) : 0 ≤ ((rs.take k).map Rec.weight).sum := by
  have := weights_ge (rs.take k)
  omega
theorem Bat.weight_le (b : Bat) : b.weight ≤ 1099511627776 := by unfold Bat.weight; omega
theorem Bat.weight_pos (b : Bat) : 1 ≤ b.weight := by
  have := weights_ge b.recs
  unfold Bat.weight
  omega
theorem Bat.weight_small {b : Bat} {n : Int} (h : b.weight ≤ n) (hn : n < 1099511627776) : (b.recs.length : Int) < n := by
  have := weights_ge b.recs
  unfold Bat.weight at h
  omega

theorem alike.sum3 (n a b c : Int) : alike.sum n [a, b, c] = min (n + (a + b + c)) 1099511627776 := by
  unfold alike.sum
  simp only [List.sum_cons, List.sum_nil]
  omega

set_option maxRecDepth 20000 in
set_option maxHeartbeats 2000000 in
theorem alike.batch_any (b : Bat) (v : Value) (w : World) (hv : RecsV w v b.recs) :
    Calls Try.prog 37 #[.agg #[.int .i64 b.base, .int .i64 b.last, .int .i64 b.prod, .int .i64 b.epoch, .int .i64 b.seq, v]] w fun e w' => e = .returned (.int .i64 b.weight) ∧ Below w.heap.size w w' := by
  obtain ⟨A, c, V, rfl, hc1, hc2, hV⟩ := id hv
  clear hV
  have hlen : b.recs.length ≤ maxLen := Nat.le_trans hc1 hc2
  unfold maxLen at hlen hc2
  have HV := Lib.hid hv; clear hv
  go_enter Try.func37, Try.ntmps37
  go_wp2_with fail
  obtain ⟨w1, hw1⟩ : ∃ w1, w1 = w.alloc (.cells #[.int .i64 b.base, .int .i64 b.last, .int .i64 b.prod, .int .i64 b.epoch, .int .i64 b.seq, .slice A b.recs.length c] 42) := ⟨_, rfl⟩
  rw [← hw1]
  have hbk : Blk w1 w.heap.size 42 #[.int .i64 b.base, .int .i64 b.last, .int .i64 b.prod, .int .i64 b.epoch, .int .i64 b.seq, .slice A b.recs.length c] := by rw [hw1]; exact Blk.new _ _ _
  have hb1 : Below w.heap.size w w1 := by rw [hw1]; exact (Below.refl _ w).alloc (Nat.le_refl _) _
  clear hw1
  have HBK := Lib.hid hbk; clear hbk
  have HB1 := Lib.hid hb1; clear hb1
  go_loopw [3, 4] (fun n i wr => ∃ j : Nat, j ≤ b.recs.length ∧ i = .int .i64 (j : Int) ∧ n = .int .i64 (min (1 + ((b.recs.take j).map Rec.weight).sum) 1099511627776) ∧ Below w1.heap.size w1 wr) (fun _ i _ => b.recs.length - (intOf i).toNat)
  case atStart => exact ⟨0, by omega, rfl, by simp; omega, Below.refl _ _⟩
  case round =>
    obtain ⟨j, hj, rfl, rfl, hbw⟩ := hrel
    have HBW := Lib.hid hbw; clear hbw
    have hbk2 := (chg_of (P := fun _ => False) HBW.out).blk HBK.out id
    have c5 : wr.cell? ⟨w.heap.size, 5, none⟩ = some (.slice A b.recs.length c) := hbk2.cell 5 rfl
    have HBK2 := Lib.hid hbk2; clear hbk2
    obtain ⟨S, hS⟩ : ∃ S : Int, S = ((b.recs.take j).map Rec.weight).sum := ⟨_, rfl⟩
    have hS0 : 0 ≤ S := by rw [hS]; exact weights_take_le _ _
    rw [← hS]
    have HSE := Lib.hid hS; clear hS
    by_cases hlt : j < b.recs.length
    · obtain ⟨x, hx⟩ : ∃ x, b.recs[j]? = some x := ⟨_, List.getElem?_eq_getElem hlt⟩
      obtain ⟨p, off, c', kv, vv, hA, -, -, hp, -, -, -, d3, -, d5, hk, hv, -, -⟩ := (HV.out.below (HB1.out.trans (HBW.out.mono HB1.out.size)) (Nat.le_refl _)).at' hx
      obtain ⟨rfl, rfl⟩ : A = some ⟨p, off, none⟩ ∧ c = c' := by simpa using hA
      obtain ⟨Ak, ck, rfl, -, hk1, hk2, -⟩ := hk
      obtain ⟨Av, cv, rfl, -, hv1, hv2, -⟩ := hv
      have hkx : (x.key.length : Int) ≤ 9223372036854775807 := by unfold maxLen at hk2; omega
      have hvx : (x.val.length : Int) ≤ 9223372036854775807 := by unfold maxLen at hv2; omega
      have hst := weights_take b.recs j x hx
      rw [← HSE.out] at hst
      have HST := Lib.hid hst; clear hst hA hk1 hk2 hv1 hv2
      have HX := Lib.hid hx; clear hx
      have hmx : min (1 + S) 1099511627776 ≤ 1099511627776 := by omega
      have hmn : 0 ≤ min (1 + S) 1099511627776 := by omega
      obtain ⟨T, hT⟩ : ∃ T : Int, T = min (1 + S) 1099511627776 := ⟨_, rfl⟩
      rw [← hT] at hmx hmn ⊢
      have HT := Lib.hid hT; clear hT
      have c5x : ∀ y : Later wr (fun _ => False), y.1.cell? ⟨w.heap.size, 5, none⟩ = some (.slice (some ⟨p, off, none⟩) b.recs.length c) := fun y => (y.2.blk HBK2.out id).cell 5 rfl
      have d3x : ∀ y : Later wr (fun _ => False), y.1.cell? ⟨p, off + j * 6 + 3, none⟩ = some (.slice Ak x.key.length ck) := fun y => ((y.2.below (Nat.le_refl _) fun _ q => q.elim).cell hp).trans d3
      have d5x : ∀ y : Later wr (fun _ => False), y.1.cell? ⟨p, off + j * 6 + 5, none⟩ = some (.slice Av x.val.length cv) := fun y => ((y.2.below (Nat.le_refl _) fun _ q => q.elim).cell hp).trans d5
      clear d3 d5
      go_wp2_with fail
      have hS0 : later wr (fun _ => False) wr.drew := later_of ((Chg.refl _ _).drew)
      refine wp_plan (S := fun w0 => ∃ x : Later wr (fun _ => False), w0 = x.1) (by kernel_rfl) hS0 ?_
      intro hS K hK
      have HS := Lib.hid hS; clear hS hS0
      refine plan_group [true, true, true, true, true, true, true, true, true, true, true, true, true, true, true] [0, 1, 2, 3, 4, 5, 6, 7, 8, 9, 10, 11, 12, 13, 14] 3 (by dsimp only [sel]) (by rfl) rfl (by kernel_rfl) (by kernel_rfl) HS.out ?_
      (repeat go_big_quiet_step (fail)); refine wpQuiet_nil ?_
      refine plan_one [false, false, false, false, false, false, false, false, false, false, false, false, false, false, false, true] 15 2 (by dsimp only [sel]) (by rfl) rfl (by kernel_rfl) ?_; intro K1 hK1; go_wp2_with fail
      obtain ⟨w2, hw2⟩ : ∃ w2, w2 = (wr.alloc (.cells #[.int .i64 1, .int .i64 x.key.length, .int .i64 x.val.length] 3)).drew := ⟨_, rfl⟩
      rw [← hw2]
      have hat2 : At w2 (some ⟨wr.heap.size, 0, none⟩) 3 (fun q => .int .i64 (([1, (x.key.length : Int), (x.val.length : Int)] : List Int).getD q 0)) := by
        rw [hw2]
        exact ((At.new wr #[.int .i64 1, .int .i64 x.key.length, .int .i64 x.val.length] 3 (n := 3) rfl).drew 1).congr fun q hq => by
          match q, hq with
          | 0, _ => rfl
          | 1, _ => rfl
          | 2, _ => rfl
      have hb2 : Below wr.heap.size wr w2 := by rw [hw2]; exact bdrew ((Below.refl _ wr).alloc (Nat.le_refl _) _) 1
      clear hw2
      have HB2 := Lib.hid hb2; clear hb2
      refine ⟨later_of (chg_of HB2.out), ?_⟩
      have HS2 := Lib.hid (later_of (chg_of (P := fun _ => False) HB2.out))
      refine plan_one [false, false, false, false, false, false, false, false, false, false, false, false, false, false, false, false, true] 16 1 (by dsimp only [sel]) (by rfl) rfl (by kernel_rfl) ?_; intro K1 hK1; go_wp2_with fail
      refine (alike.sum_any T (some ⟨wr.heap.size, 0, none⟩) 3 3 [1, (x.key.length : Int), (x.val.length : Int)] w2 hmn hmx (by omega) rfl hat2 (by intro q hq; simp only [List.mem_cons, List.not_mem_nil, or_false] at hq; omega)).mono ?_
      rw [alike.sum3]
      rintro e w' ⟨rfl, rfl⟩
      clear hat2
      go_wp2_with fail
      refine ⟨HS2.out, ?_⟩
      refine plan_group [false, false, false, false, false, false, false, false, false, false, false, false, false, false, false, false, false, true] [17] 0 (by dsimp only [sel]) (by rfl) rfl (by kernel_rfl) (by kernel_rfl) HS2.out ?_
      (repeat go_big_quiet_step (fail)); refine wpQuiet_nil ?_
      refine wp_plan_end (by kernel_rfl) ?_
      go_wp2
      go_roundw
      case rel =>
        refine ⟨j + 1, by omega, by go_num, num_eq ?_, HBW.out.trans (HB2.out.mono HBW.out.size)⟩
        rw [HT.out, HST.out]
        have := x.weight_pos
        unfold Rec.weight at *
        omega
      case measure => simp [intOf]; omega
    · obtain rfl : j = b.recs.length := by omega
      have hans : b.weight = min (1 + S) 1099511627776 := by rw [HSE.out, List.take_length]; rfl
      have HANS := Lib.hid hans; clear hans
      go_wp2
      go_ret
      exact ⟨by rw [HANS.out]; rfl, HB1.out.trans (HBW.out.mono HB1.out.size)⟩

set_option maxRecDepth 20000 in
set_option maxHeartbeats 2000000 in
/-- What a list of batches weighs: told where it is not above the limit. -/
theorem alike.batches_any (A : Option Addr) (bs : List Bat) (c : Nat) (limit : Int) (w : World) (hat : BatsAt w A bs) (hlen : bs.length ≤ maxLen) (hlim : 0 ≤ limit ∧ limit ≤ 1099511627775) :
    Calls Try.prog 24 #[.slice A bs.length c, .int .i64 limit] w fun e w' => (∃ n : Int, e = .returned (.int .i64 n) ∧ (n ≤ limit → ∀ b ∈ bs, b.weight ≤ n)) ∧ Below w.heap.size w w' := by
  have HAT := Lib.hid hat; clear hat
  unfold maxLen at hlen
  go_enter Try.func24, Try.ntmps24
  go_wp2_with fail
  go_loopw [5, 6] (fun n i wr => ∃ (j : Nat) (T : Int), j ≤ bs.length ∧ i = .int .i64 (j : Int) ∧ n = .int .i64 T ∧ 0 ≤ T ∧ T ≤ 1099511627776 ∧ (∀ b ∈ bs.take j, b.weight ≤ T) ∧ Below w.heap.size w wr) (fun _ i _ => bs.length - (intOf i).toNat)
  case atStart => exact ⟨0, 0, by omega, rfl, rfl, by omega, by omega, fun b hb => by simp at hb, Below.refl _ _⟩
  case round =>
    obtain ⟨j, T, hj, rfl, rfl, hT0, hT1, hle, hbw⟩ := hrel
    have HBW := Lib.hid hbw; clear hbw
    have HLE := Lib.hid hle; clear hle
    by_cases hlt : j < bs.length
    · by_cases hTl : T ≤ limit
      · obtain ⟨x, hx⟩ : ∃ x, bs[j]? = some x := ⟨_, List.getElem?_eq_getElem hlt⟩
        obtain ⟨p, off, v, rfl, hp, d0, d1, d2, d3, d4, d5, hv, -⟩ := (HAT.out.below HBW.out (Nat.le_refl _)).at' hx
        have HV := Lib.hid hv; clear hv
        have HX := Lib.hid hx; clear hx
        go_wp2_with fail
        refine (alike.batch_any x v wr HV.out).mono ?_
        rintro e w2 ⟨rfl, hb2⟩
        have HB2 := Lib.hid (HBW.out.trans (hb2.mono HBW.out.size)); clear hb2
        have hw0 := x.weight_pos
        have hw1 := x.weight_le
        obtain ⟨W, hW⟩ : ∃ W : Int, W = x.weight := ⟨_, rfl⟩
        rw [← hW] at hw0 hw1 ⊢
        have HW := Lib.hid hW; clear hW
        go_wp2_with fail
        refine (alike.sum_any T (some ⟨w2.heap.size, 0, none⟩) 1 1 [W] _ hT0 hT1 (by omega) rfl ((At.one w2 (.int .i64 W) _).congr fun q hq => by
          obtain rfl : q = 0 := by omega
          rfl) (by intro q hq; simp only [List.mem_cons, List.not_mem_nil, or_false] at hq; omega)).mono ?_
        rintro e w' ⟨rfl, rfl⟩
        have hsum : alike.sum T [W] = min (T + W) 1099511627776 := by unfold alike.sum; simp
        rw [hsum]
        go_wp2
        go_roundw
        case rel =>
          refine ⟨j + 1, min (T + W) 1099511627776, by omega, by go_num, rfl, by omega, by omega, fun b hb => ?_, HB2.out.alloc HB2.out.size _⟩
          obtain ⟨hjl, hjx⟩ := List.getElem?_eq_some_iff.1 HX.out
          rw [List.take_succ_eq_append_getElem hjl, hjx] at hb
          rcases List.mem_append.1 hb with h | h
          · have := HLE.out b h
            have := b.weight_le
            omega
          · obtain rfl := List.mem_singleton.1 h
            rw [← HW.out]
            omega
        case measure => simp [intOf]; omega
      · go_wp2
        go_ret
        exact ⟨⟨T, rfl, fun h => absurd h (by omega)⟩, HBW.out⟩
    · obtain rfl : j = bs.length := by omega
      go_wp2
      go_ret
      exact ⟨⟨T, rfl, fun _ b hb => HLE.out b (by rw [List.take_length]; exact hb)⟩, HBW.out⟩
end Go.Proofs.Ytahncanmfjmfnaa

/- All that batches weigh bounds their records and their keys. -/
import Derived.Test.YtnlfdhoabbbheaaRcR
import Derived.Test.YtnlfdhoabbbheaaBatW
namespace Go.Proofs.Ytnlfdhoabbbheaa
open Go.RowKit

set_option maxRecDepth 20000 in
set_option maxHeartbeats 2000000 in
/-- All that batches weigh, one with the other. -/
theorem alike.batches_sum (A : Option Addr) (bs : List Bat) (c : Nat) (limit : Int) (w : World) (hat : BatsAt w A bs) (hlen : bs.length ≤ maxLen) (hlim : 0 ≤ limit ∧ limit ≤ 1099511627775) :
    Calls Try.prog 28 #[.slice A bs.length c, .int .i64 limit] w fun e w' => (∃ n : Int, e = .returned (.int .i64 n) ∧ (n ≤ limit → (bs.map Bat.weight).sum ≤ n)) ∧ Below w.heap.size w w' := by
  have HAT := Lib.hid hat; clear hat
  unfold maxLen at hlen
  go_enter Try.func28, Try.ntmps28
  go_wp2_with fail
  go_loopw [5, 6] (fun n i wr => ∃ (j : Nat) (T : Int), j ≤ bs.length ∧ i = .int .i64 (j : Int) ∧ n = .int .i64 T ∧ 0 ≤ T ∧ T ≤ 1099511627776 ∧ (T ≤ 1099511627775 → ((bs.take j).map Bat.weight).sum ≤ T) ∧ Below w.heap.size w wr) (fun _ i _ => bs.length - (intOf i).toNat)
  case atStart => exact ⟨0, 0, by omega, rfl, rfl, by omega, by omega, fun _ => by simp, Below.refl _ _⟩
  case round =>
    obtain ⟨j, T, hj, rfl, rfl, hT0, hT1, hle, hbw⟩ := hrel
    have HBW := Lib.hid hbw; clear hbw
    have HLE := Lib.hid hle; clear hle
    by_cases hlt : j < bs.length
    · by_cases hTl : T ≤ limit
      · obtain ⟨x, hx⟩ : ∃ x, bs[j]? = some x := ⟨_, List.getElem?_eq_getElem hlt⟩
        obtain ⟨p, off, v, rfl, hp, d0, d1, d2, d3, d4, d5, hv, -⟩ := (HAT.out.below HBW.out (Nat.le_refl _)).at' hx
        have HV := Lib.hid hv; clear hv
        have HX := Lib.hid hx; clear hx
        go_wp2_with fail
        refine (alike.batch_any x v wr HV.out).mono ?_
        rintro e w2 ⟨rfl, hb2⟩
        have HB2 := Lib.hid (HBW.out.trans (hb2.mono HBW.out.size)); clear hb2
        have hw0 := x.weight_pos
        have hw1 := x.weight_le
        obtain ⟨W, hW⟩ : ∃ W : Int, W = x.weight := ⟨_, rfl⟩
        rw [← hW] at hw0 hw1 ⊢
        have HW := Lib.hid hW; clear hW
        go_wp2_with fail
        refine (alike.sum_any T (some ⟨w2.heap.size, 0, none⟩) 1 1 [W] _ hT0 hT1 (by omega) rfl ((At.one w2 (.int .i64 W) _).congr fun q hq => by
          obtain rfl : q = 0 := by omega
          rfl) (by intro q hq; simp only [List.mem_cons, List.not_mem_nil, or_false] at hq; omega)).mono ?_
        rintro e w' ⟨rfl, rfl⟩
        have hsum : alike.sum T [W] = min (T + W) 1099511627776 := by unfold alike.sum; simp
        rw [hsum]
        go_wp2
        go_roundw
        case rel =>
          refine ⟨j + 1, min (T + W) 1099511627776, by omega, by go_num, rfl, by omega, by omega, fun hb => ?_, HB2.out.alloc HB2.out.size _⟩
          obtain ⟨hjl, hjx⟩ := List.getElem?_eq_some_iff.1 HX.out
          have h0 := HLE.out (by omega)
          rw [List.take_succ_eq_append_getElem hjl, hjx, List.map_append, List.sum_append, List.map_cons, List.sum_cons, ← HW.out]
          simp only [List.map_nil, List.sum_nil]
          omega
        case measure => simp [intOf]; omega
      · go_wp2
        go_ret
        exact ⟨⟨T, rfl, fun h => absurd h (by omega)⟩, HBW.out⟩
    · obtain rfl : j = bs.length := by omega
      go_wp2
      go_ret
      exact ⟨⟨T, rfl, fun h => by have h1 := HLE.out (by omega); rw [List.take_length] at h1; exact h1⟩, HBW.out⟩
theorem rc.flat_one (b : Bat) (bs : List Bat) : rc.flat (b :: bs) = b.recs ++ rc.flat bs := by unfold rc.flat; simp
theorem weights_key (rs : List Rec) (r : Rec) (h : r ∈ rs) : (r.key.length : Int) ≤ (rs.map Rec.weight).sum := by
  induction rs with
  | nil => cases h
  | cons x rs ih =>
    have h1 := weights_ge rs
    simp only [List.map_cons, List.sum_cons]
    rcases List.mem_cons.1 h with rfl | h
    · unfold Rec.weight at *
      omega
    · have := ih h
      have := x.weight_pos
      omega
theorem weight_flat : ∀ (bs : List Bat) (S : Int), (bs.map Bat.weight).sum ≤ S → S ≤ 4000 → ((rc.flat bs).length : Int) ≤ S ∧ ∀ r ∈ rc.flat bs, (r.key.length : Int) ≤ S
  | [], S, h, _ => ⟨by simpa [rc.flat] using h, fun r hr => by simp [rc.flat] at hr⟩
  | b :: bs, S, h, hS => by
    simp only [List.map_cons, List.sum_cons] at h
    have hp := b.weight_pos
    have hg := weights_ge b.recs
    have hb : b.weight = min (1 + (b.recs.map Rec.weight).sum) 1099511627776 := rfl
    obtain ⟨h1, h2⟩ := weight_flat bs (S - b.weight) (by omega) (by omega)
    have hl : (rc.flat bs).length ≥ 0 := Nat.zero_le _
    have hbs : 0 ≤ S - b.weight := by omega
    rw [rc.flat_one]
    refine ⟨by rw [List.length_append]; omega, fun r hr => ?_⟩
    rcases List.mem_append.1 hr with hr | hr
    · have := weights_key _ _ hr
      omega
    · have := h2 r hr
      omega
end Go.Proofs.Ytnlfdhoabbbheaa

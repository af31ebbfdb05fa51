/- Contract of the document's Fixed (cordwainref1). -/
import Derived.Test.YtimcpbbcealkiaaByte
import Derived.Test.YtimcpbbcealkiaaWrX
import Derived.OwnWalk
namespace Go.Proofs.Ytimcpbbcealkiaa
open Go.RowKit

theorem wire.be_get (n : Nat) : ∀ (k i : Nat), i < k → (wire.be n k)[i]? = some (n / 256 ^ (k - 1 - i) % 256)
  | 0, i, h => by omega
  | k + 1, 0, _ => by simp [wire.be]
  | k + 1, i + 1, h => by
    simp only [wire.be, List.getElem?_cons_succ]
    rw [wire.be_get n k i (by omega)]
    congr 4
    omega

set_option maxRecDepth 20000 in
set_option maxHeartbeats 800000 in
theorem wire.reffixed_any (n size : Nat) (w : World) (hs1 : 1 ≤ size) (hs8 : size ≤ 8) (hn : (n : Int) ≤ 9223372036854775807) :
    Calls Try.prog 35 #[.int .i64 n, .int .i64 size] w fun e w' => (∃ v, e = .returned v ∧ w'.ownsRow w.heap.size 5 1 v size (u8s (wire.be n size))) ∧ Below w.heap.size w w' := by
  obtain ⟨i0, hi, hz0, hz1, hz2⟩ := info_parts infoByte
  have hu : IntKind.u64.wrap (n : Int) = (n : Int) := by rw [IntKind.wrap_u64]; omega
  go_enter Try.func35, Try.ntmps35
  go_wp2_with (at_make; refine wpList_make_full _ rfl _ _ 23 rfl w.heap.size 5 i0 _ 1 Try.underlying23 hi hz0 hz1 .i64 .i64 _ _ size rfl rfl rfl rfl (by rw [hz2]; omega) (by unfold maxLen; omega) (Nat.le_refl _) ?_; intro w1 hown1 hg1)
  rw [made_zero] at hown1
  have hb1 : Below w.heap.size w w1 := (Below.refl _ w).grown hg1 (Nat.le_refl _) (fun k hk => by cases hk)
  have HO1 := Lib.hid hown1; clear hown1
  have HB1 := Lib.hid hb1; clear hb1 hg1
  go_loopw [6] (fun i wr => ∃ (k : Nat) (M : List Nat), k ≤ size ∧ i = .int .i64 (k : Int) ∧ M.length = size ∧ wr.ownsRow w.heap.size 5 1 (.slice (some ⟨w.heap.size, 0, none⟩) size size) size (u8s M) ∧ (∀ j, j < k → M[size - 1 - j]? = some (n / 256 ^ j % 256)) ∧ Below w.heap.size w wr) (fun i _ => size - (intOf i).toNat)
  case atStart => exact ⟨0, _, by omega, rfl, by simp, HO1.out, fun j h => by omega, HB1.out⟩
  case round =>
    obtain ⟨k, M, hk, rfl, hM, hown, hlow, hb⟩ := hrel
    have HM := Lib.hid hM; clear hM
    have HO := Lib.hid hown; clear hown
    have HLOW := Lib.hid hlow; clear hlow
    have HB := Lib.hid hb; clear hb
    by_cases hlt : k < size
    · have hlt' : (k : Int) < size := by omega
      obtain ⟨d, hd⟩ : ∃ d, d = n / 256 ^ k % 256 := ⟨_, rfl⟩
      have hbyte : IntKind.u8.wrap ((n : Int) / 2 ^ (8 * (k : Int)).toNat) = (d : Int) := by rw [hd]; exact wire.byte_shift n k
      have hbyte2 : (n : Int) / 2 ^ (8 * k) % 256 = (d : Int) := by
        have h := wire.byte_shift n k
        rw [IntKind.wrap_u8, show (8 * (k : Int)).toNat = 8 * k by omega] at h
        rw [h, hd]
      have hmul : IntKind.i64.wrap (8 * (k : Int)) = 8 * (k : Int) := by rw [IntKind.wrap_i64]; omega
      have hmul0 : 0 ≤ 8 * (k : Int) := by omega
      obtain ⟨q, hq⟩ : ∃ q : Nat, (size : Int) - 1 - (k : Int) = (q : Int) := ⟨size - 1 - k, by omega⟩
      have hqs : q = size - 1 - k := by omega
      have hql : q < size := by omega
      have hq0 : (q : Int) < size := by omega
      have hst := HO.out.stored q (.int .u8 (d : Int))
      have hcell : wr.cell? ⟨w.heap.size, q, none⟩ = some (.int .u8 ((M.getD q 0 : Nat) : Int)) := by
        rw [HO.out.cellAt q (by omega)]
        simp [u8s, List.getD, List.getElem?_eq_getElem (show q < M.length by rw [HM.out]; exact hql)]
      have hfr := HO.out.frozenAt q
      have hnew : (u8s M).set q (.int .u8 (d : Int)) = u8s (M.set q d) := by unfold u8s; rw [List.map_set]
      rw [hnew] at hst
      have HST := Lib.hid hst; clear hst hnew
      have hlow2 : ∀ j, j < k + 1 → (M.set q d)[size - 1 - j]? = some (n / 256 ^ j % 256) := fun j hj => by
        by_cases e : j = k
        · subst e
          rw [hqs, List.getElem?_set_self (by rw [HM.out]; omega), hd]
        · rw [List.getElem?_set_ne (by omega)]
          exact HLOW.out j (by omega)
      have HLOW2 := Lib.hid hlow2; clear hlow2 hd hqs
      go_wp2
      go_roundw
      case rel => exact ⟨k + 1, M.set q d, by omega, by go_num, by rw [List.length_set]; exact HM.out, HST.out.1, HLOW2.out, HB.out.grown HST.out.2 HB.out.size (fun g hg => by cases hg; exact Nat.le_refl _)⟩
      case measure => simp [intOf]; omega
    · obtain rfl : k = size := by omega
      have hall : M = wire.be n k := by
        apply List.ext_getElem?
        intro i
        rcases Nat.lt_or_ge i k with h | h
        · rw [wire.be_get n k i h]
          have := HLOW.out (k - 1 - i) (by omega)
          rwa [show k - 1 - (k - 1 - i) = i by omega] at this
        · rw [List.getElem?_eq_none (by rw [HM.out]; exact h), List.getElem?_eq_none (by rw [wire.be_len]; exact h)]
      have HALL := Lib.hid hall; clear hall
      go_wp2
      go_ret
      exact ⟨⟨_, rfl, by rw [← HALL.out]; exact HO.out⟩, HB.out⟩
end Go.Proofs.Ytimcpbbcealkiaa

/- Contract of cordwainalike.Sum, of numbers from 0 on. -/
import Derived.Test.YtkkpbnhagobhmaaProg
import Derived.Test.YtkkpbnhagobhmaaApp2
import Derived.WalkLawsBesides
import Derived.Outline
namespace Go.Proofs.Ytkkpbnhagobhmaa
open Go.RowKit

def alike.sum (n : Int) (xs : List Int) : Int := min (n + xs.sum) 1099511627776
theorem sum_pos {xs : List Int} (h : ∀ x ∈ xs, 0 ≤ x) : 0 ≤ xs.sum := by
  induction xs with
  | nil => simp
  | cons x xs ih =>
    have := ih fun y hy => h y (by simp [hy])
    have := h x (by simp)
    rw [List.sum_cons]; omega
theorem sum_take (xs : List Int) (k : Nat) (h : k < xs.length) : (xs.take (k + 1)).sum = (xs.take k).sum + xs.getD k 0 := by
  rw [List.take_succ_eq_append_getElem h, List.sum_append]; simp [List.getD, List.getElem?_eq_getElem h]
theorem sum_split (xs : List Int) (k : Nat) : xs.sum = (xs.take k).sum + (xs.drop k).sum := by
  rw [← List.sum_append, List.take_append_drop]

set_option maxRecDepth 20000 in
set_option maxHeartbeats 800000 in
theorem alike.sum_any (n : Int) (A : Option Addr) (m c : Nat) (xs : List Int) (w : World) (hn : 0 ≤ n) (hn2 : n ≤ 1099511627776) (hm : m ≤ 1000) (hl : xs.length = m) (hat : At w A m (fun j => .int .i64 (xs.getD j 0))) (hp : ∀ x ∈ xs, 0 ≤ x ∧ x ≤ 9223372036854775807) :
    Calls Try.prog 8 #[.int .i64 n, .slice A m c] w fun e w' => e = .returned (.int .i64 (alike.sum n xs)) ∧ w = w' := by
  have HAT := Lib.hid hat; clear hat
  have HP := Lib.hid hp; clear hp
  have HL := Lib.hid hl; clear hl
  go_enter Try.func8, Try.ntmps8
  go_wp2
  go_loop [0, 5] (fun x i => ∃ (k : Nat) (t : Int), k ≤ m ∧ i = .int .i64 (k : Int) ∧ x = .int .i64 t ∧ 0 ≤ t ∧ t ≤ 1099511627776 ∧ t = n + (xs.take k).sum) (fun _ i => m - (intOf i).toNat)
  case atStart => exact ⟨0, n, by omega, rfl, rfl, hn, hn2, by simp⟩
  case round =>
    obtain ⟨k, t, hk, rfl, rfl, ht0, ht1, ht⟩ := hrel
    have HT := Lib.hid ht; clear ht
    by_cases hlt : k < m
    · obtain ⟨b, off, rfl, hbb, hc⟩ := HAT.out (by omega)
      obtain ⟨x, hx⟩ : ∃ x, x = xs.getD k 0 := ⟨_, rfl⟩
      have hc1 : w.cell? ⟨b, off + k, none⟩ = some (.int .i64 x) := by rw [hc k hlt, hx]
      clear hc
      have hxb : 0 ≤ x ∧ x ≤ 9223372036854775807 := by
        rw [hx]; exact HP.out _ (by simp only [List.getD, List.getElem?_eq_getElem (show k < xs.length by rw [HL.out]; exact hlt), Option.getD_some]; exact List.getElem_mem _)
      obtain ⟨hx0, hx1⟩ := hxb
      have hst := sum_take xs k (by rw [HL.out]; exact hlt)
      rw [← hx] at hst
      have HST := Lib.hid hst; clear hst
      clear hx
      have hnt : ¬ 1099511627776 < t := by omega
      by_cases hbig : 1099511627776 - t < x
      · have hfin : alike.sum n xs = 1099511627776 := by
          have h1 := sum_split xs (k + 1)
          have h2 := sum_pos (xs := xs.drop (k + 1)) fun y hy => (HP.out y (List.mem_of_mem_drop hy)).1
          have h3 := HT.out
          have h4 := HST.out
          unfold alike.sum; omega
        have HFIN := Lib.hid hfin; clear hfin
        go_wp2
        go_ret
        exact ⟨by rw [HFIN.out]; rfl, rfl⟩
      · go_wp2
        go_round
        case rel => exact ⟨k + 1, t + x, by omega, by go_num, rfl, by omega, by omega, by rw [HST.out]; have := HT.out; omega⟩
        case measure => simp [intOf]; omega
    · obtain rfl : k = m := by omega
      have hfin : alike.sum n xs = t := by
        have h3 := HT.out
        rw [List.take_of_length_le (by rw [HL.out]; omega)] at h3
        unfold alike.sum; omega
      have HFIN := Lib.hid hfin; clear hfin
      go_wp2
      go_ret
      exact ⟨by rw [HFIN.out]; rfl, rfl⟩
end Go.Proofs.Ytkkpbnhagobhmaa

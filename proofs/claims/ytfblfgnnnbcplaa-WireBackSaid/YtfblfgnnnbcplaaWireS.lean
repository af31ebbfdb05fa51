/- The law package's small and written (cordwainlaw3). -/
import Derived.Test.YtfblfgnnnbcplaaItem
namespace Go.Proofs.Ytfblfgnnnbcplaa
open Go.RowKit

def total (xs : List Item) : Nat := (xs.map fun x => x.s.size + 10).sum
theorem total_succ (xs : List Item) (k : Nat) (x : Item) (h : xs[k]? = some x) : total (xs.take (k + 1)) = total (xs.take k) + (x.s.size + 10) := by
  have hk : k < xs.length := by
    rcases Nat.lt_or_ge k xs.length with h' | h'
    · exact h'
    · rw [List.getElem?_eq_none h'] at h; cases h
  have hx : xs[k] = x := by rw [List.getElem?_eq_getElem hk] at h; exact Option.some.inj h
  rw [List.take_succ_eq_append_getElem hk, hx]
  simp [total]
theorem total_take (xs : List Item) (k : Nat) : total (xs.take k) ≤ total xs := by
  conv => rhs; rw [← List.take_append_drop k xs]
  unfold total
  rw [List.map_append, List.sum_append]
  omega
theorem total_len (xs : List Item) : 10 * xs.length ≤ total xs := by
  induction xs with
  | nil => simp
  | cons x xs ih => unfold total at *; simp only [List.map_cons, List.sum_cons, List.length_cons]; omega

def SmallPost (w : World) (xs : List Item) (e : Ending) (w' : World) : Prop := (∃ b, e = .returned (.bool b) ∧ (b = true → total xs ≤ 1000)) ∧ Below w.heap.size w w'

set_option maxRecDepth 20000 in
set_option maxHeartbeats 800000 in
theorem wire.small_any (A : Option Addr) (n c : Nat) (xs : List Item) (w : World) (hl : xs.length = n) (hn : n ≤ maxLen) (hit : Items w A xs) :
    Calls Try.prog 22 #[.slice A n c] w (SmallPost w xs) := by
  have HIT := Lib.hid hit; clear hit
  have HL := Lib.hid hl; clear hl
  unfold maxLen at hn
  go_enter Try.func22, Try.ntmps22
  go_wp2
  go_loopw [3, 4] (fun x i wr => ∃ (k : Nat) (t : Int), k ≤ n ∧ i = .int .i64 (k : Int) ∧ x = .int .i64 t ∧ 0 ≤ t ∧ t ≤ 1099511627776 ∧ (t ≤ 1000 → t = (total (xs.take k) : Nat)) ∧ Below w.heap.size w wr) (fun _ i _ => n - (intOf i).toNat)
  case atStart => exact ⟨0, 0, by omega, rfl, rfl, by omega, by omega, by simp [total], Below.refl _ _⟩
  case round =>
    obtain ⟨k, t, hk, rfl, rfl, ht0, ht1, ht, hb⟩ := hrel
    have HT := Lib.hid ht; clear ht
    have HB := Lib.hid hb; clear hb
    by_cases hlt : k < n ∧ t ≤ 1000
    · obtain ⟨hlt, ht2⟩ := hlt
      have hlt' : (k : Int) < n := by omega
      obtain ⟨b, off, x, rfl, hbb, hx, c0, c1, c2, c3, -, -, -, hs⟩ := (HIT.out.below HB.out (Nat.le_refl _)).at' k (by rw [HL.out]; exact hlt)
      have HX := Lib.hid hx; clear hx
      clear c0 c1 c2
      unfold maxLen at hs
      go_wp2_with fail
      refine (alike.sum_any t (some ⟨wr.heap.size, 0, none⟩) 2 2 [(x.s.size : Int), 10] _ ht0 ht1 (by omega) rfl ((At.new wr #[.int .i64 (x.s.size : Int), .int .i64 10] 3 (n := 2) rfl).congr fun j hj => by
        rcases j with _ | _ | j
        · rfl
        · rfl
        · omega) (by simp; omega)).mono ?_
      rintro e w1 ⟨rfl, rfl⟩
      have hsum : alike.sum t [(x.s.size : Int), 10] = min (t + ((x.s.size : Int) + 10)) 1099511627776 := by simp [alike.sum]
      rw [hsum]
      clear hsum
      obtain ⟨u, hu⟩ : ∃ u, u = min (t + ((x.s.size : Int) + 10)) 1099511627776 := ⟨_, rfl⟩
      rw [← hu]
      have hu0 : 0 ≤ u := by omega
      have hu1 : u ≤ 1099511627776 := by omega
      have hnext : u ≤ 1000 → u = (total (xs.take (k + 1)) : Nat) := fun h => by
        have := HT.out ht2
        rw [total_succ xs k x HX.out]
        omega
      have HN := Lib.hid hnext; clear hnext
      clear hu
      go_wp2
      go_roundw
      case rel => exact ⟨k + 1, u, by omega, by go_num, rfl, hu0, hu1, HN.out, HB.out.alloc HB.out.size _⟩
      case measure => simp [intOf]; omega
    · have hfin : (decide (t ≤ 1000) = true → total xs ≤ 1000) := fun h => by
        have h1 : t ≤ 1000 := by simpa using h
        have h2 : k = n := by omega
        have := HT.out h1
        rw [h2, List.take_of_length_le (by rw [HL.out]; exact Nat.le_refl _)] at this
        omega
      have HF := Lib.hid hfin; clear hfin
      by_cases hlt2 : k < n
      · have ht2 : ¬ t ≤ 1000 := by omega
        have hlt' : (k : Int) < n := by omega
        clear hlt
        go_wp2
        go_ret
        exact ⟨⟨_, rfl, fun h => by simp at h⟩, HB.out⟩
      · obtain rfl : k = n := by omega
        clear hlt hlt2
        go_wp2
        go_ret
        exact ⟨⟨_, rfl, HF.out⟩, HB.out⟩
end Go.Proofs.Ytfblfgnnnbcplaa

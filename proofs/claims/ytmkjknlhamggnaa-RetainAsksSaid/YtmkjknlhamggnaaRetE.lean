/- Contract of the law package's made (cordwainlaw11): the same rows, in new memory. -/
import Derived.Test.YtmkjknlhamggnaaRetD
import Derived.Test.YtmkjknlhamggnaaRetI
import Derived.Deep.RegionHeld3
import Derived.Deep.AppendLies
namespace Go.Proofs.Ytmkjknlhamggnaa
open Go.RowKit

set_option maxHeartbeats 1000000 in
theorem ret.made_any (A : Option Addr) (n c : Nat) (V : Nat → Value) (f : Nat → Nat → Int) (w : World) (hn : n ≤ 1099511627776) (hat : At w A (n * 5) V)
    (hV : ∀ i j, i < n → j < 5 → V (i * 5 + j) = .int .i64 (f i j)) :
    Calls Try.prog 23 #[.slice A n c] w fun e w' => (∃ v, e = .returned v ∧ w'.ownsRow w.heap.size 55 5 v n (rows5 f n)) ∧ Below w.heap.size w w' := by
  have HAT := Lib.hid hat; clear hat
  have HV := Lib.hid hV; clear hV
  obtain ⟨i0, hi, hz0, hz1, hz2⟩ := info_parts infoInfo
  go_enter Try.func23, Try.ntmps23
  go_wp2
  go_loopw [3, 4] (fun v i wr => ∃ (k : Nat) (A' : Option Addr) (c' : Nat), k ≤ n ∧ i = .int .i64 k ∧ v = .slice A' k c' ∧ wr.ownsRow w.heap.size 55 5 v k (rows5 f k) ∧ Below w.heap.size w wr) (fun _ i _ => n - (intOf i).toNat)
  case atStart => exact ⟨0, none, 0, by omega, rfl, rfl, World.ownsRow_nil _ _ _ _, Below.refl _ _⟩
  case round =>
    obtain ⟨k, A', c', hk, rfl, rfl, hown, hb⟩ := hrel
    have HOWN := Lib.hid hown; clear hown
    have HB := Lib.hid hb; clear hb
    by_cases hlt : k < n
    · obtain ⟨b, off, rfl, hbb, hc⟩ := HAT.out (by omega)
      have hcx : ∀ j, j < 5 → wr.cell? ⟨b, off + k * 5 + j, none⟩ = some (.int .i64 (f k j)) := fun j hj => by
        rw [HB.out.cell (by exact hbb), Nat.add_assoc, hc _ (by omega), HV.out k j hlt hj]
      clear hc
      have hx0 : wr.cell? ⟨b, off + k * 5, none⟩ = some (.int .i64 (f k 0)) := hcx 0 (by omega)
      have hx1 := hcx 1 (by omega)
      have hx2 := hcx 2 (by omega)
      have hx3 := hcx 3 (by omega)
      have hx4 := hcx 4 (by omega)
      clear hcx
      have hki : (k : Int) < n := by omega
      have hki0 : (0 : Int) ≤ k := by omega
      have ab : (Value.slice A' k c').ownBlock ≠ some b := fun h => by have := (HOWN.out.lt b h).1; omega
      have hbz : b < wr.heap.size := by have := HB.out.size; omega
      have hbz2 : w.heap.size ≤ wr.heap.size := HB.out.size
      go_wp2_with fail
      go_region_held3 (fun w' => w'.cell? ⟨b, off + k * 5, none⟩ = some (.int .i64 (f k 0)) ∧ w'.cell? ⟨b, off + k * 5 + 1, none⟩ = some (.int .i64 (f k 1)) ∧ w'.cell? ⟨b, off + k * 5 + 2, none⟩ = some (.int .i64 (f k 2)) ∧
          w'.cell? ⟨b, off + k * 5 + 3, none⟩ = some (.int .i64 (f k 3)) ∧ w'.cell? ⟨b, off + k * 5 + 4, none⟩ = some (.int .i64 (f k 4)))
        (first
          | go_keep
          | (go_split_ands
             refine ⟨?_, ?_, ?_, ?_, ?_⟩
             all_goals (rw [hgrow.cell_far _ (by simp; omega) (Ne.symm ab)]; assumption)))
        ((refine step_append_lies _ (by rfl) _ _ _ (by rfl) w.heap.size 55 i0 _ 5 40 Try.underlying50 hi hz0 hz1 hz2 rfl (by omega) (.slice A' k c') k (rows5 f k) (by rfl) ((HOWN.out.alloc _).drew)
            ⟨wr.heap.size, 0, none⟩ 1 1 [.int .i64 (f k 0), .int .i64 (f k 1), .int .i64 (f k 2), .int .i64 (f k 3), .int .i64 (f k 4)] (by rfl) (by rfl) (World.news_of_block (cs := #[.int .i64 (f k 0), .int .i64 (f k 1), .int .i64 (f k 2), .int .i64 (f k 3), .int .i64 (f k 4)]) (t := 55) (fr := (0, 0)) (heap_alloc_new wr _)) (by simp [Value.oneCell'])
            (by omega) (by unfold maxLen; omega) (by omega) (by simp; omega) (wr.heap.size + 1) (by simp) ?_; intro gg cap w1 hown1 hgrow hat hlt))
      have hb1 : Below w.heap.size w w1 := ((HB.out.alloc HB.out.size _).drew).grown hgrow (by have := HB.out.size; simp; omega) (fun g hg => (HOWN.out.lt g hg).1)
      have HB1 := Lib.hid hb1; clear hb1
      have HOWN1 := Lib.hid hown1; clear hown1
      clear hgrow hat
      go_wp2
      go_roundw
      case rel => exact ⟨k + 1, some ⟨gg, 0, none⟩, cap, by omega, by go_num, rfl, by rw [rows5_succ]; exact HOWN1.out, HB1.out⟩
      case measure => simp [intOf]; omega
    · obtain rfl : k = n := by omega
      go_wp2
      go_ret
      exact ⟨⟨_, rfl, HOWN.out⟩, HB.out⟩

/-- The document's Sum, as it goes on: held at every step. -/
def ret.rsum (f : Nat → Nat → Int) : Nat → Int
  | 0 => 0
  | k + 1 => min (ret.rsum f k + min (max (f k 2) 0) 1125899906842624) 1125899906842624
theorem ret.rsum_bd (f : Nat → Nat → Int) (k : Nat) : 0 ≤ ret.rsum f k ∧ ret.rsum f k ≤ 1125899906842624 := by
  induction k with
  | zero => simp [ret.rsum]
  | succ k ih => rw [ret.rsum]; omega

set_option maxHeartbeats 800000 in
theorem ret.refsum_any (A : Option Addr) (n c : Nat) (V : Nat → Value) (f : Nat → Nat → Int) (w : World) (hn : n ≤ 9223372036854775807) (hat : At w A (n * 5) V) (hV : ∀ i, i < n → V (i * 5 + 2) = .int .i64 (f i 2)) :
    Calls Try.prog 31 #[.slice A n c] w fun e w' => e = .returned (.int .i64 (ret.rsum f n)) ∧ w = w' := by
  have HAT := Lib.hid hat; clear hat
  have HV := Lib.hid hV; clear hV
  go_enter Try.func31, Try.ntmps31
  go_wp2
  go_loop [3, 4] (fun s i => ∃ k : Nat, k ≤ n ∧ i = .int .i64 k ∧ s = .int .i64 (ret.rsum f k)) (fun _ i => n - (intOf i).toNat)
  case atStart => exact ⟨0, by omega, rfl, rfl⟩
  case round =>
    obtain ⟨k, hk, rfl, rfl⟩ := hrel
    have hsb := ret.rsum_bd f k
    by_cases hlt : k < n
    · obtain ⟨b, off, rfl, hbb, hc⟩ := HAT.out (by omega)
      have hc2 : w.cell? ⟨b, off + k * 5 + 2, none⟩ = some (.int .i64 (f k 2)) := by rw [Nat.add_assoc, hc _ (by omega), HV.out k hlt]
      clear hc
      have hs : ret.rsum f (k + 1) = min (ret.rsum f k + min (max (f k 2) 0) 1125899906842624) 1125899906842624 := rfl
      have HS := Lib.hid hs; clear hs
      go_wp2
      all_goals
        go_round
        case rel => exact ⟨k + 1, by omega, by go_num, num_eq (by rw [HS.out]; omega)⟩
        case measure => simp [intOf]; omega
    · obtain rfl : k = n := by omega
      go_wp2
      go_ret
      exact ⟨rfl, rfl⟩
end Go.Proofs.Ytmkjknlhamggnaa


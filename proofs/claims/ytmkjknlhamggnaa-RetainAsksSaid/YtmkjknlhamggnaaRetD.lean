/- Contracts of the law package's small and made (cordwainlaw11), and of the document's Sum (cordwainref10). -/
import Derived.Test.YtmkjknlhamggnaaRetT
import Derived.StillTailTactics
namespace Go.Proofs.Ytmkjknlhamggnaa
open Go.RowKit

def ret.most : Int := 1125899906842624
def ret.Small (f : Nat → Nat → Int) (n : Nat) (now : Int) : Prop :=
  n ≤ 60 ∧ 0 ≤ now ∧ now ≤ 1125899906842624 ∧ ∀ i, i < n → 0 ≤ f i 4 ∧ f i 4 ≤ 1125899906842624 ∧ 0 ≤ f i 3 ∧ f i 3 ≤ 1125899906842624
def SomeBool (p : Prop) (e : Ending) : Prop := ∃ b : Bool, e = .returned (.bool b) ∧ (b = true → p)
theorem SomeBool.yes {p : Prop} (h : p) {b : Bool} : SomeBool p (.returned (.bool b)) := ⟨b, rfl, fun _ => h⟩
theorem SomeBool.no {p : Prop} : SomeBool p (.returned (.bool false)) := ⟨false, rfl, fun h => by cases h⟩

set_option maxHeartbeats 800000 in
theorem ret.small_any (A : Option Addr) (n c : Nat) (V : Nat → Value) (f : Nat → Nat → Int) (now : Int) (w : World) (hn : n ≤ 9223372036854775807) (hat : At w A (n * 5) V)
    (hV : ∀ i j, i < n → j < 5 → V (i * 5 + j) = .int .i64 (f i j)) :
    Calls Try.prog 21 #[.slice A n c, .int .i64 now] w fun e w' => SomeBool (ret.Small f n now) e ∧ w = w' := by
  have HAT := Lib.hid hat; clear hat
  have HV := Lib.hid hV; clear hV
  by_cases hin : n ≤ 60 ∧ 0 ≤ now ∧ now ≤ 1125899906842624
  · obtain ⟨h1, h2, h3⟩ := hin
    go_enter Try.func21, Try.ntmps21
    go_wp2
    go_loop [5] (fun i => ∃ k : Nat, k ≤ n ∧ i = .int .i64 k ∧ (∀ j, j < k → 0 ≤ f j 4 ∧ f j 4 ≤ 1125899906842624 ∧ 0 ≤ f j 3 ∧ f j 3 ≤ 1125899906842624)) (fun i => n - (intOf i).toNat)
    case atStart => exact ⟨0, by omega, rfl, fun j hj => absurd hj (by omega)⟩
    case round =>
      obtain ⟨k, hk, rfl, hle⟩ := hrel
      have HLE := Lib.hid hle; clear hle
      by_cases hlt : k < n
      · obtain ⟨b, off, rfl, hbb, hc⟩ := HAT.out (by omega)
        have hc4 : w.cell? ⟨b, off + k * 5 + 4, none⟩ = some (.int .i64 (f k 4)) := by rw [Nat.add_assoc, hc _ (by omega), HV.out k 4 hlt (by omega)]
        have hc3 : w.cell? ⟨b, off + k * 5 + 3, none⟩ = some (.int .i64 (f k 3)) := by rw [Nat.add_assoc, hc _ (by omega), HV.out k 3 hlt (by omega)]
        clear hc
        by_cases hok : 0 ≤ f k 4 ∧ f k 4 ≤ 1125899906842624 ∧ 0 ≤ f k 3 ∧ f k 3 ≤ 1125899906842624
        · obtain ⟨o1, o2, o3, o4⟩ := hok
          go_wp2
          go_round
          case rel => exact ⟨k + 1, by omega, by go_num, le_step (p := fun j => 0 ≤ f j 4 ∧ f j 4 ≤ 1125899906842624 ∧ 0 ≤ f j 3 ∧ f j 3 ≤ 1125899906842624) HLE.out ⟨o1, o2, o3, o4⟩⟩
          case measure => simp [intOf]; omega
        · have HOK := Lib.hid hok; clear hok
          go_wp2
          all_goals first
            | (go_ret; exact ⟨SomeBool.no, rfl⟩)
            | (exfalso; have := HOK.out; omega)
      · obtain rfl : k = n := by omega
        go_wp2
        go_ret
        exact ⟨SomeBool.yes ⟨h1, h2, h3, HLE.out⟩, rfl⟩
  · go_enter Try.func21, Try.ntmps21
    go_wp2
    all_goals first
      | (exfalso; omega)
      | (go_ret; exact ⟨SomeBool.no, rfl⟩)

/-- Rows of five numbers, one behind the other. -/
def rows5 (f : Nat → Nat → Int) (n : Nat) : List Value := (List.range n).flatMap fun i => [.int .i64 (f i 0), .int .i64 (f i 1), .int .i64 (f i 2), .int .i64 (f i 3), .int .i64 (f i 4)]
theorem rows5_succ (f : Nat → Nat → Int) (n : Nat) : rows5 f (n + 1) = rows5 f n ++ [.int .i64 (f n 0), .int .i64 (f n 1), .int .i64 (f n 2), .int .i64 (f n 3), .int .i64 (f n 4)] := by
  unfold rows5; rw [List.range_succ, List.flatMap_append]; simp
theorem rows5_len (f : Nat → Nat → Int) (n : Nat) : (rows5 f n).length = n * 5 := by
  induction n with
  | zero => rfl
  | succ n ih => rw [rows5_succ, List.length_append, ih]; simp; omega
theorem rows5_get (f : Nat → Nat → Int) (n i j : Nat) (h : i < n) (hj : j < 5) : (rows5 f n).getD (i * 5 + j) undef = .int .i64 (f i j) := by
  induction n with
  | zero => omega
  | succ n ih =>
    rw [rows5_succ]
    have hl := rows5_len f n
    by_cases e : i = n
    · subst e
      simp only [List.getD]
      rw [List.getElem?_append_right (by omega), hl, show i * 5 + j - i * 5 = j by omega]
      have hj' : j = 0 ∨ j = 1 ∨ j = 2 ∨ j = 3 ∨ j = 4 := by omega
      rcases hj' with rfl | rfl | rfl | rfl | rfl <;> rfl
    · have := ih (by omega)
      simp only [List.getD] at this ⊢
      rw [List.getElem?_append_left (by omega)]; exact this
end Go.Proofs.Ytmkjknlhamggnaa

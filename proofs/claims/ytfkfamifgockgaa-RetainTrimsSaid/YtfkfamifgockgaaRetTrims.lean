/- The walk of the law RetainTrims: it answers true, whatever the input. -/
import Derived.Test.YtfkfamifgockgaaRetT
import Derived.Test.YtfkfamifgockgaaRetW
namespace Go.Proofs.Ytfkfamifgockgaa
open Go.RowKit

theorem infoInfo : (Try.prog.info? 51).map (fun i => (i.zero, i.size, i.bytes)) = some (some (.agg #[.int .i64 0, .int .i64 0, .int .i64 0, .int .i64 0, .int .i64 0]), 5, 40) := by kernel_rfl

def ret.S (z : List Int) (k : Nat) : Int := (z.take k).sum
theorem ret.S_succ (z : List Int) (k : Nat) (h : k < z.length) : ret.S z (k + 1) = ret.S z k + z.getD k 0 := by
  unfold ret.S
  rw [List.take_succ_eq_append_getElem h, List.sum_append]
  simp [List.getD, List.getElem?_eq_getElem h]
theorem ret.S_bd (z : List Int) (k : Nat) (hk : k ≤ z.length) (h : ∀ j, j < k → 0 ≤ z.getD j 0 ∧ z.getD j 0 ≤ 1000) : 0 ≤ ret.S z k ∧ ret.S z k ≤ 1000 * k := by
  induction k with
  | zero => simp [ret.S]
  | succ k ih =>
    have := ih (by omega) fun j hj => h j (by omega)
    have h2 := h k (by omega)
    rw [ret.S_succ z k (by omega)]
    omega
def ret.cells (z : List Int) (k : Nat) : List Value := (List.range k).flatMap fun i => [.int .i64 (ret.S z i), .int .i64 (ret.S z (i + 1)), .int .i64 0, .int .i64 0, .int .i64 0]
theorem ret.cells_succ (z : List Int) (k : Nat) : ret.cells z (k + 1) = ret.cells z k ++ [.int .i64 (ret.S z k), .int .i64 (ret.S z (k + 1)), .int .i64 0, .int .i64 0, .int .i64 0] := by
  unfold ret.cells; rw [List.range_succ, List.flatMap_append]; simp
theorem ret.cells_len (z : List Int) (k : Nat) : (ret.cells z k).length = k * 5 := by
  induction k with
  | zero => rfl
  | succ k ih => rw [ret.cells_succ, List.length_append, ih]; simp; omega
theorem ret.cells_next (z : List Int) (k i : Nat) (h : i < k) : (ret.cells z k).getD (i * 5 + 1) undef = .int .i64 (ret.S z (i + 1)) := by
  induction k with
  | zero => omega
  | succ k ih =>
    rw [ret.cells_succ]
    have hl := ret.cells_len z k
    by_cases e : i = k
    · subst e
      simp only [List.getD]
      rw [List.getElem?_append_right (by omega), hl, show i * 5 + 1 - i * 5 = 1 by omega]; rfl
    · have := ih (by omega)
      simp only [List.getD] at this ⊢
      rw [List.getElem?_append_left (by omega)]; exact this

set_option maxHeartbeats 1000000 in
theorem ret.lawTrims (A : Option Addr) (n c : Nat) (z : List Int) (start : Int) (w : World) (hz : z.length = n ∧ n ≤ c ∧ c ≤ maxLen) (hat : At w A n (fun j => .int .i64 (z.getD j 0))) :
    Calls Try.prog 7 #[.slice A n c, .int .i64 start] w fun e w' => e = .returned (.bool true) ∧ Below w.heap.size w w' := by
  obtain ⟨hz, hnc, hcm⟩ := hz
  unfold maxLen at hcm
  by_cases hbig : 40 < n
  · go_enter Try.func7, Try.ntmps7
    go_wp2_with (go_at_call 21; refine (ret.awake_any _).mono ?_; rintro e w' ⟨rfl, hb⟩)
    go_ret
    exact ⟨rfl, hb⟩
  · have HAT := Lib.hid hat; clear hat
    have HZ := Lib.hid hz; clear hz
    obtain ⟨i0, hi, hz0, hz1, hz2⟩ := info_parts infoInfo
    go_enter Try.func7, Try.ntmps7
    go_wp2
    go_loopw [5, 6, 7] (fun v a i wr => ∃ k : Nat, k ≤ n ∧ i = .int .i64 k ∧ a = .int .i64 (ret.S z k) ∧ (∀ j, j < k → 0 ≤ z.getD j 0 ∧ z.getD j 0 ≤ 1000) ∧
        (∃ A' c', v = .slice A' k c') ∧ wr.ownsRow w.heap.size 51 5 v k (ret.cells z k) ∧ Below w.heap.size w wr) (fun _ _ i _ => n - (intOf i).toNat)
    case atStart => exact ⟨0, by omega, rfl, rfl, fun j hj => absurd hj (by omega), ⟨none, 0, rfl⟩, World.ownsRow_nil _ _ _ _, Below.refl _ _⟩
    case round =>
      obtain ⟨k, hk, rfl, rfl, hle, ⟨A', c', rfl⟩, hown, hb⟩ := hrel
      have HLE := Lib.hid hle; clear hle
      have HOWN := Lib.hid hown; clear hown
      have HB := Lib.hid hb; clear hb
      by_cases hlt : k < n
      · obtain ⟨b, off, rfl, hbb, hc⟩ := HAT.out (by omega)
        have hc1 : wr.cell? ⟨b, off + k, none⟩ = some (.int .i64 (z.getD k 0)) := by
          rw [HB.out.cell (by exact hbb), hc _ (by omega)]
        clear hc
        obtain ⟨x, hx⟩ : ∃ x, x = z.getD k 0 := ⟨_, rfl⟩
        rw [← hx] at hc1
        have HX := Lib.hid hx; clear hx
        have hsb := ret.S_bd z k (by have := HZ.out; omega) HLE.out
        have hk1 : (k : Int) ≤ 40 := by omega
        by_cases hok : 0 ≤ x ∧ x ≤ 1000
        · obtain ⟨hx0, hx1⟩ := hok
          have hS : ret.S z (k + 1) = ret.S z k + x := by rw [ret.S_succ z k (by have := HZ.out; omega), HX.out]
          have HS := Lib.hid hS; clear hS
          go_wp2_with (at_builtin; refine wpList_append_own _ rfl (.tmp 33) (.tmp 42) 43 rfl w.heap.size 51 i0 _ 5 40 Try.underlying43 hi hz0 hz1 hz2 rfl (by decide) _ _ _ rfl (HOWN.out.alloc _) ⟨wr.heap.size, 0, none⟩ 1 1 [.int .i64 (ret.S z k), .int .i64 (ret.S z k + x), .int .i64 0, .int .i64 0, .int .i64 0] rfl rfl ?c1 ?c2 ?c3 ?c4 ?c5 ?_)
          case c1 =>
            intro j u hj
            match j, hj with
            | 0, hj => simp at hj; subst hj; simp [add_none]
            | 1, hj => simp at hj; subst hj; simp [add_none]
            | 2, hj => simp at hj; subst hj; simp [add_none]
            | 3, hj => simp at hj; subst hj; simp [add_none]
            | 4, hj => simp at hj; subst hj; simp [add_none]
          case c2 =>
            intro u hu
            simp at hu
            rcases hu with rfl | rfl | rfl <;> rfl
          case c3 => unfold maxLen; omega
          case c4 => omega
          case c5 => have := HB.out.size; simp; omega
          intro v' w1 hown' hgrow _
          obtain ⟨A2, c2, rfl, _, _⟩ := own_at hown'
          have hb1 : Below w.heap.size w w1 := (HB.out.alloc HB.out.size _).grown hgrow (by have := HB.out.size; simp; omega) (fun g hg => (HOWN.out.lt g hg).1)
          have hc2 : w1.cell? ⟨b, off + k, none⟩ = some (.int .i64 x) := by
            rw [hb1.cell (by exact hbb), ← HB.out.cell (by exact hbb)]; exact hc1
          have HB1 := Lib.hid hb1; clear hb1
          have HOWN1 := Lib.hid hown'; clear hown'
          have HG := Lib.hid hgrow; clear hgrow
          go_wp2
          go_roundw
          case rel =>
            refine ⟨k + 1, by omega, by go_num, num_eq (by rw [HS.out]), le_step (p := fun j => 0 ≤ z.getD j 0 ∧ z.getD j 0 ≤ 1000) HLE.out (by have := HX.out; omega), ⟨A2, c2, rfl⟩, ?_, HB1.out⟩
            rw [ret.cells_succ, HS.out]
            exact HOWN1.out
          case measure => simp [intOf]; omega
        · go_wp2_with (go_at_call 21; refine (ret.awake_any _).mono ?_; rintro e w' ⟨rfl, hb⟩)
          all_goals
            go_ret
            exact ⟨rfl, HB.out.trans (Below.mono (by assumption) HB.out.size)⟩
      · obtain rfl : k = n := by omega
        have hat2 := own_at HOWN.out
        obtain ⟨A3, c3, he, hc3, hat3⟩ := hat2
        injection he with he1 he2 he3
        subst he1; subst he3
        have HAT3 := Lib.hid hat3; clear hat3
        have HC := Lib.hid hc3; clear hc3
        clear he2
        go_wp2_with fail
        refine (ret.trim_any _ _ _ _ (fun i => ret.S z (i + 1)) _ _ (by omega) HAT3.out (fun i hi => ret.cells_next z _ i hi)).mono ?_
        rintro e w' ⟨⟨t, rfl, ht1, ht2, ht3⟩, rfl⟩
        have HT2 := Lib.hid ht2; clear ht2
        have HT3 := Lib.hid ht3; clear ht3
        by_cases hk0 : k = 0
        · subst hk0
          obtain rfl : t = 0 := by omega
          go_wp2
          go_loop [9] (fun j => j = .int .i64 0) (fun _ => 0)
          case atStart => rfl
          case round =>
            obtain rfl := hrel
            go_wp2_with (go_at_call 21; refine (ret.awake_any _).mono ?_; rintro e w' ⟨rfl, hb⟩)
            go_ret
            exact ⟨rfl, HB.out.trans (Below.mono (by assumption) HB.out.size)⟩
        · have g1 : t < k := by omega
          have g2 : 0 < k := by omega
          go_wp2
          go_loop [9] (fun j => ∃ m : Nat, m ≤ t ∧ j = .int .i64 m) (fun j => t - (intOf j).toNat)
          case atStart => exact ⟨0, by omega, rfl⟩
          case round =>
            obtain ⟨m, hm, rfl⟩ := hrel
            obtain ⟨b, off, rfl, hbb, hc⟩ := HAT3.out (by omega)
            by_cases hmt : m < t
            · have hc1 : wr.cell? ⟨b, off + m * 5 + 1, none⟩ = some (.int .i64 (ret.S z (m + 1))) := by
                rw [Nat.add_assoc, hc _ (by omega)]; exact congrArg some (ret.cells_next z _ _ (by omega))
              clear hc
              have hle := HT2.out m hmt
              go_wp2
              go_round
              case rel => exact ⟨m + 1, by omega, by go_num⟩
              case measure => simp [intOf]; omega
            · have hc1 : wr.cell? ⟨b, off + t * 5 + 1, none⟩ = some (.int .i64 (ret.S z (t + 1))) := by
                rw [Nat.add_assoc, hc _ (by omega)]; exact congrArg some (ret.cells_next z _ _ (by omega))
              clear hc
              have hnx : t + 1 < k → start < ret.S z (t + 1) := HT3.out
              by_cases hlast : t + 1 < k
              · have hlast' : ¬ ((k : Int) ≤ (t : Int) + 1) := by omega
                have hst := hnx hlast
                clear hnx
                go_wp2_with (go_at_call 21; refine (ret.awake_any _).mono ?_; rintro e w' ⟨rfl, hb⟩)
                go_ret
                exact ⟨rfl, HB.out.trans (Below.mono (by assumption) HB.out.size)⟩
              · have hlast' : (k : Int) ≤ (t : Int) + 1 := by omega
                clear hnx
                go_wp2_with (go_at_call 21; refine (ret.awake_any _).mono ?_; rintro e w' ⟨rfl, hb⟩)
                go_ret
                exact ⟨rfl, HB.out.trans (Below.mono (by assumption) HB.out.size)⟩
end Go.Proofs.Ytfkfamifgockgaa

/- The walk of the law RetainOver: it answers true, whatever the input. -/
import Derived.Test.YtfkfamifgockgaaRetE
namespace Go.Proofs.Ytfkfamifgockgaa
open Go.RowKit

/-- The sum of m numbers from i on. -/
def psum (B : Nat → Int) (i : Nat) : Nat → Int
  | 0 => 0
  | m + 1 => psum B i m + B (i + m)
theorem psum_cons (B : Nat → Int) (i m : Nat) : psum B i (m + 1) = B i + psum B (i + 1) m := by
  induction m with
  | zero => simp [psum]
  | succ m ih => rw [psum, ih, psum]; rw [show i + 1 + m = i + (m + 1) by omega]; omega
theorem psum_bd (B : Nat → Int) (i m : Nat) (h : ∀ j, j < m → 0 ≤ B (i + j) ∧ B (i + j) ≤ 1099511627776) : 0 ≤ psum B i m ∧ psum B i m ≤ 1099511627776 * m := by
  induction m with
  | zero => simp [psum]
  | succ m ih =>
    have := ih fun j hj => h j (by omega)
    have := h m (by omega)
    rw [psum]; omega
theorem ret.suf_psum (B : Nat → Int) (n d : Nat) (hd : d ≤ n) (hn : n ≤ 60) (h : ∀ j, j < n → 0 ≤ B j ∧ B j ≤ 1099511627776) : ret.suf B n d = psum B (n - d) d := by
  induction d with
  | zero => rfl
  | succ d ih =>
    have hi := ih (by omega)
    have hp := psum_bd B (n - d) d fun j hj => h _ (by omega)
    have hb := h (n - (d + 1)) (by omega)
    rw [ret.suf, hi, psum_cons, show n - (d + 1) + 1 = n - d by omega]
    unfold ret.held
    omega
theorem ret.rsum_psum (f : Nat → Nat → Int) (i m : Nat) (hm : m ≤ 60) (h : ∀ j, j < m → 0 ≤ f (i + j) 2 ∧ f (i + j) 2 ≤ 1099511627776) : ret.rsum (fun j => f (i + j)) m = psum (f · 2) i m := by
  induction m with
  | zero => rfl
  | succ m ih =>
    have hi := ih (by omega) fun j hj => h j (by omega)
    have hp := psum_bd (f · 2) i m fun j hj => h j (by omega)
    have hb := h m (by omega)
    rw [ret.rsum, hi, psum]
    omega
theorem ret.rsum_suf (f : Nat → Nat → Int) (n i : Nat) (hi : i ≤ n) (hn : n ≤ 60) (h : ∀ j, j < n → 0 ≤ f j 2 ∧ f j 2 ≤ 1099511627776) : ret.rsum (fun j => f (i + j)) (n - i) = ret.suf (f · 2) n (n - i) := by
  rw [ret.rsum_psum f i (n - i) (by omega) fun j hj => h _ (by omega), ret.suf_psum _ n (n - i) (by omega) hn h, show n - (n - i) = i by omega]

set_option maxRecDepth 100000 in
set_option maxHeartbeats 1000000 in
theorem ret.lawOver (A : Option Addr) (n c : Nat) (V : Nat → Value) (f : Nat → Nat → Int) (bytes age now : Int) (w : World) (hn : n ≤ c ∧ c ≤ maxLen) (hat : At w A (n * 5) V)
    (hV : ∀ i j, i < n → j < 5 → V (i * 5 + j) = .int .i64 (f i j)) :
    Calls Try.prog 6 #[.slice A n c, .int .i64 bytes, .int .i64 age, .int .i64 now] w fun e w' => e = .returned (.bool true) ∧ Below w.heap.size w w' := by
  obtain ⟨hnc, hcm⟩ := hn
  unfold maxLen at hcm
  have HAT := Lib.hid hat; clear hat
  have HV := Lib.hid hV; clear hV
  go_enter Try.func6, Try.ntmps6
  go_wp2_with fail
  refine (ret.small_any A n c V f now w (by omega) HAT.out HV.out).mono ?_
  rintro e w' ⟨⟨s, rfl, hs⟩, rfl⟩
  by_cases hin : s = true ∧ 0 ≤ bytes ∧ bytes ≤ 1125899906842624 ∧ 0 ≤ age ∧ age ≤ 1125899906842624
  · obtain ⟨rfl, hb1, hb2, ha1, ha2⟩ := hin
    obtain ⟨hn60, hw1, hw2, hmost⟩ := hs rfl
    clear hs
    have HM := Lib.hid hmost; clear hmost
    have d1 : decide (bytes < 0) = false := by simp; omega
    have d2 : decide (1125899906842624 < bytes) = false := by simp; omega
    have d3 : decide (age < 0) = false := by simp; omega
    have d4 : decide (1125899906842624 < age) = false := by simp; omega
    go_wp2
    go_loop [9] (fun i => ∃ k : Nat, k ≤ n ∧ i = .int .i64 k ∧ (∀ j, j < k → 0 ≤ f j 2 ∧ f j 2 ≤ 1099511627776)) (fun i => n - (intOf i).toNat)
    case atStart => exact ⟨0, by omega, rfl, fun j hj => absurd hj (by omega)⟩
    case round =>
      obtain ⟨k, hk, rfl, hle⟩ := hrel
      have HLE := Lib.hid hle; clear hle
      by_cases hlt : k < n
      · obtain ⟨b, off, rfl, hbb, hc⟩ := HAT.out (by omega)
        have hc2 : w.cell? ⟨b, off + k * 5 + 2, none⟩ = some (.int .i64 (f k 2)) := by rw [Nat.add_assoc, hc _ (by omega), HV.out k 2 hlt (by omega)]
        clear hc
        by_cases hok : 0 ≤ f k 2 ∧ f k 2 ≤ 1099511627776
        · obtain ⟨o1, o2⟩ := hok
          go_wp2
          go_round
          case rel => exact ⟨k + 1, by omega, by go_num, le_step (p := fun j => 0 ≤ f j 2 ∧ f j 2 ≤ 1099511627776) HLE.out ⟨o1, o2⟩⟩
          case measure => simp [intOf]; omega
        · have HOK := Lib.hid hok; clear hok
          go_wp2_with (go_at_call 21; refine (ret.awake_any _).mono ?_; rintro e w' ⟨rfl, hb⟩)
          all_goals first
            | (go_ret; exact ⟨rfl, by assumption⟩)
            | (exfalso; have := HOK.out; omega)
      · obtain rfl : k = n := by omega
        clear hk hlt
        go_wp2_with fail
        refine (ret.made_any A k c V f w (by omega) HAT.out HV.out).mono ?_
        rintro e w1 ⟨⟨v, rfl, hown⟩, hb1⟩
        obtain ⟨A1, c1, rfl, hc1, hat1⟩ := own_at hown
        clear hown
        have HB1 := Lib.hid hb1; clear hb1
        have HAT1 := Lib.hid hat1; clear hat1
        clear hc1
        go_wp2_with fail
        refine (ret.front_any A1 k c1 f _ _ _ _ _ _ _ _ _ _ _ w1 (by omega) HAT1.out (fun i j hi hj => rows5_get f k i j hi hj) (fun i hi => ⟨(HM.out i hi).1, (HM.out i hi).2.1⟩) hw1 hw2 (by omega)).mono ?_
        rintro e w2 ⟨⟨t, rfl, ht1, ht2, ht3⟩, hb2⟩
        have HT2 := Lib.hid ht2; clear ht2
        have HT3 := Lib.hid ht3; clear ht3
        have HB2 := Lib.hid hb2; clear hb2
        have hbb2 : Below w.heap.size w w2 := HB1.out.trans (HB2.out.mono HB1.out.size)
        have HBB := Lib.hid hbb2; clear hbb2
        have hat2 : At w2 A (k * 5) V := HAT.out.below HBB.out (Nat.le_refl _)
        have HAT2 := Lib.hid hat2; clear hat2
        by_cases hk0 : k = 0
        · subst hk0
          obtain rfl : t = 0 := by omega
          go_wp2
          go_loop [12] (fun j => j = .int .i64 0) (fun _ => 0)
          case atStart => rfl
          case round =>
            obtain rfl := hrel
            go_wp2_with (go_at_call 21; refine (ret.awake_any _).mono ?_; rintro e w' ⟨rfl, hb⟩)
            go_ret
            exact ⟨rfl, HBB.out.trans (Below.mono (by assumption) HBB.out.size)⟩
        · have g1 : t < k := by omega
          have g2 : 0 < k := by omega
          have d5 : decide ((t : Int) < 0) = false := by simp
          have d6 : decide (k ≤ t) = false := by simp; omega
          have d7 : ((k : Int) == 0) = false := by simp; omega
          go_wp2
          have hz : ∀ m, m < k → ret.rsum (fun j => f (m + j)) (k - m) = ret.suf (f · 2) k (k - m) := fun m hm => ret.rsum_suf f k m (by omega) hn60 HLE.out
          have HZ := Lib.hid hz; clear hz
          go_loop [12] (fun j => ∃ m : Nat, m ≤ t ∧ j = .int .i64 m) (fun j => t - (intOf j).toNat)
          case atStart => exact ⟨0, by omega, rfl⟩
          case round =>
            obtain ⟨m, hm, rfl⟩ := hrel
            obtain ⟨b, off, rfl, hbb, hc⟩ := HAT2.out (by omega)
            have hslice : ∀ i, i < k → At w2 (some ⟨b, off + i * 5, none⟩) ((k - i) * 5) (fun j => V (i * 5 + j)) := fun i hi _ => ⟨b, off + i * 5, rfl, hbb, fun j hj => by rw [Nat.add_assoc]; exact hc _ (by omega)⟩
            have HSL := Lib.hid hslice; clear hslice
            have hmk : m < k := by omega
            have hcap : c ≠ m := by omega
            have hmc : m < c := by omega
            by_cases hmt : m < t
            · have hc4 : w2.cell? ⟨b, off + m * 5 + 4, none⟩ = some (.int .i64 (f m 4)) := by
                rw [Nat.add_assoc, hc _ (by omega), HV.out m 4 (by omega) (by omega)]
              clear hc
              have hgo := HT2.out m hmt
              simp only [ret.goes, Bool.or_eq_true, decide_eq_true_eq] at hgo
              have HGO := Lib.hid hgo; clear hgo
              have hm4 := HM.out m hmk
              by_cases hby : 0 < bytes
              · go_wp2_with fail
                refine (ret.refsum_any _ (k - m) _ _ (fun j => f (m + j)) w2 (by omega) (HSL.out m hmk) (fun i hi => ?_)).mono ?_
                · show V (m * 5 + (i * 5 + 2)) = _
                  rw [show m * 5 + (i * 5 + 2) = (m + i) * 5 + 2 by omega]; exact HV.out (m + i) 2 (by omega) (by omega)
                rintro e w' ⟨rfl, rfl⟩
                rw [HZ.out m hmk]
                by_cases q1 : bytes < ret.suf (f · 2) k (k - m)
                · go_wp2
                  go_round
                  case rel => exact ⟨m + 1, by omega, by go_num⟩
                  case measure => simp [intOf]; omega
                · have q2 : 0 < age := by have := HGO.out; omega
                  have q3 : age < now - f m 4 := by have := HGO.out; omega
                  go_wp2
                  go_round
                  case rel => exact ⟨m + 1, by omega, by go_num⟩
                  case measure => simp [intOf]; omega
              · have q2 : 0 < age := by have := HGO.out; omega
                have q3 : age < now - f m 4 := by have := HGO.out; omega
                go_wp2
                go_round
                case rel => exact ⟨m + 1, by omega, by go_num⟩
                case measure => simp [intOf]; omega
            · obtain rfl : m = t := by omega
              have hc4 : w2.cell? ⟨b, off + m * 5 + 4, none⟩ = some (.int .i64 (f m 4)) := by
                rw [Nat.add_assoc, hc _ (by omega), HV.out m 4 (by omega) (by omega)]
              clear hc
              have hm4 := HM.out m hmk
              by_cases hlast : m + 1 < k
              · have hl2 : (m : Int) + 1 < k := by omega
                have hgo := HT3.out hlast
                simp only [ret.goes, Bool.or_eq_false_iff, decide_eq_false_iff_not] at hgo
                have HGO := Lib.hid hgo; clear hgo
                by_cases hby : 0 < bytes
                · go_wp2_with fail
                  refine (ret.refsum_any _ (k - m) _ _ (fun j => f (m + j)) w2 (by omega) (HSL.out m hmk) (fun i hi => ?_)).mono ?_
                  · show V (m * 5 + (i * 5 + 2)) = _
                    rw [show m * 5 + (i * 5 + 2) = (m + i) * 5 + 2 by omega]; exact HV.out (m + i) 2 (by omega) (by omega)
                  rintro e w' ⟨rfl, rfl⟩
                  rw [HZ.out m hmk]
                  go_wp2_with (go_at_call 21; refine (ret.awake_any _).mono ?_; rintro e w' ⟨rfl, hb⟩)
                  all_goals first
                    | (exfalso; have := HGO.out; omega)
                    | (go_ret; exact ⟨rfl, HBB.out.trans (Below.mono (by assumption) HBB.out.size)⟩)
                · go_wp2_with (go_at_call 21; refine (ret.awake_any _).mono ?_; rintro e w' ⟨rfl, hb⟩)
                  all_goals first
                    | (exfalso; have := HGO.out; omega)
                    | (go_ret; exact ⟨rfl, HBB.out.trans (Below.mono (by assumption) HBB.out.size)⟩)
              · have hl2 : ¬ ((m : Int) + 1 < k) := by omega
                go_wp2_with (go_at_call 21; refine (ret.awake_any _).mono ?_; rintro e w' ⟨rfl, hb⟩)
                go_ret
                exact ⟨rfl, HBB.out.trans (Below.mono (by assumption) HBB.out.size)⟩
  · have HIN := Lib.hid hin; clear hin
    clear hs
    cases s
    · go_wp2_with (go_at_call 21; refine (ret.awake_any _).mono ?_; rintro e w' ⟨rfl, hb⟩)
      go_ret
      exact ⟨rfl, by assumption⟩
    · go_wp2_with (go_at_call 21; refine (ret.awake_any _).mono ?_; rintro e w' ⟨rfl, hb⟩)
      all_goals first
        | (go_ret; exact ⟨rfl, by assumption⟩)
        | (exfalso; have := HIN.out; simp at this; omega)
end Go.Proofs.Ytfkfamifgockgaa

/- producer: contract of Add, whatever it answers. -/
import Derived.Test.YtgkocnnkknodhaaPrD
namespace Go.Proofs.Ytgkocnnkknodhaa
open Go.RowKit

/-- What Add answers of a producer's row; whether there is a table. -/
def prod.ans (has : Bool) (r : Option PRow) (P ep seq n : Int) : Int :=
  if P ≤ 0 then 0 else if (prod.chk r P ep seq n).2.2 ≠ 0 then (prod.chk r P ep seq n).2.2 else if (prod.chk r P ep seq n).2.1 then 9 else if has = false ∨ n = 0 then 10 else 0
/-- It adds. -/
def prod.adds (r : Option PRow) (P ep seq n : Int) : Prop := 0 < P ∧ (prod.chk r P ep seq n).2.2 = 0 ∧ (prod.chk r P ep seq n).2.1 = false ∧ 0 < n

theorem prod.add_low (p : Option Addr) (b0 b1 P ep seq : Int) (A : Option Addr) (n c : Nat) (w : World) (hP : P ≤ 0) :
    Calls Try.prog 32 #[.pointer p, .agg #[.int .i64 b0, .int .i64 b1, .int .i64 P, .int .i64 ep, .int .i64 seq, .slice A n c]] w fun e w' => e = .returned (.int .i64 0) ∧ Below w.heap.size w w' := by
  go_enter Try.func32, Try.ntmps32
  go_wp2
  go_ret
  refine ⟨rfl, ?_⟩
  go_grown

set_option maxRecDepth 20000 in
set_option maxHeartbeats 1000000 in
theorem prod.add_no (p : Option Addr) (N : Nat) (g : Int → Option PRow) (Bs : Nat → Prop) (b0 b1 P ep seq : Int) (A : Option Addr) (n c : Nat) (w : World) (hT : PTabN w p N g Bs) (hP : intOk P) (hP0 : 0 < P)
    (hno : (prod.chk (g P) P ep seq n).2.2 ≠ 0 ∨ (prod.chk (g P) P ep seq n).2.1 = true ∨ p = none ∨ n = 0) :
    Calls Try.prog 32 #[.pointer p, .agg #[.int .i64 b0, .int .i64 b1, .int .i64 P, .int .i64 ep, .int .i64 seq, .slice A n c]] w
      fun e w' => e = .returned (.int .i64 (prod.ans p.isSome (g P) P ep seq n)) ∧ Below w.heap.size w w' := by
  have hchk := fun wx (hb : Below w.heap.size w wx) => prod.check_all p N g Bs b0 b1 P ep seq A n c wx (by cases p with | none => exact hT | some a => exact (let ⟨t, h1, h2⟩ := hT; ⟨t, h1, h2.below hb⟩)) hP
  have hans : prod.ans p.isSome (g P) P ep seq n = if (prod.chk (g P) P ep seq n).2.2 ≠ 0 then (prod.chk (g P) P ep seq n).2.2 else if (prod.chk (g P) P ep seq n).2.1 then 9 else 10 := by
    unfold prod.ans
    rw [if_neg (by omega)]
    split
    · rfl
    · split
      · rfl
      · rw [if_pos]
        rcases hno with h | h | h | h
        · contradiction
        · contradiction
        · exact .inl (by rw [h]; rfl)
        · exact .inr (by omega)
  generalize prod.chk (g P) P ep seq n = x at *
  obtain ⟨x0, x1, x2⟩ := x
  dsimp only at hno hans
  clear hT
  have HCHK := Lib.hid hchk; clear hchk
  have HANS := Lib.hid hans; clear hans
  rcases Decidable.em (x2 = 0) with h2 | h2
  · subst h2
    cases x1 with
    | true =>
      clear hno
      go_enter Try.func32, Try.ntmps32
      go_wp2_with fail
      refine (HCHK.out _ ((Below.refl _ w).alloc (Nat.le_refl _) _)).mono ?_
      rintro e w2 ⟨rfl, hb2⟩
      have HB2 := Lib.hid (((Below.refl _ w).alloc (Nat.le_refl _) _).trans (hb2.mono (by simp))); clear hb2
      unfold prod.tup
      go_wp2
      go_ret
      exact ⟨by rw [HANS.out]; rfl, HB2.out⟩
    | false =>
      rcases hno with h | h | rfl | rfl
      · exact absurd rfl h
      · cases h
      · go_enter Try.func32, Try.ntmps32
        go_wp2_with fail
        refine (HCHK.out _ ((Below.refl _ w).alloc (Nat.le_refl _) _)).mono ?_
        rintro e w2 ⟨rfl, hb2⟩
        have HB2 := Lib.hid (((Below.refl _ w).alloc (Nat.le_refl _) _).trans (hb2.mono (by simp))); clear hb2
        unfold prod.tup
        go_wp2
        go_ret
        exact ⟨by rw [HANS.out]; rfl, HB2.out⟩
      · cases p with
        | none =>
          go_enter Try.func32, Try.ntmps32
          go_wp2_with fail
          refine (HCHK.out _ ((Below.refl _ w).alloc (Nat.le_refl _) _)).mono ?_
          rintro e w2 ⟨rfl, hb2⟩
          have HB2 := Lib.hid (((Below.refl _ w).alloc (Nat.le_refl _) _).trans (hb2.mono (by simp))); clear hb2
          unfold prod.tup
          go_wp2
          go_ret
          exact ⟨by rw [HANS.out]; rfl, HB2.out⟩
        | some a =>
          go_enter Try.func32, Try.ntmps32
          go_wp2_with fail
          obtain ⟨w1, hw1⟩ : ∃ w1, w1 = w.alloc (.cells #[.int .i64 b0, .int .i64 b1, .int .i64 P, .int .i64 ep, .int .i64 seq, .slice A 0 c] 46) := ⟨_, rfl⟩
          rw [← hw1]
          have hbk : Blk w1 w.heap.size 46 #[.int .i64 b0, .int .i64 b1, .int .i64 P, .int .i64 ep, .int .i64 seq, .slice A 0 c] := by rw [hw1]; exact Blk.new _ _ _
          have hb1 : Below w.heap.size w w1 := by rw [hw1]; exact (Below.refl _ w).alloc (Nat.le_refl _) _
          clear hw1
          refine (HCHK.out w1 hb1).mono ?_
          rintro e w2 ⟨rfl, hb2⟩
          have c5 : w2.cell? ⟨w.heap.size, 5, none⟩ = some (.slice A 0 c) := ((chg_of (P := fun _ => False) hb2).blk hbk id).cell 5 rfl
          have HB2 := Lib.hid (hb1.trans (hb2.mono hb1.size)); clear hb2 hb1 hbk
          unfold prod.tup
          go_wp2
          go_ret
          exact ⟨by rw [HANS.out]; rfl, HB2.out⟩
  · have hd : (x2 != 0) = true := by simpa using h2
    have H2 := Lib.hid h2; clear h2 hno
    go_enter Try.func32, Try.ntmps32
    go_wp2_with fail
    refine (HCHK.out _ ((Below.refl _ w).alloc (Nat.le_refl _) _)).mono ?_
    rintro e w2 ⟨rfl, hb2⟩
    have HB2 := Lib.hid (((Below.refl _ w).alloc (Nat.le_refl _) _).trans (hb2.mono (by simp))); clear hb2
    unfold prod.tup
    go_wp2
    go_ret
    exact ⟨by rw [HANS.out, if_pos H2.out]; rfl, HB2.out⟩

/-- What a table holds behind an Add, and how many rows. -/
noncomputable def prod.after (g : Int → Option PRow) (P ep seq n base : Int) : Int → Option PRow := open Classical in if prod.adds (g P) P ep seq n then prod.put g P ep ⟨seq, n, base⟩ else g
noncomputable def prod.many (N : Nat) (g : Int → Option PRow) (P ep seq n : Int) : Nat := open Classical in if prod.adds (g P) P ep seq n then prod.cnt N (g P) else N

theorem prod.chk_ok {r : Option PRow} {P ep seq n : Int} (h1 : (prod.chk r P ep seq n).2.2 = 0) (h2 : (prod.chk r P ep seq n).2.1 = false) : prod.chk r P ep seq n = (0, false, 0) := by
  unfold prod.chk at *
  by_cases hP : P ≤ 0
  · rw [if_pos hP]
  · rw [if_neg hP] at h1 h2 ⊢
    cases r with
    | none =>
      dsimp only at *
      split
      · rfl
      · rename_i h; rw [if_neg h] at h1; cases h1
    | some r =>
      dsimp only at *
      split
      · rename_i h; rw [if_pos h] at h1; cases h1
      · rename_i h
        rw [if_neg h] at h1 h2
        split
        · rename_i h'
          rw [if_pos h'] at h1 h2
          split
          · rfl
          · rename_i h3; rw [if_neg h3] at h1; cases h1
        · rename_i h'
          rw [if_neg h'] at h1 h2
          split
          · rfl
          · rename_i h3
            rw [if_neg h3] at h1 h2
            cases hf : r.last.find? (prod.hit seq n) with
            | some x => rw [hf] at h2; cases h2
            | none =>
              rw [hf] at h1
              dsimp only at h1 ⊢
              split at h1 <;> cases h1

theorem prod.add_any (t N : Nat) (g : Int → Option PRow) (Bs : Nat → Prop) (b0 b1 P ep seq : Int) (A : Option Addr) (n c : Nat) (w : World) (hT : PTab w t N g Bs) (hP : intOk P)
    (hn2 : n ≤ 1099511627776) (hep : intOk ep) (hsq : 0 ≤ seq ∧ seq ≤ 4611686018427387904) (hb0 : intOk b0) (hN : N < maxLen) :
    Calls Try.prog 32 #[.pointer (some ⟨t, 0, none⟩), .agg #[.int .i64 b0, .int .i64 b1, .int .i64 P, .int .i64 ep, .int .i64 seq, .slice A n c]] w
      fun e w' => e = .returned (.int .i64 (prod.ans true (g P) P ep seq n)) ∧ PTab w' t (prod.many N g P ep seq n) (prod.after g P ep seq n b0) (fun k => Bs k ∨ w.heap.size ≤ k) ∧ Chg w w' Bs := by
  have hkeep : ∀ w', Below w.heap.size w w' → ¬ prod.adds (g P) P ep seq n → PTab w' t (prod.many N g P ep seq n) (prod.after g P ep seq n b0) (fun k => Bs k ∨ w.heap.size ≤ k) ∧ Chg w w' Bs := fun w' hb hno => by
    refine ⟨?_, chg_of hb⟩
    unfold prod.many prod.after
    rw [if_neg hno, if_neg hno]
    exact (hT.below hb).mono fun k h => .inl h
  by_cases hP0 : P ≤ 0
  · refine (prod.add_low _ b0 b1 P ep seq A n c w hP0).mono ?_
    rintro e w' ⟨rfl, hb⟩
    exact ⟨by unfold prod.ans; rw [if_pos hP0], hkeep w' hb fun h => by have := h.1; omega⟩
  · by_cases hq : prod.adds (g P) P ep seq n
    · obtain ⟨q1, q2, q3, q4⟩ := hq
      have hok := prod.chk_ok q2 q3
      refine (prod.add_ok t N g Bs b0 b1 P ep seq A n c w hT hP q1 hok (by omega) hn2 hep hsq hb0 hN).mono ?_
      rintro e w' ⟨rfl, h1, h2⟩
      refine ⟨?_, ?_, h2⟩
      · unfold prod.ans
        rw [if_neg hP0, hok]
        simp
        omega
      · unfold prod.many prod.after
        rw [if_pos ⟨q1, q2, q3, q4⟩, if_pos ⟨q1, q2, q3, q4⟩]
        exact h1
    · refine (prod.add_no (some ⟨t, 0, none⟩) N g Bs b0 b1 P ep seq A n c w ⟨t, rfl, hT⟩ hP (by omega) ?_).mono ?_
      · unfold prod.adds at hq
        by_cases h1 : (prod.chk (g P) P ep seq n).2.2 = 0
        · by_cases h2 : (prod.chk (g P) P ep seq n).2.1 = true
          · exact .inr (.inl h2)
          · refine .inr (.inr (.inr ?_))
            simp only [Bool.not_eq_true] at h2
            by_cases h3 : n = 0
            · exact h3
            · exact absurd ⟨by omega, h1, h2, by omega⟩ hq
        · exact .inl h1
      · rintro e w' ⟨rfl, hb⟩
        exact ⟨rfl, hkeep w' hb hq⟩
end Go.Proofs.Ytgkocnnkknodhaa

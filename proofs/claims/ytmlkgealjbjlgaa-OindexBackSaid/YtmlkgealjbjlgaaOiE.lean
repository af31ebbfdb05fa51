/- Contract of oindex.Encode. -/
import Derived.Test.YtmlkgealjbjlgaaOiA
import Derived.Test.YtmlkgealjbjlgaaWrX
import Derived.Test.YtmlkgealjbjlgaaWrD
namespace Go.Proofs.Ytmlkgealjbjlgaa
open Go.RowKit

/-- The entry ahead of entry k; entry k may not stand there. -/
def oi.pre (f : Nat → Nat → Int) : Nat → Nat → Int
  | 0, _ => -1
  | k + 1, j => f k j
def oi.bad (f : Nat → Nat → Int) (k : Nat) : Prop := f k 0 ≤ oi.pre f k 0 ∨ f k 1 ≤ oi.pre f k 1
theorem oi.pre_ge (f : Nat → Nat → Int) : ∀ k, (∀ j, j < k → ¬ oi.bad f j) → -1 ≤ oi.pre f k 0 ∧ -1 ≤ oi.pre f k 1
  | 0, _ => ⟨Int.le_refl _, Int.le_refl _⟩
  | k + 1, h => by
    have ih := oi.pre_ge f k fun j hj => h j (by omega)
    have hk := h k (by omega)
    unfold oi.bad at hk
    show -1 ≤ f k 0 ∧ -1 ≤ f k 1
    omega
/-- Entries, as bytes. -/
def oi.enc1 (f : Nat → Nat → Int) (k : Nat) : List Nat := wire.be (f k 0).toNat 8 ++ wire.be (f k 1).toNat 8
def oi.enc (f : Nat → Nat → Int) : Nat → List Nat
  | 0 => []
  | k + 1 => oi.enc f k ++ oi.enc1 f k
theorem oi.enc1_len (f : Nat → Nat → Int) (k : Nat) : (oi.enc1 f k).length = 16 := by unfold oi.enc1; rw [List.length_append, wire.be_len, wire.be_len]
theorem oi.enc_len (f : Nat → Nat → Int) (n : Nat) : (oi.enc f n).length = 16 * n := by
  induction n with
  | zero => rfl
  | succ n ih => rw [oi.enc, List.length_append, ih, oi.enc1_len]; omega
theorem oi.fit8 {n : Int} (h : 0 ≤ n) : wire.fit n 8 = true := by
  unfold wire.fit
  simp
  omega

theorem ownsRow_base2 {W : World} {b b' : Nat} {e : TypeId} {size : Nat} {v : Value} {k : Nat} {xs : List Value} (h : W.ownsRow b e size v k xs) (hb : b' ≤ b) : W.ownsRow b' e size v k xs := by
  refine ⟨h.1, ?_⟩
  rcases h.2 with h2 | ⟨g, cap, cur, h1, h3, h4⟩
  · exact .inl h2
  · exact .inr ⟨g, cap, cur, h1, Nat.le_trans hb h3, h4⟩
def oi.EncPost (w : World) (f : Nat → Nat → Int) (n : Nat) (e : Ending) (w' : World) : Prop :=
  (((∀ j, j < n → ¬ oi.bad f j) ∧ ∃ v, e = .returned (.tuple #[v, .int .i64 0]) ∧ w'.ownsRow w.heap.size 5 1 v (oi.enc f n).length (u8s (oi.enc f n))) ∨
    ((∃ k, k < n ∧ oi.bad f k ∧ ∀ j, j < k → ¬ oi.bad f j) ∧ e = .returned (.tuple #[.slice none 0 0, .int .i64 1]))) ∧ Below w.heap.size w w'

/-- As the loop goes: the entry ahead at p, the writer behind it. -/
def oi.EncRel (w : World) (p : Nat) (f : Nat → Nat → Int) (k : Nat) (wr : World) : Prop :=
  ∃ v, Blk wr p 78 #[.int .i64 (oi.pre f k 0), .int .i64 (oi.pre f k 1)] ∧ Wr wr (p + 1) (p + 1) v (oi.enc f k) false ∧ Below w.heap.size w wr ∧ ∀ j, j < k → ¬ oi.bad f j

set_option maxRecDepth 20000 in
set_option maxHeartbeats 1000000 in
theorem oi.encode_any (A : Option Addr) (n c : Nat) (f : Nat → Nat → Int) (w : World) (hn : n ≤ 1000) (hat : At2 w A n f) (hf : ∀ i j, i < n → j < 2 → -9223372036854775808 ≤ f i j ∧ f i j ≤ 9223372036854775807) :
    Calls Try.prog 20 #[.slice A n c] w (oi.EncPost w f n) := by
  have HAT := Lib.hid hat; clear hat
  have HF := Lib.hid hf; clear hf
  go_enter Try.func20, Try.ntmps20
  go_wp2
  go_loopw [13] (fun i wr => ∃ k : Nat, k ≤ n ∧ i = .int .i64 (k : Int) ∧ oi.EncRel w w.heap.size f k wr) (fun i _ => n - (intOf i).toNat)
  case atStart =>
    refine ⟨0, by omega, rfl, .slice none 0 0, ?_, ?_, ((Below.refl _ w).alloc (Nat.le_refl _) _).alloc (by simp) _, fun j hj => absurd hj (by omega)⟩
    · exact (Below.heap_alloc _ _ _ (by simp)).trans (Blk.new w 78 #[.int .i64 (-1), .int .i64 (-1)])
    · have := Wr.new (w.alloc (.cells #[.int .i64 (-1), .int .i64 (-1)] 78))
      rw [World.size_alloc] at this
      exact this
  case round =>
    obtain ⟨k, hk, rfl, v, hp, hw, hb, hok⟩ := hrel
    have HW := Lib.hid hw; clear hw
    have HB := Lib.hid hb; clear hb
    have HOK := Lib.hid hok; clear hok
    have hpz : w.heap.size < wr.heap.size := hp.lt
    by_cases hlt : k < n
    · obtain ⟨b, off, rfl, hbb, c0, c1⟩ := (HAT.out.below HB.out (Nat.le_refl _)).get k hlt
      have p0 := hp.cell 0 (v := .int .i64 (oi.pre f k 0)) rfl
      have p1 := hp.cell 1 (v := .int .i64 (oi.pre f k 1)) rfl
      have hpre := oi.pre_ge f k HOK.out
      by_cases hbad : oi.bad f k
      · have HBAD := Lib.hid hbad
        rcases hbad with g0 | g1
        · go_wp2
          go_ret2
          exact ⟨.inr ⟨⟨k, hlt, HBAD.out, HOK.out⟩, rfl⟩, HB.out.alloc (by omega) _⟩
        · by_cases g0 : f k 0 ≤ oi.pre f k 0
          all_goals
            go_wp2
            go_ret2
            exact ⟨.inr ⟨⟨k, hlt, HBAD.out, HOK.out⟩, rfl⟩, HB.out.alloc (by omega) _⟩
      · have g0 : ¬ f k 0 ≤ oi.pre f k 0 := fun h => hbad (.inl h)
        have g1 : ¬ f k 1 ≤ oi.pre f k 1 := fun h => hbad (.inr h)
        have HBAD := Lib.hid hbad; clear hbad
        obtain ⟨a0, ha0⟩ := Int.eq_ofNat_of_zero_le (show 0 ≤ f k 0 by omega)
        obtain ⟨a1, ha1⟩ := Int.eq_ofNat_of_zero_le (show 0 ≤ f k 1 by omega)
        have hfb0 := HF.out k 0 hlt (by omega)
        have hfb1 := HF.out k 1 hlt (by omega)
        have henc : oi.enc f (k + 1) = oi.enc f k ++ wire.be a0 8 ++ wire.be a1 8 := by
          rw [oi.enc, oi.enc1, ha0, ha1, List.append_assoc]; rfl
        have HENC := Lib.hid henc; clear henc
        have hpre1 : ∀ (v : Value), v = .int .i64 (a0 : Int) → v = .int .i64 (oi.pre f (k + 1) 0) := fun v h => by rw [h]; exact congrArg (Value.int .i64) ha0.symm
        have hpre2 : ∀ (v : Value), v = .int .i64 (a1 : Int) → v = .int .i64 (oi.pre f (k + 1) 1) := fun v h => by rw [h]; exact congrArg (Value.int .i64) ha1.symm
        have HP1 := Lib.hid hpre1; clear hpre1
        have HP2 := Lib.hid hpre2; clear hpre2
        have hfit0 : wire.fit (a0 : Int) 8 = true := oi.fit8 (by omega)
        have hfit1 : wire.fit (a1 : Int) 8 = true := oi.fit8 (by omega)
        have HFIT := Lib.hid (And.intro hfit0 hfit1); clear hfit0 hfit1
        rw [ha0] at c0 g0 hfb0
        rw [ha1] at c1 g1 hfb1
        clear ha0 ha1
        generalize oi.pre f k 0 = r0 at *
        generalize oi.pre f k 1 = r1 at *
        have hLk : (oi.enc f k).length = 16 * k := oi.enc_len f k
        generalize oi.enc f k = E at *
        go_wp2_with fail
        obtain ⟨q, hq⟩ : ∃ q, q = wr.heap.size := ⟨_, rfl⟩
        have hx : Blk (wr.alloc (.cells #[.int .i64 (a0 : Int), .int .i64 (a1 : Int)] 78)) q 78 #[.int .i64 (a0 : Int), .int .i64 (a1 : Int)] := by rw [hq]; exact Blk.new _ _ _
        have hwq := HW.out.alloc (.cells #[.int .i64 (a0 : Int), .int .i64 (a1 : Int)] 78)
        have hbq := HB.out.alloc HB.out.size (.cells #[.int .i64 (a0 : Int), .int .i64 (a1 : Int)] 78)
        have hpq : Blk (wr.alloc (.cells #[.int .i64 (a0 : Int), .int .i64 (a1 : Int)] 78)) w.heap.size 78 #[.int .i64 r0, .int .i64 r1] := (Below.heap_alloc _ _ _ hpz).trans hp
        have hqp : ∀ u : Value, Wr (wr.alloc (.cells #[.int .i64 (a0 : Int), .int .i64 (a1 : Int)] 78)) (w.heap.size + 1) (w.heap.size + 1) u E false → q ≠ w.heap.size + 1 := fun u h => by have := HW.out.blk.lt; omega
        have hqne := hqp v hwq
        clear hqp
        rw [← hq] at *
        generalize wr.alloc (.cells #[.int .i64 (a0 : Int), .int .i64 (a1 : Int)] 78) = wq at *
        clear hp p0 p1 c0 c1 HW HB hq
        have hx0 := hx.cell 0 (v := .int .i64 (a0 : Int)) rfl
        have hx1 := hx.cell 1 (v := .int .i64 (a1 : Int)) rfl
        have hne : (78 : Nat) ≠ 5 := by decide
        have hstep : ∀ (wA wB : World) (u : Value) (L M : List Nat), Wr wA (w.heap.size + 1) (w.heap.size + 1) u L false → Blk wA q 78 #[.int .i64 (a0 : Int), .int .i64 (a1 : Int)] → Blk wA w.heap.size 78 #[.int .i64 r0, .int .i64 r1] → Below w.heap.size w wA →
            WrDone wA (w.heap.size + 1) (w.heap.size + 1) u M false wB → ∃ u', Wr wB (w.heap.size + 1) (w.heap.size + 1) u' M false ∧ Blk wB q 78 #[.int .i64 (a0 : Int), .int .i64 (a1 : Int)] ∧ Blk wB w.heap.size 78 #[.int .i64 r0, .int .i64 r1] ∧ Below w.heap.size w wB := by
          rintro wA wB u L M h1 h2 h3 h4 ⟨u', h5, h6, -⟩
          refine ⟨u', h5, h6.blk h2 ?_, h6.blk h3 ?_, h4.trans ((h1.below h6).mono (by omega))⟩
          · rintro (h | h)
            · exact hqne h
            · exact h2.not_row hne h1.row h
          · rintro (h | h)
            · omega
            · exact h3.not_row hne h1.row h
        have HST := Lib.hid hstep; clear hstep
        have HX := Lib.hid hx; clear hx
        have HPQ := Lib.hid hpq; clear hpq
        have HW := Lib.hid hwq; clear hwq
        have HB := Lib.hid hbq; clear hbq
        go_region_law
          (first
            | (go_simp; go_at_call 36; refine (wire.fixed_any (w.heap.size + 1) (w.heap.size + 1) u1 (E ++ wire.be a0 8) false a1 8 _ HW1.out (by rw [List.length_append, wire.be_len]; omega) (by omega) (by omega) HFIT.out.2 (by omega)).mono ?_; rintro e w2 ⟨rfl, hd2⟩; obtain ⟨u2', hw2, hx2, hp2, hb2⟩ := HST.out _ _ _ _ _ HW1.out HX1.out HPQ1.out HB1.out hd2; have hy0 := hx2.cell 0 (v := .int .i64 (a0 : Int)) rfl; have hy1 := hx2.cell 1 (v := .int .i64 (a1 : Int)) rfl; have hz0 := hp2.cell 0 (v := .int .i64 r0) rfl; have hz1 := hp2.cell 1 (v := .int .i64 r1) rfl; have hzf0 := hp2.frozen 0; have hzf1 := hp2.frozen 1; have HW2 := Lib.hid hw2; have HP2' := Lib.hid hp2; have HB2 := Lib.hid hb2; clear hw2 hx2 hp2 hb2 hd2)
            | (go_simp; go_at_call 36; refine (wire.fixed_any (w.heap.size + 1) (w.heap.size + 1) v E false a0 8 _ HW.out.drew (by omega) (by omega) (by omega) HFIT.out.1 (by omega)).mono ?_; rintro e w1 ⟨rfl, hd1⟩; obtain ⟨u1, hw1, hxx1, hp1, hb1⟩ := HST.out _ _ _ _ _ HW.out.drew (HX.out.drew 1) (HPQ.out.drew 1) (bdrew HB.out 1) hd1; have hy0 := hxx1.cell 0 (v := .int .i64 (a0 : Int)) rfl; have hy1 := hxx1.cell 1 (v := .int .i64 (a1 : Int)) rfl; have HW1 := Lib.hid hw1; have HX1 := Lib.hid hxx1; have HPQ1 := Lib.hid hp1; have HB1 := Lib.hid hb1; clear hw1 hxx1 hp1 hb1 hd1))
        all_goals
          go_wp2
          go_roundw
          case rel =>
            refine ⟨k + 1, by omega, by go_num, u2', ?_, ?_, (HB2.out.setCell (p := ⟨w.heap.size, 0, none⟩) (Nat.le_refl _) _).setCell (p := ⟨w.heap.size, 1, none⟩) (Nat.le_refl _) _, fun j hj => ?_⟩
            · have h := (HP2'.out.set 0 (.int .i64 (a0 : Int))).set 1 (.int .i64 (a1 : Int))
              rw [← HP1.out _ rfl, ← HP2.out _ rfl]
              exact h
            · rw [HENC.out]
              have hrow : ∀ k, u2'.ownBlock = some k → ¬ k = w.heap.size := fun k h e => by have := (HW2.out.row.lt k h).1; omega
              exact (HW2.out.chg (Chg.setCell w2 w.heap.size 0 (.int .i64 (a0 : Int))) (by omega) hrow).chg (Chg.setCell _ w.heap.size 1 (.int .i64 (a1 : Int))) (by omega) hrow
            · by_cases hjk : j < k
              · exact HOK.out j hjk
              · obtain rfl : j = k := by omega
                exact HBAD.out
          case measure => simp [intOf]; omega
    · obtain rfl : k = n := by omega
      go_wp2_with fail
      refine (wire.done_any _ _ v _ wr HW.out (by rw [oi.enc_len]; omega)).mono ?_
      rintro e w2 ⟨⟨u, rfl, hown⟩, hb2⟩
      have HO := Lib.hid (ownsRow_base2 hown HB.out.size); clear hown
      have HB2 := Lib.hid (HB.out.trans (hb2.mono HB.out.size)); clear hb2
      go_wp2
      go_ret2
      exact ⟨.inl ⟨HOK.out, _, rfl, HO.out⟩, HB2.out⟩
end Go.Proofs.Ytmlkgealjbjlgaa

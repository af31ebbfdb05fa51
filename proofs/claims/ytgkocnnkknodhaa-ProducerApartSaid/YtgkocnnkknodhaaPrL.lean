/- The law package of producer: awake, and the law ProducerEpochs. -/
import Derived.Test.YtgkocnnkknodhaaPrE
namespace Go.Proofs.Ytgkocnnkknodhaa
open Go.RowKit

/-- A table whose blocks are all new. -/
def PNew (w0 w : World) (t N : Nat) (g : Int → Option PRow) : Prop := PTab w t N g (fun k => w0.heap.size ≤ k) ∧ Below w0.heap.size w0 w
theorem PNew.below {w0 w w' : World} {t N : Nat} {g : Int → Option PRow} (h : PNew w0 w t N g) (hb : Below w.heap.size w w') : PNew w0 w' t N g := ⟨h.1.below hb, h.2.trans (hb.mono h.2.size)⟩
theorem PNew.next {w0 w w' : World} {t N N' : Nat} {g g' : Int → Option PRow} (h : PNew w0 w t N g) (h1 : PTab w' t N' g' (fun k => w0.heap.size ≤ k ∨ w.heap.size ≤ k)) (h2 : Chg w w' (fun k => w0.heap.size ≤ k)) : PNew w0 w' t N' g' :=
  ⟨h1.mono fun k hk => by
    rcases hk with h | h'
    · exact h
    · exact Nat.le_trans ‹PNew w0 w t N g›.2.size h', h.2.trans (h2.below h.2.size fun _ h => h)⟩
theorem PNew.start {w w' : World} {t : Nat} (h1 : PTab w' t 0 (fun _ => none) (fun k => w.heap.size ≤ k)) (h2 : Below w.heap.size w w') : PNew w w' t 0 (fun _ => none) := ⟨h1, h2⟩

theorem intOk_small {x : Int} (h1 : -1000000000000 ≤ x) (h2 : x ≤ 1000000000000) : intOk x := by unfold intOk; omega

/-- Add, where it adds, at a new table. -/
theorem prod.add_new {w0 w : World} {t N : Nat} {g : Int → Option PRow} (h : PNew w0 w t N g) (b0 b1 P ep seq : Int) (A : Option Addr) (n c : Nat) (hP : intOk P) (hP0 : 0 < P) (hc : prod.chk (g P) P ep seq n = (0, false, 0))
    (hn : 0 < n) (hn2 : n ≤ 1099511627776) (hep : intOk ep) (hsq : 0 ≤ seq ∧ seq ≤ 4611686018427387904) (hb0 : intOk b0) (hN : N < maxLen) :
    Calls Try.prog 32 #[.pointer (some ⟨t, 0, none⟩), .agg #[.int .i64 b0, .int .i64 b1, .int .i64 P, .int .i64 ep, .int .i64 seq, .slice A n c]] w
      fun e w' => e = .returned (.int .i64 0) ∧ PNew w0 w' t (prod.cnt N (g P)) (prod.put g P ep ⟨seq, n, b0⟩) := by
  refine (prod.add_ok t N g _ b0 b1 P ep seq A n c w h.1 hP hP0 hc hn hn2 hep hsq hb0 hN).mono ?_
  rintro e w' ⟨rfl, h1, h2⟩
  exact ⟨rfl, h.next h1 h2⟩
theorem prod.check_new {w0 w : World} {t N : Nat} {g : Int → Option PRow} (h : PNew w0 w t N g) (b0 b1 P ep seq : Int) (A : Option Addr) (n c : Nat) (hP : intOk P) {x : Int × Bool × Int} (hx : prod.chk (g P) P ep seq n = x) :
    Calls Try.prog 31 #[.pointer (some ⟨t, 0, none⟩), .agg #[.int .i64 b0, .int .i64 b1, .int .i64 P, .int .i64 ep, .int .i64 seq, .slice A n c]] w
      fun e w' => e = .returned (.tuple #[.int .i64 x.1, .bool x.2.1, .int .i64 x.2.2]) ∧ PNew w0 w' t N g := by
  refine (prod.check_all (some ⟨t, 0, none⟩) N g _ b0 b1 P ep seq A n c w ⟨t, rfl, h.1⟩ hP).mono ?_
  rintro e w' ⟨rfl, h1⟩
  exact ⟨by rw [hx]; rfl, h.below h1⟩
theorem prod.next_new {w0 w : World} {t N : Nat} {g : Int → Option PRow} (h : PNew w0 w t N g) (P : Int) (hP : intOk P) {r : PRow} (hr : g P = some r) :
    Calls Try.prog 33 #[.pointer (some ⟨t, 0, none⟩), .int .i64 P] w fun e w' => e = .returned (.tuple #[.int .i64 r.epoch, .int .i64 r.next, .bool true]) ∧ PNew w0 w' t N g := by
  refine (prod.tnext_any (some ⟨t, 0, none⟩) N g _ P w ⟨t, rfl, h.1⟩ hP).mono ?_
  rintro e w' ⟨rfl, h1⟩
  exact ⟨by rw [hr]; rfl, h.below h1⟩

set_option maxRecDepth 20000 in
set_option maxHeartbeats 1000000 in
theorem prod.awake_any (w : World) :
    Calls Try.prog 29 #[] w fun e w' => e = .returned (.bool true) ∧ Below w.heap.size w w' := by
  go_enter Try.func29, Try.ntmps29
  go_wp2_with fail
  refine (prod.new_any w).mono ?_
  rintro e w1 ⟨⟨t, rfl, h1⟩, hb1⟩
  have H1 := Lib.hid (PNew.start h1 hb1); clear h1 hb1
  go_wp2_with fail
  refine (prod.add_new (g := fun _ => none) (H1.out.below ((Below.refl _ w1).alloc (Nat.le_refl _) _)) 7 0 1 0 0 _ 3 3 (intOk_small (by decide) (by decide)) (by decide) rfl (by decide) (by decide) (intOk_small (by decide) (by decide)) ⟨by decide, by decide⟩ (intOk_small (by decide) (by decide)) (by unfold maxLen; omega)).mono ?_
  rintro e w2 ⟨rfl, h2⟩
  have H2 := Lib.hid h2; clear h2
  go_wp2_with fail
  refine (prod.check_new H2.out 0 0 1 0 0 _ 3 3 (intOk_small (by decide) (by decide)) (x := (7, true, 0)) (by decide +kernel)).mono ?_
  rintro e w3 ⟨rfl, h3⟩
  have H3 := Lib.hid h3; clear h3
  dsimp only
  go_wp2_with fail
  refine (prod.check_new H3.out 0 0 1 0 5 _ 3 3 (intOk_small (by decide) (by decide)) (x := (0, false, 10)) (by decide +kernel)).mono ?_
  rintro e w4 ⟨rfl, h4⟩
  have H4 := Lib.hid h4; clear h4
  dsimp only
  go_wp2
  go_ret
  exact ⟨rfl, H4.out.2⟩

theorem infoRec : (Try.prog.info? 81).map (fun i => (i.zero, i.size, i.bytes)) = some (some (.agg #[.int .i64 0, .int .i64 0, .bool false, .slice none 0 0, .bool false, .slice none 0 0]), 6, 80) := by kernel_rfl
/-- 'make([]api.Record, n)'. -/
theorem make_recs (m : Nat) (hm : m ≤ 1000000) : ∃ cs : Array Value, ∀ wx : World, (Instr.makeSlice 44 (.int .i64 (m : Int)) (.int .i64 (m : Int))).run Try.prog wx = .ok (.slice (some ⟨wx.heap.size, 0, none⟩) m m) (wx.alloc (.cells cs 81)) := by
  obtain ⟨i, hi, hz0, hz1, hz2⟩ := info_parts infoRec
  refine ⟨madeCells (Value.agg #[.int .i64 0, .int .i64 0, .bool false, .slice none 0 0, .bool false, .slice none 0 0]).cells (m * 6), fun wx => ?_⟩
  have hr := run_make (P := Try.prog) wx 44 81 i _ Try.underlying44 hi hz0 .i64 .i64 m m (by omega) (Int.le_refl _) (by rw [hz2]; omega) (by omega)
  simp only [Int.toNat_natCast, hz1] at hr
  exact hr

set_option maxRecDepth 20000 in
set_option maxHeartbeats 2000000 in
theorem prod.lawEpochs (old young n : Int) (w : World) :
    Calls Try.prog 5 #[.int .i64 old, .int .i64 young, .int .i64 n] w fun e w' => e = .returned (.bool true) ∧ Below w.heap.size w w' := by
  rcases (show old < 0 ∨ (0 ≤ old ∧ young ≤ old) ∨ (0 ≤ old ∧ old < young ∧ 32767 < young) ∨ (0 ≤ old ∧ old < young ∧ young ≤ 32767 ∧ n < 1) ∨ (0 ≤ old ∧ old < young ∧ young ≤ 32767 ∧ 1 ≤ n ∧ 50 < n) ∨ (0 ≤ old ∧ old < young ∧ young ≤ 32767 ∧ 1 ≤ n ∧ n ≤ 50) by omega) with h | ⟨h, h'⟩ | ⟨h, h', h2⟩ | ⟨h, h', h2, h3⟩ | ⟨h, h', h2, h3, h4⟩ | ⟨h, h', h2, h3, h4⟩
  rotate_right
  · obtain ⟨m, rfl⟩ : ∃ m : Nat, n = m := ⟨n.toNat, by omega⟩
    go_enter Try.func5, Try.ntmps5
    go_wp2_with fail
    refine (prod.new_any w).mono ?_
    rintro e w1 ⟨⟨t, rfl, h1⟩, hb1⟩
    have H1 := Lib.hid (PNew.start h1 hb1); clear h1 hb1
    obtain ⟨cs, hmk⟩ := make_recs m (by omega)
    obtain ⟨cs1, hmk1⟩ : ∃ cs : Array Value, ∀ wx : World, (Instr.makeSlice 44 (.int .i64 1) (.int .i64 1)).run Try.prog wx = .ok (.slice (some ⟨wx.heap.size, 0, none⟩) 1 1) (wx.alloc (.cells cs 81)) := make_recs 1 (by omega)
    go_wp2_with fail
    refine (prod.add_new (g := fun _ => none) (H1.out.below ((Below.refl _ w1).alloc (Nat.le_refl _) _)) 0 0 1 old 0 _ m m (intOk_small (by decide) (by decide)) (by decide) rfl (by omega) (by omega) (intOk_small (by omega) (by omega)) ⟨by decide, by decide⟩ (intOk_small (by decide) (by decide)) (by unfold maxLen; omega)).mono ?_
    rintro e w2 ⟨rfl, hp2⟩
    have g1a : prod.put (fun _ => none) 1 old ⟨0, m, 0⟩ 1 = some ⟨old, [⟨0, m, 0⟩]⟩ := by simp [prod.put, prod.row, prod.window, prod.base]
    have g1b : prod.put (fun _ => none) 1 old ⟨0, m, 0⟩ 2 = none := by simp [prod.put]
    generalize prod.put (fun _ => none) 1 old ⟨0, m, 0⟩ = g1 at *
    have H2 := Lib.hid hp2; clear hp2
    have G1A := Lib.hid g1a; clear g1a
    have G1B := Lib.hid g1b; clear g1b
    go_wp2_with fail
    refine (prod.add_new (H2.out.below ((Below.refl _ w2).alloc (Nat.le_refl _) _)) m 0 2 old 0 _ m m (intOk_small (by decide) (by decide)) (by decide) (by rw [G1B.out]; rfl) (by omega) (by omega) (intOk_small (by omega) (by omega)) ⟨by decide, by decide⟩ (intOk_small (by omega) (by omega)) (by unfold maxLen prod.cnt; split <;> omega)).mono ?_
    rintro e w3 ⟨rfl, hp3⟩
    have g2a : prod.put g1 2 old ⟨0, m, m⟩ 1 = some ⟨old, [⟨0, m, 0⟩]⟩ := by simp [prod.put, G1A.out]
    have g2b : prod.put g1 2 old ⟨0, m, m⟩ 2 = some ⟨old, [⟨0, m, m⟩]⟩ := by simp [prod.put, prod.row, prod.window, prod.base, G1B.out]
    generalize prod.put g1 2 old ⟨0, m, m⟩ = g2 at *
    have hN2 : prod.cnt (prod.cnt 0 ((fun _ => none : Int → Option PRow) 1)) (g1 2) ≤ 2 := by unfold prod.cnt; split <;> split <;> omega
    generalize prod.cnt (prod.cnt 0 ((fun _ => none : Int → Option PRow) 1)) (g1 2) = N2 at *
    have H3 := Lib.hid hp3; clear hp3 H2 H1
    have HN2 := Lib.hid hN2; clear hN2
    have G2A := Lib.hid g2a; clear g2a G1A
    have G2B := Lib.hid g2b; clear g2b G1B
    go_wp2_with fail
    refine (prod.check_new (H3.out.below ((Below.refl _ w3).alloc (Nat.le_refl _) _)) 0 0 1 young m _ 1 1 (intOk_small (by decide) (by decide)) (x := (0, false, 10)) (by
      unfold prod.chk
      rw [if_neg (by decide), G2A.out]
      dsimp only
      rw [if_neg (by omega), if_pos (by omega), if_neg (by omega)])).mono ?_
    rintro e w4 ⟨rfl, hp4⟩
    have H4 := Lib.hid hp4; clear hp4 H3
    dsimp only
    go_wp2_with fail
    refine (prod.add_new (H4.out.below ((Below.refl _ w4).alloc (Nat.le_refl _) _)) (2 * m) 0 1 young 0 _ 1 1 (intOk_small (by decide) (by decide)) (by decide) (by
      unfold prod.chk
      rw [if_neg (by decide), G2A.out]
      dsimp only
      rw [if_neg (by omega), if_pos (by omega), if_pos rfl]) (by omega) (by omega) (intOk_small (by omega) (by omega)) ⟨by decide, by decide⟩ (intOk_small (by omega) (by omega)) (by have := HN2.out; unfold maxLen; omega)).mono ?_
    rintro e w5 ⟨rfl, hp5⟩
    have hne : ¬ old = young := by omega
    have g3a : prod.put g2 1 young ⟨0, (1 : Nat), 2 * m⟩ 1 = some ⟨young, [⟨0, 1, 2 * m⟩]⟩ := by simp [prod.put, prod.row, prod.window, prod.base, G2A.out, hne]
    have g3b : prod.put g2 1 young ⟨0, (1 : Nat), 2 * m⟩ 2 = some ⟨old, [⟨0, m, m⟩]⟩ := by simp [prod.put, G2B.out]
    generalize prod.put g2 1 young ⟨0, (1 : Nat), 2 * m⟩ = g3 at *
    have H5 := Lib.hid hp5; clear hp5 H4
    have G3A := Lib.hid g3a; clear g3a G2A
    have G3B := Lib.hid g3b; clear g3b G2B
    go_wp2_with fail
    refine (prod.check_new (H5.out.below ((Below.refl _ w5).alloc (Nat.le_refl _) _)) 0 0 1 old m _ 1 1 (intOk_small (by decide) (by decide)) (x := (0, false, 11)) (by
      unfold prod.chk
      rw [if_neg (by decide), G3A.out]
      dsimp only
      rw [if_pos (by omega)])).mono ?_
    rintro e w6 ⟨rfl, hp6⟩
    have H6 := Lib.hid hp6; clear hp6 H5
    dsimp only
    go_wp2_with fail
    refine (prod.check_new (H6.out.below ((Below.refl _ w6).alloc (Nat.le_refl _) _)) 0 0 2 old 0 _ m m (intOk_small (by decide) (by decide)) (x := (m, true, 0)) (by
      unfold prod.chk
      rw [if_neg (by decide), G3B.out]
      dsimp only
      rw [if_neg (by omega), if_neg (by omega), if_neg (by simp [PRow.next, Sent.next]; omega)]
      simp [prod.hit])).mono ?_
    rintro e w7 ⟨rfl, hp7⟩
    have H7 := Lib.hid hp7; clear hp7 H6
    dsimp only
    go_wp2_with fail
    refine (prod.next_new H7.out 1 (intOk_small (by decide) (by decide)) G3A.out).mono ?_
    rintro e w8 ⟨rfl, hp8⟩
    have H8 := Lib.hid hp8; clear hp8 H7
    have hnx : PRow.next ⟨young, [⟨0, 1, 2 * m⟩]⟩ = 1 := rfl
    rw [hnx]
    dsimp only
    go_wp2_with fail
    refine (prod.awake_any w8).mono ?_
    rintro e w9 ⟨rfl, hb9⟩
    have HB9 := Lib.hid (H8.out.2.trans (hb9.mono H8.out.2.size)); clear hb9
    go_wp2
    go_ret
    exact ⟨rfl, HB9.out⟩
  all_goals
    go_enter Try.func5, Try.ntmps5
    go_wp2_with fail
    refine (prod.awake_any w).mono ?_
    rintro e w2 ⟨rfl, hb2⟩
    have HB2 := Lib.hid hb2; clear hb2
    go_wp2
    go_ret
    exact ⟨rfl, HB2.out⟩
end Go.Proofs.Ytgkocnnkknodhaa

/- commits: what may be (chapter 18). -/
import Derived.BigQuiet
import Derived.Test.YtkkpbnhagobhmaaCmA
import Derived.Laws.Rows
import Derived.Laws.Tables
import Derived.Deep.Cut
import Derived.Test.YtkkpbnhagobhmaaBlk
namespace Go.Proofs.Ytkkpbnhagobhmaa
open Go.RowKit
set_option maxRecDepth 20000
/-- An entry. -/
structure CEnt where
  grp : ByteArray
  top : ByteArray
  part : Int
  off : Int
def CEnt.cells (e : CEnt) : Array Value := #[.string e.grp, .string e.top, .int .i64 e.part, .int .i64 e.off]
def CEnt.fit (e : CEnt) : Prop := e.grp.size ≤ maxLen ∧ e.top.size ≤ maxLen
def cm.place (g t : ByteArray) (p : Int) : Bool := cm.topic g && cm.topic t && decide (0 ≤ p) && decide (p ≤ 999)
def CEnt.ok (e : CEnt) : Bool := cm.place e.grp e.top e.part && decide (0 ≤ e.off) && decide (e.off ≤ 4611686018427387904)
theorem cm.chg_row (w : World) (g : Nat) (cs : Array Value) : Chg w (w.setRow g cs) (fun k => k = g) := ⟨rfl, rfl, rfl, by simp, fun k _ hk => setRow_other w g k cs hk⟩
theorem cm.info_place : (Try.prog.info? 72).map (·.size) = some 3 := by kernel_rfl
theorem cm.place_any (e : CEnt) (w : World) : Calls Try.prog 31 #[.agg e.cells] w fun en w' => en = .returned (.agg #[.string e.grp, .string e.top, .int .i64 e.part]) ∧ Below w.heap.size w w' := by
  unfold CEnt.cells
  go_enter Try.func31, Try.ntmps31
  go_upto_region 1 with fail
  have hb1 : Below w.heap.size w ((w.alloc (.cells #[.string e.grp, .string e.top, .int .i64 e.part, .int .i64 e.off] 42)).alloc (.cells #[.string ByteArray.empty, .string ByteArray.empty, .int .i64 0] 72)) := ((Below.refl w.heap.size w).alloc (Nat.le_refl _) _).alloc (by simp) _
  have hz1 : Blk ((w.alloc (.cells #[.string e.grp, .string e.top, .int .i64 e.part, .int .i64 e.off] 42)).alloc (.cells #[.string ByteArray.empty, .string ByteArray.empty, .int .i64 0] 72)) (w.heap.size + 1) 72 #[.string ByteArray.empty, .string ByteArray.empty, .int .i64 0] := heap_alloc2_new w _ _
  have HZ := Lib.hid (And.intro hb1 hz1); clear hb1 hz1
  go_wp2_with (refine wpList_store_row rfl 72 (.tmp 2) (.tmp 9) rfl (w.heap.size + 1) #[.string e.grp, .string e.top, .int .i64 e.part] rfl rfl 72 _ HZ.out.2 cm.info_place rfl (by simp [Value.oneCell']) ?_)
  have hz2 : Blk (((w.alloc (.cells #[.string e.grp, .string e.top, .int .i64 e.part, .int .i64 e.off] 42)).alloc (.cells #[.string ByteArray.empty, .string ByteArray.empty, .int .i64 0] 72)).setRow (w.heap.size + 1) #[.string e.grp, .string e.top, .int .i64 e.part]) (w.heap.size + 1) 72 #[.string e.grp, .string e.top, .int .i64 e.part] := setRow_heap _ _ _ _ _ _ HZ.out.2
  have hb2 := HZ.out.1.trans ((cm.chg_row _ (w.heap.size + 1) #[.string e.grp, .string e.top, .int .i64 e.part]).below HZ.out.1.size fun k hk => by have hk : k = w.heap.size + 1 := hk; omega)
  refine bodyPost_ret (results_cell_row rfl _ _ (w.heap.size + 1) 72 _ (0, 0) _ rfl hz2 Try.underlying72 rfl cm.info_place) rfl ?_
  exact ⟨rfl, hb2⟩
theorem cm.may_any (g t : ByteArray) (p : Int) (w : World) (hg : g.size ≤ maxLen) (ht : t.size ≤ maxLen) : Calls Try.prog 52 #[.agg #[.string g, .string t, .int .i64 p]] w fun en w' => en = .returned (.bool (cm.place g t p)) ∧ Below w.heap.size w w' := by
  have hcg := fun wx => cm.topic_any g wx hg
  have hct := fun wx => cm.topic_any t wx ht
  unfold cm.place
  obtain ⟨b1, hb1⟩ : ∃ b, b = cm.topic g := ⟨_, rfl⟩
  obtain ⟨b2, hb2⟩ : ∃ b, b = cm.topic t := ⟨_, rfl⟩
  rw [← hb1] at hcg ⊢
  rw [← hb2] at hct ⊢
  clear hb1 hb2 hg ht
  have H := Lib.hid (And.intro hcg hct); clear hcg hct
  cases b1 with
  | false =>
    go_enter Try.func52, Try.ntmps52
    go_wp2_with (go_at_call 54; refine (H.out.1 _).mono ?_; rintro en w2 ⟨rfl, h3⟩; subst h3)
    go_ret
    exact ⟨rfl, (Below.refl w.heap.size w).alloc (Nat.le_refl _) _⟩
  | true =>
    have hcg := H.out.1
    have hct := H.out.2
    have HG := Lib.hid hcg
    have HT := Lib.hid hct
    clear hcg hct H
    cases b2 with
    | false =>
      go_enter Try.func52, Try.ntmps52
      go_wp2_with fail
      refine (HG.out _).mono ?_
      rintro en w2 ⟨rfl, h3⟩
      subst h3
      go_wp2_with fail
      refine (HT.out _).mono ?_
      rintro en w2 ⟨rfl, h3⟩
      subst h3
      go_wp2_with fail
      go_ret
      exact ⟨rfl, (Below.refl w.heap.size w).alloc (Nat.le_refl _) _⟩
    | true =>
      by_cases h1 : 0 ≤ p
      · by_cases h2 : p ≤ 999
        · rw [decide_eq_true h1, decide_eq_true h2]
          go_enter Try.func52, Try.ntmps52
          go_wp2_with fail
          refine (HG.out _).mono ?_
          rintro en w2 ⟨rfl, h3⟩
          subst h3
          go_wp2_with fail
          refine (HT.out _).mono ?_
          rintro en w2 ⟨rfl, h3⟩
          subst h3
          go_wp2_with fail
          go_ret
          exact ⟨rfl, (Below.refl w.heap.size w).alloc (Nat.le_refl _) _⟩
        · rw [decide_eq_true h1, decide_eq_false h2]
          go_enter Try.func52, Try.ntmps52
          go_wp2_with fail
          refine (HG.out _).mono ?_
          rintro en w2 ⟨rfl, h3⟩
          subst h3
          go_wp2_with fail
          refine (HT.out _).mono ?_
          rintro en w2 ⟨rfl, h3⟩
          subst h3
          go_wp2_with fail
          go_ret
          exact ⟨by rw [decide_eq_false (p := p ≤ 999) (by omega)]; rfl, (Below.refl w.heap.size w).alloc (Nat.le_refl _) _⟩
      · rw [decide_eq_false h1]
        go_enter Try.func52, Try.ntmps52
        go_wp2_with fail
        refine (HG.out _).mono ?_
        rintro en w2 ⟨rfl, h3⟩
        subst h3
        go_wp2_with fail
        refine (HT.out _).mono ?_
        rintro en w2 ⟨rfl, h3⟩
        subst h3
        go_wp2_with fail
        go_ret
        exact ⟨rfl, (Below.refl w.heap.size w).alloc (Nat.le_refl _) _⟩
theorem cm.gen_any (g : ByteArray) (n : Int) (w : World) (hg : g.size ≤ maxLen) : Calls Try.prog 34 #[.string g, .int .i64 n] w fun en w' => en = .returned (.int .i64 (if cm.topic g = true ∧ 0 ≤ n ∧ n ≤ 1099511627776 then 0 else 1)) ∧ w = w' := by
  have hcg := fun wx => cm.topic_any g wx hg
  obtain ⟨b1, hb1⟩ : ∃ b, b = cm.topic g := ⟨_, rfl⟩
  rw [← hb1] at hcg ⊢
  clear hb1 hg
  have H := Lib.hid hcg; clear hcg
  cases b1 with
  | false =>
    rw [if_neg (by simp)]
    go_enter Try.func34, Try.ntmps34
    go_wp2_with (go_at_call 54; refine (H.out _).mono ?_; rintro en w2 ⟨rfl, h3⟩; subst h3)
    go_ret
    exact ⟨rfl, rfl⟩
  | true =>
    by_cases h1 : n < 0
    · rw [if_neg (by omega)]
      have d1 : decide (n < 0) = true := decide_eq_true h1
      go_enter Try.func34, Try.ntmps34
      go_wp2_with (go_at_call 54; refine (H.out _).mono ?_; rintro en w2 ⟨rfl, h3⟩; subst h3)
      go_ret
      exact ⟨rfl, rfl⟩
    · by_cases h2 : 1099511627776 < n
      · rw [if_neg (by omega)]
        have d1 : decide (n < 0) = false := decide_eq_false h1
        have d2 : decide (1099511627776 < n) = true := decide_eq_true h2
        go_enter Try.func34, Try.ntmps34
        go_wp2_with (go_at_call 54; refine (H.out _).mono ?_; rintro en w2 ⟨rfl, h3⟩; subst h3)
        go_ret
        exact ⟨rfl, rfl⟩
      · rw [if_pos ⟨rfl, by omega, by omega⟩]
        have d1 : decide (n < 0) = false := decide_eq_false h1
        have d2 : decide (1099511627776 < n) = false := decide_eq_false h2
        go_enter Try.func34, Try.ntmps34
        go_wp2_with (go_at_call 54; refine (H.out _).mono ?_; rintro en w2 ⟨rfl, h3⟩; subst h3)
        go_ret
        exact ⟨rfl, rfl⟩
end Go.Proofs.Ytkkpbnhagobhmaa

/- The law ClientProduces: its steps opened, the places that are done, records numbered where they lie. -/
import Derived.Test.YtahncanmfjmfnaaCpA
import Derived.Test.YtahncanmfjmfnaaOpenG
import Derived.Test.YtahncanmfjmfnaaOpenY
import Derived.Test.YtahncanmfjmfnaaAlikeB
namespace Go.Proofs.Ytahncanmfjmfnaa
section
open Go.ChangeShapes Go.WideShapes Go.ChangeAt Go.RowKit

structure CStep where
  kind : Int
  key : SlotK
  n : Int
  code : Int
instance : Inhabited CStep := ⟨⟨0, ⟨ByteArray.empty, 0, by unfold maxLen; decide, by unfold intOk; decide⟩, 0, 0⟩⟩
def CStepR (_ : World) (cs : List Value) (x : CStep) : Prop := cs = [.int .i64 x.kind, .string x.key.s, .int .i64 x.key.p, .int .i64 x.n, .int .i64 x.code] ∧ intOk x.kind ∧ intOk x.n ∧ intOk x.code
theorem cstep_of_trod {H : Type} {enc : TypeId × Value → H} {W : World} {fuel : Nat} {cs : List Value} {x : DataW H × List MemPlace}
    (h : DataW.trod enc Try.prog W 0 (fun _ => true) true fuel 25 cs = some x) (hlt : ∀ y ∈ x.2, y.block < W.heap.size) : ∃ a, CStepR W cs a := by
  have hl2 : cs.length = 5 := (trod_field Try.underlying25 h hlt).1.trans (by kernel_rfl)
  have hm : (Try.prog.cellsOf 25) = 5 := by kernel_rfl
  have hi : (Try.prog.cellsOf 3) = 1 := by kernel_rfl
  have hs : (Try.prog.cellsOf 9) = 1 := by kernel_rfl
  obtain ⟨a0, g0, w0⟩ := field_int Try.underlying25 h hlt .i64 0 0 _ rfl rfl hi (by rw [hm]; omega) Try.underlying3
  obtain ⟨a1, g1, w1⟩ := field_str Try.underlying25 h hlt 1 1 _ rfl rfl hs (by rw [hm]; omega) Try.underlying9
  obtain ⟨a2, g2, w2⟩ := field_int Try.underlying25 h hlt .i64 2 2 _ rfl rfl hi (by rw [hm]; omega) Try.underlying3
  obtain ⟨a3, g3, w3⟩ := field_int Try.underlying25 h hlt .i64 3 3 _ rfl rfl hi (by rw [hm]; omega) Try.underlying3
  obtain ⟨a4, g4, w4⟩ := field_int Try.underlying25 h hlt .i64 4 4 _ rfl rfl hi (by rw [hm]; omega) Try.underlying3
  refine ⟨⟨a0, ⟨a1, a2, w1, wf_bd w2⟩, a3, a4⟩, ?_, wf_bd w0, wf_bd w3, wf_bd w4⟩
  apply List.ext_getElem?
  intro j
  match j with
  | 0 => exact g0
  | 1 => exact g1
  | 2 => exact g2
  | 3 => exact g3
  | 4 => exact g4
  | j + 5 => rw [List.getElem?_eq_none (by omega), List.getElem?_eq_none (by simp)]
/-- A slice of steps lies so. -/
def CSteps (w : World) (A : Option Addr) (xs : List CStep) : Prop := ∃ V, At w A (xs.length * 5) V ∧ ∀ (i : Nat) (a : CStep), xs[i]? = some a → CStepR w (cellsAt V i 5) a
theorem CSteps.below {w w' : World} {A : Option Addr} {xs : List CStep} {B : Nat} (h : CSteps w A xs) (hb : Below B w w') (hB : w.heap.size ≤ B) : CSteps w' A xs := by
  obtain ⟨V, h1, h2⟩ := h
  exact ⟨V, h1.below hb hB, h2⟩
theorem CSteps.at' {w : World} {A : Option Addr} {xs : List CStep} (h : CSteps w A xs) (k : Nat) {x : CStep} (hx : xs[k]? = some x) :
    ∃ b off, A = some ⟨b, off, none⟩ ∧ b < w.heap.size ∧ w.cell? ⟨b, off + k * 5, none⟩ = some (.int .i64 x.kind) ∧ w.cell? ⟨b, off + k * 5 + 1, none⟩ = some (.string x.key.s) ∧ w.cell? ⟨b, off + k * 5 + 2, none⟩ = some (.int .i64 x.key.p) ∧
      w.cell? ⟨b, off + k * 5 + 3, none⟩ = some (.int .i64 x.n) ∧ w.cell? ⟨b, off + k * 5 + 4, none⟩ = some (.int .i64 x.code) ∧ intOk x.kind ∧ intOk x.n ∧ intOk x.code := by
  obtain ⟨V, h1, h2⟩ := h
  have hk := (List.getElem?_eq_some_iff.1 hx).1
  obtain ⟨b, off, hA, hb, hc⟩ := h1 (by omega)
  obtain ⟨h3, h8⟩ := h2 k x hx
  refine ⟨b, off, hA, hb, ?_, ?_, ?_, ?_, ?_, h8⟩
  · rw [hc _ (by omega)]; exact congrArg some (cellsAt_cell h3 0 (by omega) rfl)
  · rw [Nat.add_assoc, hc _ (by omega)]; exact congrArg some (cellsAt_cell h3 1 (by omega) rfl)
  · rw [Nat.add_assoc, hc _ (by omega)]; exact congrArg some (cellsAt_cell h3 2 (by omega) rfl)
  · rw [Nat.add_assoc, hc _ (by omega)]; exact congrArg some (cellsAt_cell h3 3 (by omega) rfl)
  · rw [Nat.add_assoc, hc _ (by omega)]; exact congrArg some (cellsAt_cell h3 4 (by omega) rfl)
set_option maxRecDepth 20000 in
theorem open_csteps {H : Type} {enc : TypeId × Value → H} {W : World} {base : Nat} {v : Value} {d : DataW H} {p : List MemPlace}
    (hv : Value.okWide Try.prog W .any base 22 v) (h : DataW.Trod enc Try.prog W 0 (fun _ => true) true 22 v d p) (hlt : ∀ x ∈ p, x.block < W.heap.size) :
    ∃ (A : Option Addr) (n c : Nat) (xs : List CStep), v = .slice A n c ∧ (xs.length = n ∧ n ≤ c ∧ c ≤ maxLen) ∧ CSteps W A xs := by
  obtain ⟨a0, len, cap, rfl⟩ := okWide_slice Try.underlying22 hv
  obtain ⟨fuel, hf⟩ := h
  obtain ⟨xs, A, n, c, V, h1, h2, h3, h4, h5, h6⟩ := trod_slg Try.underlying22 (m := 5) (by kernel_rfl) (by omega) (R := CStepR W) (fun _ _ _ h hl => cstep_of_trod h hl) hf hlt
  simp only [Value.cells, List.cons.injEq, and_true] at h1
  have h1' : Value.slice a0 len cap = .slice A n c := by simpa using h1
  exact ⟨A, n, c, xs, h1', ⟨h2, h3, h4⟩, V, by rw [h2]; exact h5, h6⟩
end
section
open Go.RowKit Go.Maps
set_option maxRecDepth 100000

/-! The places that are done. -/
theorem slot_ext {x y : SlotK} (h1 : x.s = y.s) (h2 : x.p = y.p) : x = y := by
  cases x; cases y
  dsimp only at h1 h2
  subst h1 h2
  rfl
/-- How many are done, as a row of places says it. -/
def PL (D : SlotK → Int) (P : List (SlotK × Int)) : Prop := (∀ k ∈ P, D k.1 = k.2) ∧ ∀ x, (∀ k ∈ P, k.1 ≠ x) → D x = 0
theorem PL.nil : PL (fun _ => 0) [] := ⟨fun k h => by simp at h, fun _ _ => rfl⟩
/-- The place of x among the first j: the last, or -1. -/
def pl.Found (P : List (SlotK × Int)) (x : SlotK) (j : Nat) (K : Int) : Prop := (K = -1 ∧ ∀ (i : Nat) (k : SlotK × Int), i < j → P[i]? = some k → k.1 ≠ x) ∨ ∃ (i : Nat) (k : SlotK × Int), i < j ∧ K = i ∧ P[i]? = some k ∧ k.1 = x
theorem pl.found_zero (P : List (SlotK × Int)) (x : SlotK) : pl.Found P x 0 (-1) := .inl ⟨rfl, fun _ _ h => absurd h (Nat.not_lt_zero _)⟩
theorem pl.found_yes {P : List (SlotK × Int)} {x : SlotK} {j : Nat} {k : SlotK × Int} (hk : P[j]? = some k) (h : k.1 = x) : pl.Found P x (j + 1) (j : Int) := .inr ⟨j, k, Nat.lt_succ_self _, rfl, hk, h⟩
theorem pl.found_no {P : List (SlotK × Int)} {x : SlotK} {j : Nat} {K : Int} {k : SlotK × Int} (h : pl.Found P x j K) (hk : P[j]? = some k) (hn : k.1 ≠ x) : pl.Found P x (j + 1) K := by
  rcases h with ⟨h1, h2⟩ | ⟨i, k', h1, h2, h3, h4⟩
  · refine .inl ⟨h1, fun i k' hi hk' => ?_⟩
    rcases Nat.lt_or_ge i j with h | h
    · exact h2 i k' h hk'
    · obtain rfl : i = j := by omega
      rw [hk] at hk'
      obtain rfl : k = k' := Option.some.inj hk'
      exact hn
  · exact .inr ⟨i, k', by omega, h2, h3, h4⟩
theorem pl.found_seq {P : List (SlotK × Int)} {D : SlotK → Int} {x : SlotK} {K : Int} (h : PL D P) (hf : pl.Found P x P.length K) : (K = -1 ∧ D x = 0) ∨ ∃ (i : Nat) (k : SlotK × Int), i < P.length ∧ K = i ∧ P[i]? = some k ∧ k.2 = D x := by
  rcases hf with ⟨h1, h2⟩ | ⟨i, k, h1, h2, h3, h4⟩
  · exact .inl ⟨h1, h.2 x fun k hk => by
      obtain ⟨i, hi⟩ := List.mem_iff_getElem?.1 hk
      exact h2 i k (List.getElem?_eq_some_iff.1 hi).1 hi⟩
  · exact .inr ⟨i, k, h1, h2, h3, by rw [← h4]; exact (h.1 k (List.mem_of_getElem? h3)).symm⟩
open Classical in
/-- The first j places, with c more at x. -/
noncomputable def pl.bump (P : List (SlotK × Int)) (x : SlotK) (c : Int) (j : Nat) : List (SlotK × Int) := P.mapIdx fun (i : Nat) (k : SlotK × Int) => if i < j ∧ k.1 = x then (k.1, k.2 + c) else k
theorem pl.bump_len (P : List (SlotK × Int)) (x : SlotK) (c : Int) (j : Nat) : (pl.bump P x c j).length = P.length := by unfold pl.bump; simp
theorem pl.bump_zero (P : List (SlotK × Int)) (x : SlotK) (c : Int) : pl.bump P x c 0 = P := by
  unfold pl.bump
  apply List.ext_getElem?
  intro i
  rw [List.getElem?_mapIdx]
  cases P[i]? with
  | none => rfl
  | some k => simp
theorem pl.bump_at {P : List (SlotK × Int)} (x : SlotK) (c : Int) {j : Nat} {k : SlotK × Int} (hk : P[j]? = some k) : (pl.bump P x c j)[j]? = some k := by
  unfold pl.bump
  rw [List.getElem?_mapIdx, hk]
  simp
theorem pl.bump_yes {P : List (SlotK × Int)} {x : SlotK} (c : Int) {j : Nat} {k : SlotK × Int} (hk : P[j]? = some k) (h : k.1 = x) : (pl.bump P x c j).set j (k.1, k.2 + c) = pl.bump P x c (j + 1) := by
  have hj := (List.getElem?_eq_some_iff.1 hk).1
  apply List.ext_getElem?
  intro i
  rw [List.getElem?_set]
  unfold pl.bump
  by_cases e : j = i
  · subst e
    rw [if_pos rfl, if_pos (by simpa using hj), List.getElem?_mapIdx, hk]
    simp [h]
  · rw [if_neg e, List.getElem?_mapIdx, List.getElem?_mapIdx]
    cases P[i]? with
    | none => rfl
    | some k' =>
      simp only [Option.map_some]
      by_cases h1 : i < j ∧ k'.1 = x
      · rw [if_pos h1, if_pos ⟨by omega, h1.2⟩]
      · rw [if_neg h1, if_neg fun q => h1 ⟨by omega, q.2⟩]
theorem pl.bump_no {P : List (SlotK × Int)} {x : SlotK} (c : Int) {j : Nat} {k : SlotK × Int} (hk : P[j]? = some k) (h : k.1 ≠ x) : pl.bump P x c j = pl.bump P x c (j + 1) := by
  apply List.ext_getElem?
  intro i
  unfold pl.bump
  rw [List.getElem?_mapIdx, List.getElem?_mapIdx]
  by_cases e : j = i
  · subst e
    rw [hk]
    simp [h]
  · cases P[i]? with
    | none => rfl
    | some k' =>
      simp only [Option.map_some]
      by_cases h1 : i < j ∧ k'.1 = x
      · rw [if_pos h1, if_pos ⟨by omega, h1.2⟩]
      · rw [if_neg h1, if_neg fun q => h1 ⟨by omega, q.2⟩]
theorem pl.bump_mem {P : List (SlotK × Int)} {x : SlotK} {c : Int} {k : SlotK × Int} (h : k ∈ pl.bump P x c P.length) : ∃ k' ∈ P, k.1 = k'.1 ∧ ((k'.1 = x ∧ k.2 = k'.2 + c) ∨ (k'.1 ≠ x ∧ k.2 = k'.2)) := by
  obtain ⟨i, hi⟩ := List.mem_iff_getElem?.1 h
  unfold pl.bump at hi
  rw [List.getElem?_mapIdx] at hi
  cases hx : P[i]? with
  | none => rw [hx] at hi; cases hi
  | some k' =>
    rw [hx] at hi
    have hil := (List.getElem?_eq_some_iff.1 hx).1
    refine ⟨k', List.mem_of_getElem? hx, ?_⟩
    simp only [Option.map_some, Option.some.injEq] at hi
    by_cases e : k'.1 = x
    · rw [if_pos ⟨hil, e⟩] at hi
      subst hi
      exact ⟨rfl, .inl ⟨e, rfl⟩⟩
    · rw [if_neg (fun q => e q.2)] at hi
      subst hi
      exact ⟨rfl, .inr ⟨e, rfl⟩⟩
theorem pl.bump_back {P : List (SlotK × Int)} {x : SlotK} {c : Int} {k : SlotK × Int} (h : k ∈ P) : ∃ k' ∈ pl.bump P x c P.length, k'.1 = k.1 := by
  obtain ⟨i, hi⟩ := List.mem_iff_getElem?.1 h
  have hil := (List.getElem?_eq_some_iff.1 hi).1
  classical
  refine ⟨if i < P.length ∧ k.1 = x then (k.1, k.2 + c) else k, List.mem_of_getElem? (i := i) ?_, ?_⟩
  · unfold pl.bump
    rw [List.getElem?_mapIdx, hi]
    simp
  · split <;> rfl
/-- What is done at x, c more: it stands among the places. -/
theorem PL.bump {D : SlotK → Int} {P : List (SlotK × Int)} (h : PL D P) (x : SlotK) (c : Int) (hx : ∃ k ∈ P, k.1 = x) : PL (cn.upd D x (D x + c)) (pl.bump P x c P.length) := by
  refine ⟨fun k hk => ?_, fun y hy => ?_⟩
  · obtain ⟨k', h1, h2, h3⟩ := pl.bump_mem hk
    have h4 := h.1 k' h1
    unfold cn.upd
    rcases h3 with ⟨h5, h6⟩ | ⟨h5, h6⟩
    · rw [h2, if_pos h5, h6, ← h4, h5]
    · rw [h2, if_neg h5, h6, h4]
  · unfold cn.upd
    by_cases e : y = x
    · obtain ⟨k, h1, h2⟩ := hx
      obtain ⟨k', h3, h4⟩ := pl.bump_back (x := x) (c := c) h1
      exact absurd (h4.trans (h2.trans e.symm)) (hy k' h3)
    · rw [if_neg e]
      refine h.2 y fun k hk q => ?_
      obtain ⟨k', h3, h4⟩ := pl.bump_back (x := x) (c := c) hk
      exact hy k' h3 (h4.trans q)
/-- It doesn't: a place more. -/
theorem PL.add {D : SlotK → Int} {P : List (SlotK × Int)} (h : PL D P) (x : SlotK) (c : Int) (hx : ∀ k ∈ P, k.1 ≠ x) : PL (cn.upd D x (D x + c)) (P ++ [(x, c)]) := by
  refine ⟨fun k hk => ?_, fun y hy => ?_⟩
  · unfold cn.upd
    rcases List.mem_append.1 hk with h1 | h1
    · rw [if_neg (hx k h1)]
      exact h.1 k h1
    · obtain rfl : k = (x, c) := by simpa using h1
      rw [if_pos rfl, h.2 x hx, Int.zero_add]
  · unfold cn.upd
    have e : y ≠ x := fun q => hy (x, c) (by simp) q.symm
    rw [if_neg e]
    exact h.2 y fun k hk => hy k (List.mem_append.2 (.inl hk))
/-- A row of places of the law's own. -/
def PlAt (w : World) (B : Nat) (v : Value) (P : List (SlotK × Int)) : Prop := ∃ V, w.ownsRow B 37 3 v P.length (cellsOf (P.length * 3) V) ∧
  ∀ (i : Nat) (k : SlotK × Int), P[i]? = some k → V (i * 3) = .string k.1.s ∧ V (i * 3 + 1) = .int .i64 k.1.p ∧ V (i * 3 + 2) = .int .i64 k.2
theorem PlAt.nil (w : World) (B : Nat) : PlAt w B (.slice none 0 0) [] := ⟨fun _ => undef, World.ownsRow_nil _ _ _ _, fun i k h => by simp at h⟩
theorem PlAt.chg {w w' : World} {B : Nat} {v : Value} {P : List (SlotK × Int)} {F : Nat → Prop} (h : PlAt w B v P) (hc : Chg w w' F) (hp : ∀ k, v.ownBlock = some k → ¬ F k) : PlAt w' B v P := by
  obtain ⟨V, h1, h2⟩ := h
  exact ⟨V, hc.own h1 hp, h2⟩
theorem PlAt.slice {w : World} {B : Nat} {v : Value} {P : List (SlotK × Int)} (h : PlAt w B v P) : ∃ A c, v = .slice A P.length c := by
  obtain ⟨V, h1, h2⟩ := h
  obtain ⟨A, c, e, -⟩ := own_at h1
  exact ⟨A, c, e⟩
theorem PlAt.at' {w : World} {B n c : Nat} {A : Option Addr} {P : List (SlotK × Int)} (h : PlAt w B (.slice A n c) P) {j : Nat} {k : SlotK × Int} (hk : P[j]? = some k) :
    ∃ g, A = some ⟨g, 0, none⟩ ∧ B ≤ g ∧ g < w.heap.size ∧ w.cell? ⟨g, j * 3, none⟩ = some (.string k.1.s) ∧ w.cell? ⟨g, j * 3 + 1, none⟩ = some (.int .i64 k.1.p) ∧ w.cell? ⟨g, j * 3 + 2, none⟩ = some (.int .i64 k.2) ∧ ∀ q, w.frozen? ⟨g, q, none⟩ = false := by
  obtain ⟨V, h1, h2⟩ := h
  have hj := (List.getElem?_eq_some_iff.1 hk).1
  obtain ⟨A9, c9, e9, -, hat⟩ := own_at h1
  obtain ⟨rfl, -, rfl⟩ : A = A9 ∧ n = P.length ∧ c = c9 := by simpa using e9
  obtain ⟨g, off, eg, hg, hc⟩ := hat (by omega)
  obtain ⟨h3, h4, h5⟩ := h2 j k hk
  rcases h1.2 with ⟨h6, -⟩ | ⟨g', cap, cur, h6, h7, h8, -⟩
  · exfalso
    have : A = none := by injection h6
    rw [this] at eg
    cases eg
  · have e6 : A = some ⟨g', 0, none⟩ := by injection h6
    obtain ⟨rfl, rfl⟩ : g = g' ∧ off = 0 := by rw [e6] at eg; simpa using eg.symm
    refine ⟨g, e6, h7, hg, ?_, ?_, ?_, fun q => Blk.frozen (T := 37) h8 q⟩
    · have := hc (j * 3) (by omega)
      rw [Nat.zero_add] at this
      rw [this]
      simp only [List.getD]
      rw [cellsOf_get _ _ _ (by omega), ← h3]
      rfl
    · have := hc (j * 3 + 1) (by omega)
      rw [Nat.zero_add] at this
      rw [this]
      simp only [List.getD]
      rw [cellsOf_get _ _ _ (by omega), ← h4]
      rfl
    · have := hc (j * 3 + 2) (by omega)
      rw [Nat.zero_add] at this
      rw [this]
      simp only [List.getD]
      rw [cellsOf_get _ _ _ (by omega), ← h5]
      rfl
theorem cellsOf_set (m : Nat) (V : Nat → Value) (q : Nat) (v : Value) : (cellsOf m V).set q v = cellsOf m fun i => if i = q then v else V i := by
  apply List.ext_getElem?
  intro i
  rw [List.getElem?_set]
  by_cases hi : i < m
  · by_cases e : q = i
    · subst e
      rw [if_pos rfl, if_pos (by rw [cellsOf_len]; exact hi), cellsOf_get _ _ _ hi, if_pos rfl]
    · rw [if_neg e, cellsOf_get _ _ _ hi, cellsOf_get _ _ _ hi, if_neg (fun h => e h.symm)]
  · rw [List.getElem?_eq_none (by rw [cellsOf_len]; omega), List.getElem?_eq_none (by rw [cellsOf_len]; omega)]
    split
    · split
      · rename_i h1 h2; rw [cellsOf_len] at h2; omega
      · rfl
    · rfl
theorem PlAt.set {w : World} {B g n c : Nat} {P : List (SlotK × Int)} (h : PlAt w B (.slice (some ⟨g, 0, none⟩) n c) P) {j : Nat} {k : SlotK × Int} (hk : P[j]? = some k) (x : Int) :
    PlAt (w.setCell ⟨g, j * 3 + 2, none⟩ (.int .i64 x)) B (.slice (some ⟨g, 0, none⟩) n c) (P.set j (k.1, x)) := by
  obtain ⟨V, h1, h2⟩ := h
  have hn : n = P.length := by obtain ⟨A9, c9, e9, -⟩ := own_at h1; injection e9
  subst hn
  have h3 := cn.own_set h1 (j * 3 + 2) (.int .i64 x)
  rw [cellsOf_set] at h3
  refine ⟨_, by rw [List.length_set]; exact h3, fun i k' hk' => ?_⟩
  rw [List.getElem?_set] at hk'
  by_cases e : j = i
  · subst e
    rw [if_pos rfl, if_pos (List.getElem?_eq_some_iff.1 hk).1] at hk'
    obtain rfl : (k.1, x) = k' := Option.some.inj hk'
    obtain ⟨h4, h5, -⟩ := h2 j k hk
    refine ⟨?_, ?_, ?_⟩
    · rw [if_neg (by omega)]; exact h4
    · rw [if_neg (by omega)]; exact h5
    · rw [if_pos rfl]
  · rw [if_neg e] at hk'
    obtain ⟨h4, h5, h6⟩ := h2 i k' hk'
    refine ⟨?_, ?_, ?_⟩
    · rw [if_neg (by omega)]; exact h4
    · rw [if_neg (by omega)]; exact h5
    · rw [if_neg (by omega)]; exact h6
theorem PlAt.append {w' : World} {B : Nat} {v : Value} {P : List (SlotK × Int)} {V : Nat → Value} (h2 : ∀ (i : Nat) (k : SlotK × Int), P[i]? = some k → V (i * 3) = .string k.1.s ∧ V (i * 3 + 1) = .int .i64 k.1.p ∧ V (i * 3 + 2) = .int .i64 k.2) (x : SlotK) (c : Int)
    (h : w'.ownsRow B 37 3 v (P.length + 1) (cellsOf (P.length * 3) V ++ [.string x.s, .int .i64 x.p, .int .i64 c])) : PlAt w' B v (P ++ [(x, c)]) := by
  have e : cellsOf (P.length * 3) V ++ [.string x.s, .int .i64 x.p, .int .i64 c] = cellsOf ((P ++ [(x, c)]).length * 3) fun i => if i < P.length * 3 then V i else [Value.string x.s, .int .i64 x.p, .int .i64 c].getD (i - P.length * 3) undef := by
    apply List.ext_getElem?
    intro i
    rw [List.getElem?_append, cellsOf_len]
    have hl : (P ++ [(x, c)]).length = P.length + 1 := by simp
    by_cases h1 : i < P.length * 3
    · rw [if_pos h1, cellsOf_get _ _ _ h1, cellsOf_get _ _ _ (by omega), if_pos h1]
    · rw [if_neg h1]
      by_cases h3 : i < P.length * 3 + 3
      · rw [cellsOf_get _ _ _ (by omega), if_neg h1]
        have h4 : i - P.length * 3 = 0 ∨ i - P.length * 3 = 1 ∨ i - P.length * 3 = 2 := by omega
        rcases h4 with h4 | h4 | h4 <;> rw [h4] <;> rfl
      · rw [List.getElem?_eq_none (by simp; omega), List.getElem?_eq_none (by rw [cellsOf_len]; omega)]
  rw [e] at h
  refine ⟨_, by rw [show (P ++ [(x, c)]).length = P.length + 1 by simp] at h ⊢; exact h, fun i k hk => ?_⟩
  rcases Nat.lt_or_ge i P.length with hi | hi
  · rw [List.getElem?_append_left hi] at hk
    obtain ⟨h4, h5, h6⟩ := h2 i k hk
    exact ⟨by rw [if_pos (by omega)]; exact h4, by rw [if_pos (by omega)]; exact h5, by rw [if_pos (by omega)]; exact h6⟩
  · rw [List.getElem?_append_right hi] at hk
    have hi2 : i = P.length := by
      have := (List.getElem?_eq_some_iff.1 hk).1
      simp at this
      omega
    subst hi2
    rw [Nat.sub_self] at hk
    obtain rfl : (x, c) = k := by simpa using hk
    refine ⟨?_, ?_, ?_⟩
    · rw [if_neg (by omega), show P.length * 3 - P.length * 3 = 0 by omega]; rfl
    · rw [if_neg (by omega), show P.length * 3 + 1 - P.length * 3 = 1 by omega]; rfl
    · rw [if_neg (by omega), show P.length * 3 + 2 - P.length * 3 = 2 by omega]; rfl

/-! Records numbered where they lie. -/
def cp.mix (rs : List Rec) (j : Nat) : List Rec := rs.mapIdx fun (i : Nat) (r : Rec) => if i < j then ({ r with off := (i : Int) } : Rec) else r
theorem cp.mix_len (rs : List Rec) (j : Nat) : (cp.mix rs j).length = rs.length := by unfold cp.mix; simp
theorem cp.mix_zero (rs : List Rec) : cp.mix rs 0 = rs := by
  unfold cp.mix
  apply List.ext_getElem?
  intro i
  rw [List.getElem?_mapIdx]
  cases rs[i]? with
  | none => rfl
  | some k => simp
theorem cp.mix_all (rs : List Rec) : cp.mix rs rs.length = cn.numbered rs := by
  unfold cp.mix cn.numbered
  apply List.ext_getElem?
  intro i
  rw [List.getElem?_mapIdx, List.getElem?_mapIdx]
  cases h : rs[i]? with
  | none => rfl
  | some k => simp [(List.getElem?_eq_some_iff.1 h).1]
theorem cp.mix_succ {rs : List Rec} {j : Nat} {r : Rec} (h : (cp.mix rs j)[j]? = some r) : (cp.mix rs j).set j { r with off := (j : Int) } = cp.mix rs (j + 1) := by
  have hj : j < rs.length := by have := (List.getElem?_eq_some_iff.1 h).1; rw [cp.mix_len] at this; exact this
  have hr : rs[j]? = some r := by
    unfold cp.mix at h
    rw [List.getElem?_mapIdx] at h
    cases hx : rs[j]? with
    | none => rw [hx] at h; cases h
    | some y => rw [hx] at h; simpa using h
  apply List.ext_getElem?
  intro i
  rw [List.getElem?_set]
  unfold cp.mix
  by_cases e : j = i
  · subst e
    rw [if_pos rfl, if_pos (by simpa using hj), List.getElem?_mapIdx, hr]
    simp
  · rw [if_neg e, List.getElem?_mapIdx, List.getElem?_mapIdx]
    cases rs[i]? with
    | none => rfl
    | some k' =>
      simp only [Option.map_some]
      by_cases h1 : i < j
      · simp [h1, show i < j + 1 by omega]
      · simp [h1, show ¬ i < j + 1 by omega]
theorem cp.set_off {w : World} {B g n c : Nat} {rs : List Rec} (h : RowR w B (.slice (some ⟨g, 0, none⟩) n c) rs) {j : Nat} {r : Rec} (hr : rs[j]? = some r) (o : Int) (ho : i64ok o) :
    RowR (w.setCell ⟨g, j * 6, none⟩ (.int .i64 o)) B (.slice (some ⟨g, 0, none⟩) n c) (rs.set j { r with off := o }) := by
  obtain ⟨xs, h1, h2⟩ := h
  have hn : n = rs.length := by obtain ⟨A9, c9, e9, -⟩ := own_at h1; injection e9
  subst hn
  have hj := (List.getElem?_eq_some_iff.1 hr).1
  have hc : Chg w (w.setCell ⟨g, j * 6, none⟩ (.int .i64 o)) (fun k => k = g) := Chg.setCell _ _ _ _
  have h3 := cn.own_set h1 (j * 6) (.int .i64 o)
  have hxl : xs.length = rs.length * 6 := h1.1
  refine ⟨_, by rw [List.length_set]; exact h3, fun i r' hr' => ?_⟩
  have key : ∀ i r, rs[i]? = some r → ∃ kv vv, ((List.range 6).map fun j => xs.getD (i * 6 + j) undef) = [.int .i64 r.off, .int .i64 r.time, .bool r.hasKey, kv, .bool r.hasVal, vv] ∧ KeyR (w.setCell ⟨g, j * 6, none⟩ (.int .i64 o)) B (.slice (some ⟨g, 0, none⟩) rs.length c) kv r.key ∧ KeyR (w.setCell ⟨g, j * 6, none⟩ (.int .i64 o)) B (.slice (some ⟨g, 0, none⟩) rs.length c) vv r.val ∧ i64ok r.off ∧ i64ok r.time := fun i r hr => by
    obtain ⟨kv, vv, e, k1, k2, k3⟩ := h2 i r hr
    exact ⟨kv, vv, e, k1.chg hc fun q hq _ e => (k1.2 q hq).2.2 (by rw [show q = g from e]; rfl), k2.chg hc fun q hq _ e => (k2.2 q hq).2.2 (by rw [show q = g from e]; rfl), k3⟩
  rw [List.getElem?_set] at hr'
  by_cases e : j = i
  · subst e
    rw [if_pos rfl, if_pos hj] at hr'
    obtain rfl : ({ r with off := o } : Rec) = r' := Option.some.inj hr'
    obtain ⟨kv, vv, e1, k1, k2, k3, k4⟩ := key j r hr
    refine ⟨kv, vv, ?_, k1, k2, ho, k4⟩
    have ec : ∀ q, q < 6 → ((List.range 6).map fun q => xs.getD (j * 6 + q) undef)[q]? = some (xs.getD (j * 6 + q) undef) := fun q hq => by simp [hq]
    have es : ∀ q, q < 6 → ((List.range 6).map fun q => (xs.set (j * 6) (.int .i64 o)).getD (j * 6 + q) undef)[q]? = some ((xs.set (j * 6) (.int .i64 o)).getD (j * 6 + q) undef) := fun q hq => by simp [hq]
    have eq0 : (xs.set (j * 6) (.int .i64 o)).getD (j * 6 + 0) undef = .int .i64 o := by
      rw [List.getD, List.getElem?_set, if_pos (by omega), if_pos (by omega)]
      rfl
    have eqs : ∀ q, 0 < q → q < 6 → (xs.set (j * 6) (.int .i64 o)).getD (j * 6 + q) undef = xs.getD (j * 6 + q) undef := fun q h0 hq => by
      rw [List.getD, List.getElem?_set, if_neg (by omega)]
      rfl
    rw [e1] at ec
    refine six_cells (by simp) ?_ ?_ ?_ ?_ ?_ ?_
    · rw [es 0 (by omega), eq0]
    · rw [es 1 (by omega), eqs 1 (by omega) (by omega), ← ec 1 (by omega)]; rfl
    · rw [es 2 (by omega), eqs 2 (by omega) (by omega), ← ec 2 (by omega)]; rfl
    · rw [es 3 (by omega), eqs 3 (by omega) (by omega), ← ec 3 (by omega)]; rfl
    · rw [es 4 (by omega), eqs 4 (by omega) (by omega), ← ec 4 (by omega)]; rfl
    · rw [es 5 (by omega), eqs 5 (by omega) (by omega), ← ec 5 (by omega)]; rfl
  · rw [if_neg e] at hr'
    obtain ⟨kv, vv, e1, k1, k2, k3⟩ := key i r' hr'
    refine ⟨kv, vv, ?_, k1, k2, k3⟩
    rw [← e1]
    refine List.map_congr_left fun q hq => ?_
    have hq6 : q < 6 := by simpa using hq
    rw [List.getD, List.getElem?_set, if_neg (by omega)]
    rfl
end
end Go.Proofs.Ytahncanmfjmfnaa

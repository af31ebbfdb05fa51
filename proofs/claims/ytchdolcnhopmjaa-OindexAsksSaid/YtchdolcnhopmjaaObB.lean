/- The walk of the law OindexSparse: it answers true, whatever the input. -/
import Derived.Test.YtchdolcnhopmjaaWkD
import Derived.Test.YtchdolcnhopmjaaWkG
import Derived.Test.YtchdolcnhopmjaaOiW
namespace Go.Proofs.Ytchdolcnhopmjaa
open Go.RowKit Go.Shelf
attribute [local go_sem] Oper.semAt_some

/-- The batches that have an entry; where the last one of these begins. -/
def ob.ent (mm : Int) : Int → List (Nat × Bat) → List (Nat × Bat)
  | _, [] => []
  | a, x :: l => if mm ≤ (x.1 : Int) - a then x :: ob.ent mm x.1 l else ob.ent mm a l
def ob.lst (mm : Int) : Int → List (Nat × Bat) → Int
  | a, [] => a
  | a, x :: l => if mm ≤ (x.1 : Int) - a then ob.lst mm x.1 l else ob.lst mm a l
theorem ob.snoc (mm : Int) : ∀ (l : List (Nat × Bat)) (a : Int) (x : Nat × Bat), ob.ent mm a (l ++ [x]) = ob.ent mm a l ++ (if mm ≤ (x.1 : Int) - ob.lst mm a l then [x] else []) ∧ ob.lst mm a (l ++ [x]) = if mm ≤ (x.1 : Int) - ob.lst mm a l then (x.1 : Int) else ob.lst mm a l
  | [], a, x => by
    by_cases h : mm ≤ (x.1 : Int) - a <;> simp [ob.ent, ob.lst, h]
  | y :: l, a, x => by
    by_cases h : mm ≤ (y.1 : Int) - a
    · have ih := ob.snoc mm l y.1 x
      simp only [List.cons_append, ob.ent, ob.lst, if_pos h, ih.1, ih.2, and_self]
    · have ih := ob.snoc mm l a x
      simp only [List.cons_append, ob.ent, ob.lst, if_neg h, ih.1, ih.2, and_self]
theorem ob.sub (mm : Int) : ∀ (l : List (Nat × Bat)) (a : Int), (ob.ent mm a l).Sublist l
  | [], _ => .slnil
  | x :: l, a => by
    unfold ob.ent
    split
    · exact (ob.sub mm l x.1).cons_cons x
    · exact (ob.sub mm l a).cons x
/-- Each is so far behind the one ahead. -/
def ob.gaps (mm : Int) : Int → List (Nat × Bat) → Prop
  | _, [] => True
  | a, x :: l => mm ≤ (x.1 : Int) - a ∧ ob.gaps mm x.1 l
theorem ob.ent_gaps (mm : Int) : ∀ (l : List (Nat × Bat)) (a : Int), ob.gaps mm a (ob.ent mm a l)
  | [], _ => trivial
  | x :: l, a => by
    unfold ob.ent
    split
    · rename_i h
      exact ⟨h, ob.ent_gaps mm l x.1⟩
    · exact ob.ent_gaps mm l a
theorem ob.lst_bd (mm : Int) : ∀ (l : List (Nat × Bat)) (a : Int), 0 ≤ a → a ≤ 1000000 → (∀ x ∈ l, x.1 ≤ 1000000) → 0 ≤ ob.lst mm a l ∧ ob.lst mm a l ≤ 1000000
  | [], _, h1, h2, _ => ⟨h1, h2⟩
  | x :: l, a, h1, h2, h => by
    unfold ob.lst
    have hx := h x (List.mem_cons_self ..)
    split
    · exact ob.lst_bd mm l x.1 (by omega) (by omega) fun y hy => h y (List.mem_cons_of_mem _ hy)
    · exact ob.lst_bd mm l a h1 h2 fun y hy => h y (List.mem_cons_of_mem _ hy)
def ob.cell2 (x : Nat × Bat) : List Value := [.int .i64 x.2.base, .int .i64 (x.1 : Int)]
def ob.row (E : List (Nat × Bat)) : List Value := (E.map ob.cell2).flatten
theorem ob.row_snoc (E : List (Nat × Bat)) (x : Nat × Bat) : ob.row (E ++ [x]) = ob.row E ++ ob.cell2 x := by unfold ob.row; simp
/-- What the body keeps. -/
def ob.I (z : Nat) (w : World) (every mm : Int) (pre : List WkX) (W : World) : Prop :=
  (∃ v, Boxed W (z + 1) 30 v ∧ W.ownsRow (z + 4) 55 2 v (ob.ent mm 0 (pre.map Prod.fst)).length (ob.row (ob.ent mm 0 (pre.map Prod.fst)))) ∧ Boxed W (z + 2) 3 (.int .i64 (ob.lst mm 0 (pre.map Prod.fst))) ∧
    Boxed W z 3 (.int .i64 every) ∧ (∀ x ∈ pre.map Prod.fst, x.1 ≤ 1000000) ∧ Below z w W
theorem ob.I_own (z : Nat) (w : World) (every mm : Int) (B : Nat) (hz : z ≤ w.heap.size) (hB : z ≤ B) : OwnFrom B (ob.I z w every mm) := fun pre W W' row h hg hr => by
  obtain ⟨⟨v, h1, h2⟩, h3, h4, h5, h6⟩ := h
  have hr' : ∀ r, row = some r → ∃ o : Obj, W.heap[r]? = some o ∧ o.isCells = false := fun r e => (hr r e).2
  have hbx : ∀ {b : Nat} {t : TypeId} {v : Value}, Boxed W b t v → Boxed W' b t v := fun {b t v} h => h.kept hg fun e => by
    obtain ⟨o, ho, hc⟩ := hr' b e.symm
    rw [show W.heap[b]? = _ from h] at ho
    cases ho
    cases hc
  have hrw : ∀ {b s n : Nat} {e : TypeId} {v : Value} {xs : List Value}, W.ownsRow b e s v n xs → W'.ownsRow b e s v n xs := fun {b s n e v xs} h => by
    refine h.kept hg ?_
    rcases h.2 with ⟨rfl, _⟩ | ⟨g, cap, cur, rfl, _, hgb, _⟩
    · exact .inl rfl
    · refine .inr fun e => ?_
      obtain ⟨o, ho, hc⟩ := hr' g e.symm
      rw [hgb] at ho
      cases ho
      cases hc
  exact ⟨⟨v, hbx h1, hrw h2⟩, hbx h3, hbx h4, h5, h6.grown hg (Nat.le_trans hz h6.size) fun k e => Nat.le_trans hB (hr k e).1⟩
/-- A round that gathers. -/
theorem ob.round {z : Nat} {w W w2 : World} {every mm : Int} {pre : List WkX} {x : WkX} {v v' : Value} {t1 : Obj} (B : Nat) (hI : ob.I z w every mm pre W) (hzw : z ≤ w.heap.size) (hx : x.1.1 ≤ 1000000) (hdue : mm ≤ (x.1.1 : Int) - ob.lst mm 0 (pre.map Prod.fst))
    (ba : Boxed W (z + 1) 30 v) (ra : W.ownsRow (z + 4) 55 2 v (ob.ent mm 0 (pre.map Prod.fst)).length (ob.row (ob.ent mm 0 (pre.map Prod.fst))))
    (hown : w2.ownsRow (z + 4) 55 2 v' ((ob.ent mm 0 (pre.map Prod.fst)).length + 1) (ob.row (ob.ent mm 0 (pre.map Prod.fst)) ++ ob.cell2 x.1)) (hgrow : (W.alloc t1).grownBy w2 v.ownBlock) (hl : v'.ownBlock = v.ownBlock ∨ v'.ownBlock = some (W.alloc t1).heap.size) :
    KeepsFrom B W ((w2.setCell ⟨z + 1, 0, none⟩ v').setCell ⟨z + 2, 0, none⟩ (.int .i64 (x.1.1 : Int))) ∧ Kept [z + 1, z + 2] W ((w2.setCell ⟨z + 1, 0, none⟩ v').setCell ⟨z + 2, 0, none⟩ (.int .i64 (x.1.1 : Int))) ∧
      ob.I z w every mm (pre ++ [x]) ((w2.setCell ⟨z + 1, 0, none⟩ v').setCell ⟨z + 2, 0, none⟩ (.int .i64 (x.1.1 : Int))) := by
  obtain ⟨-, bl, be, hle, hB⟩ := hI
  have hzW : z ≤ W.heap.size := Nat.le_trans hzw hB.size
  obtain ⟨q1, q2, q3, q4, q5, q6⟩ := box_appended (n₀ := z) ba (by omega) (by omega) ra hzW hown hgrow
  have bl1 := q6 _ _ _ (by omega) (by omega) bl
  have be1 := q6 _ _ _ (by omega) (by omega) be
  have c1 : Chg W (w2.setCell ⟨z + 1, 0, none⟩ v') (fun k => k = z + 1 ∨ k = z + 2 ∨ v.ownBlock = some k) :=
    ((Chg.alloc W t1 (fun k => k = z + 1 ∨ k = z + 2 ∨ v.ownBlock = some k)).trans (Chg.grown hgrow) fun k _ h => .inr (.inr h)).trans (Chg.setCell w2 (z + 1) 0 v') fun k _ h => .inl h
  have hz1 := q5.size
  generalize w2.setCell ⟨z + 1, 0, none⟩ v' = W1 at *
  have bl2 := bl1.set (.int .i64 (x.1.1 : Int))
  have ba2 := q2.other (show z + 1 ≠ z + 2 by omega) (.int .i64 (x.1.1 : Int))
  have be2 := be1.other (show z ≠ z + 2 by omega) (.int .i64 (x.1.1 : Int))
  have ra2 := q3.kept (grownBy_setCell' W1 (z + 2) (.int .i64 (x.1.1 : Int))) (.inr (own_ne q3 (by omega)).symm)
  have c2 := c1.trans (Chg.setCell W1 (z + 2) 0 (.int .i64 (x.1.1 : Int))) fun k _ h => .inr (.inl h)
  have hbel : Below z W (W1.setCell ⟨z + 2, 0, none⟩ (.int .i64 (x.1.1 : Int))) := q5.setCell (p := ⟨z + 2, 0, none⟩) (by show z ≤ z + 2; omega) _
  generalize W1.setCell ⟨z + 2, 0, none⟩ (.int .i64 (x.1.1 : Int)) = V at *
  have hbs : ∀ b ∈ [z + 1, z + 2], b = z + 1 ∨ b = z + 2 := fun b hb => by simpa using hb
  have hsn := ob.snoc mm (pre.map Prod.fst) 0 x.1
  rw [if_pos hdue, if_pos hdue] at hsn
  have hmp : (pre ++ [x]).map Prod.fst = pre.map Prod.fst ++ [x.1] := by simp
  refine ⟨keeps_chg c2 fun k hk => ?_, Kept.boxes c2 (fun k hk => ?_) fun b hb => ?_, ⟨v', ba2, ?_⟩, ?_, be2, ?_, hB.trans hbel⟩
  · rcases hk with rfl | rfl | hk
    · exact .of_boxed ba
    · exact .of_boxed bl
    · exact own_cells ra hk
  · rcases hk with rfl | rfl | hk
    · exact .inl (by simp)
    · exact .inl (by simp)
    · exact .inr ⟨z + 1, by simp, by rw [boxOf_boxed ba]; exact hk⟩
  · rcases hbs b hb with rfl | rfl
    · refine ⟨.of_boxed ba2, fun k e => ?_⟩
      rw [boxOf_boxed ba2] at e
      refine ⟨(ra2.lt k e).2, ?_⟩
      rcases hl with h | h
      · exact .inl ⟨z + 1, by simp, by rw [boxOf_boxed ba, ← h]; exact e⟩
      · rw [h] at e
        have e : (W.alloc t1).heap.size = k := by simpa using e
        refine .inr ?_
        rw [← e, World.size_alloc]
        omega
    · exact ⟨.of_boxed bl2, fun k e => by rw [boxOf_boxed bl2] at e; cases e⟩
  · rw [hmp, hsn.1, ob.row_snoc, List.length_append]
    exact ra2
  · rw [hmp, hsn.2]
    exact bl2
  · intro y hy
    rw [hmp] at hy
    rcases List.mem_append.1 hy with hy | hy
    · exact hle y hy
    · obtain rfl : y = x.1 := by simpa using hy
      exact hx
/-- A round that passes over. -/
theorem ob.pass {z : Nat} {w W : World} {every mm : Int} {pre : List WkX} {x : WkX} (hI : ob.I z w every mm pre W) (hx : x.1.1 ≤ 1000000) (hdue : ¬ mm ≤ (x.1.1 : Int) - ob.lst mm 0 (pre.map Prod.fst)) : ob.I z w every mm (pre ++ [x]) W := by
  obtain ⟨⟨v, h1, h2⟩, h3, h4, h5, h6⟩ := hI
  have hsn := ob.snoc mm (pre.map Prod.fst) 0 x.1
  rw [if_neg hdue, if_neg hdue, List.append_nil] at hsn
  have hmp : (pre ++ [x]).map Prod.fst = pre.map Prod.fst ++ [x.1] := by simp
  refine ⟨⟨v, h1, by rw [hmp, hsn.1]; exact h2⟩, by rw [hmp, hsn.2]; exact h3, h4, fun y hy => ?_, h6⟩
  rw [hmp] at hy
  rcases List.mem_append.1 hy with hy | hy
  · exact h5 y hy
  · obtain rfl : y = x.1 := by simpa using hy
    exact hx

theorem ob.due_any (last at' every : Int) (w : World) (h1 : 0 ≤ last ∧ last ≤ 1000000) (h2 : 0 ≤ at' ∧ at' ≤ 1000000) :
    Calls Try.prog 40 #[.int .i64 last, .int .i64 at', .int .i64 every] w fun e w' => e = .returned (.bool (decide (max every 1 ≤ at' - last))) ∧ w = w' := by
  obtain ⟨a1, a2⟩ := h1
  obtain ⟨b1, b2⟩ := h2
  by_cases h : every ≤ 1
  · have hm : max every 1 = 1 := by omega
    rw [hm]
    have HM := Lib.hid hm; clear hm
    go_enter Try.func40, Try.ntmps40
    go_wp2
    all_goals
      go_ret
      exact ⟨ret_bool (by first | (simp; done) | (simp; omega)), rfl⟩
  · have hm : max every 1 = every := by omega
    rw [hm]
    have HM := Lib.hid hm; clear hm
    go_enter Try.func40, Try.ntmps40
    go_wp2
    all_goals
      go_ret
      exact ⟨ret_bool (by first | (simp; done) | (simp; omega)), rfl⟩
theorem ob.info : (Try.prog.info? 55).map (fun i => (i.zero, i.size, i.bytes)) = some (some (.agg #[.int .i64 0, .int .i64 0]), 2, 16) := by kernel_rfl
/-- What Build answers. -/
def ob.Post (L : List Nat) (every : Int) (w : World) (e : Ending) (w' : World) : Prop :=
  ∃ A c, e = .returned (.slice A (ob.ent (max every 1) 0 (dec.walk L)).length c) ∧ (ob.ent (max every 1) 0 (dec.walk L)).length ≤ c ∧ At w' A ((ob.ent (max every 1) 0 (dec.walk L)).length * 2) (fun j => (ob.row (ob.ent (max every 1) 0 (dec.walk L))).getD j undef) ∧ Below w.heap.size w w'

set_option maxRecDepth 100000 in
set_option maxHeartbeats 4000000 in
theorem ob.build_any (A : Option Addr) (m c : Nat) (L : List Nat) (every : Int) (w : World) (hL : ∀ x ∈ L, x < 256) (hlen : L.length = m) (hmc : m ≤ c) (hc : c ≤ maxLen) (hm : m ≤ 1000000) (hat : At w A m (byteAt L)) :
    Calls Try.prog 19 #[.slice A m c, .int .i64 every] w (ob.Post L every w) := by
  refine (callsIn_wide (n := 5)).1 ?_
  have h1 : 1 ≤ 5 := by omega
  refine callsIn_of_wp_marks Try.func19 rfl trivial ?_ rfl
  simp only [Try.ntmps19, List.size_toArray, List.length_cons, List.length_nil, Nat.reduceAdd, Nat.reduceSub, Array.replicate_succ, Array.replicate_zero, List.push_toArray, List.append_toArray, List.nil_append, List.cons_append]
  have HAT := Lib.hid hat; clear hat
  have HL := Lib.hid hL; clear hL
  have HLEN := Lib.hid hlen; clear hlen
  gi_wp2_with fail
  obtain ⟨w0, hw0⟩ : ∃ w0, w0 = ((w.alloc (.cells #[.int .i64 every] 3)).alloc (.cells #[.slice none 0 0] 30)).alloc (.cells #[.int .i64 0] 3) := ⟨_, rfl⟩
  rw [← hw0]
  have hB0 : Below w.heap.size w w0 := by rw [hw0]; exact (((Below.refl _ w).alloc (Nat.le_refl _) _).alloc (by simp) _).alloc (by simp; omega) _
  have bE : Boxed w0 w.heap.size 3 (.int .i64 every) := by rw [hw0]; exact ((Boxed.new w _ _).alloc _).alloc _
  have bL : Boxed w0 (w.heap.size + 1) 30 (.slice none 0 0) := by
    rw [hw0]
    have h := Boxed.new (w.alloc (.cells #[.int .i64 every] 3)) 30 (.slice none 0 0)
    rw [World.size_alloc] at h
    exact h.alloc _
  have bS : Boxed w0 (w.heap.size + 2) 3 (.int .i64 0) := by
    rw [hw0]
    have h := Boxed.new ((w.alloc (.cells #[.int .i64 every] 3)).alloc (.cells #[.slice none 0 0] 30)) 3 (.int .i64 0)
    rw [World.size_alloc, World.size_alloc] at h
    exact h
  have hz0 : w0.heap.size = w.heap.size + 3 := by rw [hw0]; simp
  clear hw0
  refine ⟨trivial, ?_⟩
  refine (callsIn_wide.2 (bat.walk_any A m c w0)).mono ?_
  rintro e w1 ⟨rfl, hw1⟩
  rw [hz0]
  have hb1 : Below w0.heap.size w0 w1 := by rw [hw1]; exact (Below.refl _ _).alloc (Nat.le_refl _) _
  have hkp : Blk w1 (w.heap.size + 3) 22 #[.slice A m c] := by
    rw [hw1]
    have h := Blk.new w0 22 #[.slice A m c]
    rwa [hz0] at h
  have hz1 : w1.heap.size = w.heap.size + 4 := by rw [hw1, World.size_alloc, hz0]
  clear hw1
  have hbx : ∀ {b : Nat} {t : TypeId} {v : Value}, Boxed w0 b t v → Boxed w1 b t v := fun h => h.kept (grown_by hb1) (by simp)
  have bE1 := hbx bE
  have bL1 := hbx bL
  have bS1 := hbx bS
  have hB1 : Below w.heap.size w w1 := hB0.trans (hb1.mono hB0.size)
  have hbs : ∀ b ∈ [w.heap.size + 1, w.heap.size + 2], b = w.heap.size + 1 ∨ b = w.heap.size + 2 := fun b hb => by simpa using hb
  have hnb : ∀ b ∈ [w.heap.size + 1, w.heap.size + 2], boxOf w1 b = none := fun b hb => by
    rcases hbs b hb with rfl | rfl
    · rw [boxOf_boxed bL1]; rfl
    · rw [boxOf_boxed bS1]; rfl
  have hin : InB [w.heap.size + 1, w.heap.size + 2] w1 := fun b hb => ⟨by
    rcases hbs b hb with rfl | rfl
    · exact .of_boxed bL1
    · exact .of_boxed bS1, fun k e => by rw [hnb b hb] at e; cases e⟩
  have hsafe : ∀ k, k ≠ w.heap.size + 1 → k ≠ w.heap.size + 2 → Safe [w.heap.size + 1, w.heap.size + 2] w1 k := fun k hk1 hk2 => ⟨fun h => by
    rcases hbs k h with rfl | rfl
    · exact hk1 rfl
    · exact hk2 rfl, fun b hb e => by rw [hnb b hb] at e; cases e⟩
  have hsrc : Dep (Safe [w.heap.size + 1, w.heap.size + 2] w1) w1 (wk.Src (w.heap.size + 3) A m c L) := (Dep.blk hkp (hsafe _ (by omega) (by omega))).both (Dep.at' (HAT.out.below hB1 (Nat.le_refl _)) fun hp b off e => by
    obtain ⟨b', off', e', hb', -⟩ := HAT.out hp
    rw [e] at e'
    cases e'
    exact hsafe _ (by omega) (by omega))
  clear bE bL bS hbx hkp hnb hsafe
  obtain ⟨mm, hmm⟩ : ∃ mm, mm = max every 1 := ⟨_, rfl⟩
  have HMM := Lib.hid hmm; clear hmm
  gi_wp2_with fail
  refine for_eachB (F := Fence.wide) (n := 5) rfl h1 (gf := 49) (lb := #[.pointer (some ⟨w.heap.size + 3, 0, none⟩)]) rfl trivial (enters_of Try.func49 (by kernel_rfl) rfl)
    (bat.hands 4 (by omega) (w.heap.size + 3) [w.heap.size + 1, w.heap.size + 2] A m c L w1 HL.out HLEN.out hmc hc hm hin hsrc) (Below.refl _ _) Kept.trans
    (fun W o h => Kept.alloc o fun b hb => by rcases hbs b hb with rfl | rfl <;> omega) (fun W l o o' hl ho hcc _ => Kept.put ho hcc fun b hb => by rcases hbs b hb with rfl | rfl <;> omega) (fun _ => rfl)
    (fun pre W => ob.I w.heap.size w every mm pre W) (fun _ _ _ => False)
    (ob.I_own _ _ _ _ _ (Nat.le_refl _) (by omega)) (fun _ _ _ _ _ h _ _ => h.elim) (wk.R_own _ _ _) (fun _ _ _ _ h _ _ => h) (fun _ _ _ _ h _ _ => h)
    ⟨⟨_, bL1, World.ownsRow_nil _ _ _ _⟩, bS1, bE1, (fun x hx => by cases hx), hB1⟩ 50 wk.cells
    (fun x g => { tmps := #[.slice A m c, .int .i64 every, undef, .pointer (some ⟨w.heap.size, 0, none⟩), .slice none 0 0, .pointer (some ⟨w.heap.size + 1, 0, none⟩), .pointer (some ⟨w.heap.size + 1 + 1, 0, none⟩), .int .i64 (x.1.1 : Int), .pointer (some ⟨g, 0, none⟩), .slice A m c, .func (.func 49) #[] #[.pointer (some ⟨w.heap.size + 3, 0, none⟩)], .int .i64 (x.1.1 : Int), .agg (wk.cells x), undef, undef, undef, undef, undef, undef, undef, undef, undef, undef, undef, undef, undef], defers := [] }) ?assign ?body ?done ?stop
  case assign =>
    rintro l ⟨⟨at', b⟩, ⟨A2, c2⟩⟩ W K hK
    unfold wk.encs Bat.hval
    unfold wk.cells at hK
    dsimp only at hK ⊢
    gi_wp2
    exact hK
  case body =>
    rintro l pre ⟨⟨at', b⟩, ⟨A2, c2⟩⟩ g W hg1 hg2 hk hI hR hlt
    unfold wk.cells at hk ⊢
    dsimp only at hk ⊢
    obtain ⟨⟨v, ba, ra⟩, bl, be, hle, hB⟩ := id hI
    obtain ⟨u, his⟩ := hR.2.2
    have hatm : at' ≤ 1000000 := by
      have h2 := his.fits
      rw [HLEN.out] at h2
      dsimp only at h2
      omega
    have hlb := ob.lst_bd mm (pre.map Prod.fst) 0 (by omega) (by omega) hle
    obtain ⟨hl0, hl1⟩ := hlb
    have hplen : (ob.ent mm 0 (pre.map Prod.fst)).length ≤ 1000000 := by
      have h1 := (ob.sub mm (pre.map Prod.fst) 0).length_le
      have h2 := dec.walk_len HL.out
      rw [HLEN.out] at h2
      rw [List.length_map] at h1
      omega
    clear his hle
    obtain ⟨Aa, ca, rfl, hca, -⟩ := own_at ra
    have cA := ba.cell
    have cL : W.cell? ⟨w.heap.size + 1 + 1, 0, none⟩ = some (.int .i64 (ob.lst mm 0 (pre.map Prod.fst))) := bl.cell
    have cE := be.cell
    have g0 : W.cell? ⟨g, 0, none⟩ = some (.int .i64 b.base) := hk.cell 0 rfl
    have hdu := ob.due_any (ob.lst mm 0 (pre.map Prod.fst)) (at' : Int) every W ⟨hl0, hl1⟩ ⟨by omega, by omega⟩
    rw [← HMM.out] at hdu
    have hround := fun w2 v' t1 hx hd hown hgrow hl2 => ob.round (z := w.heap.size) (w := w) (W := W) (w2 := w2) (every := every) (mm := mm) (pre := pre) (x := ((at', b), (A2, c2))) (v' := v') (t1 := t1) w1.heap.size hI (Nat.le_refl _) hx hd ba ra hown hgrow hl2
    have hpass := fun hx hd => ob.pass (x := ((at', b), (A2, c2))) hI hx hd
    have HROUND := Lib.hid hround; clear hround
    have HPASS := Lib.hid hpass; clear hpass
    clear hI hR hk
    obtain ⟨last, hlast⟩ : ∃ last, last = ob.lst mm 0 (pre.map Prod.fst) := ⟨_, rfl⟩
    obtain ⟨en, hen⟩ : ∃ en, en = (ob.ent mm 0 (pre.map Prod.fst)).length := ⟨_, rfl⟩
    rw [← hlast] at cL hdu hl0 hl1
    rw [← hen] at cA hca hplen
    have HDU := Lib.hid hdu; clear hdu
    have HLAST := Lib.hid (And.intro hlast hen); clear hlast hen
    have HBX := Lib.hid (And.intro ba (And.intro bl ra)); clear ba bl ra
    obtain ⟨du, hdu⟩ : ∃ du, du = decide (mm ≤ (at' : Int) - last) := ⟨_, rfl⟩
    rw [← hdu] at HDU
    have HD := Lib.hid hdu; clear hdu
    gi_wp2_with fail
    refine ⟨trivial, ?_⟩
    refine (CallsIn.inRound l (callsIn_wide.2 HDU.out)).mono ?_
    rintro e W2 ⟨rfl, rfl⟩
    cases du with
    | false =>
      have hno : ¬ mm ≤ (at' : Int) - last := of_decide_eq_false HD.out.symm
      have HNO := Lib.hid hno; clear hno
      gi_wp2
      exact ⟨KeepsFrom.refl _ _, Kept.refl _ _, HPASS.out hatm (by rw [← HLAST.out.1]; exact HNO.out)⟩
    | true =>
      have hyes : mm ≤ (at' : Int) - last := of_decide_eq_true HD.out.symm
      have HYES := Lib.hid hyes; clear hyes
      obtain ⟨i0, hi, hz0, hz1', hz2⟩ := info_parts ob.info
      have HI0 := Lib.hid (And.intro hi (And.intro hz0 (And.intro hz1' hz2))); clear hi hz0 hz1' hz2
      have hra := HBX.out.2.2
      rw [← HLAST.out.2] at hra
      have HRA := Lib.hid hra; clear hra
      have hzW : w.heap.size ≤ W.heap.size := hB.size
      have hbaW : w.heap.size + 4 ≤ W.heap.size := by omega
      gi_wp2_with (gi_at_builtin; go_loud (refine wpListIn_append_own_at _ rfl (.tmp 17) (.tmp 22) 30 rfl (w.heap.size + 4) 55 i0 _ 2 16 Try.underlying30 HI0.out.1 HI0.out.2.1 HI0.out.2.2.1 HI0.out.2.2.2 rfl (by decide) _ en _ rfl (HRA.out.alloc _) ⟨W.heap.size, 0, none⟩ 1 1 [.int .i64 b.base, .int .i64 (at' : Int)] rfl rfl (cells_new W [.int .i64 b.base, .int .i64 (at' : Int)] _ _ rfl) (by simp [Value.oneCell']) (by unfold maxLen; omega) (by omega) (by simp; omega) ?_); intro v1 w2 hown1 hgrow1 _ hl2; obtain ⟨g1, cap1, hv1⟩ := ownsRow_succ hown1; subst hv1; have hne1 : some (w.heap.size + 1) ≠ (Value.slice Aa en ca).ownBlock := own_ne HRA.out (by omega); have hne2 : some (w.heap.size + 2) ≠ (Value.slice Aa en ca).ownBlock := own_ne HRA.out (by omega); have hba := HBX.out.1; rw [← HLAST.out.2] at hba; have hb2 : Boxed w2 (w.heap.size + 1) 30 (.slice Aa en ca) := (hba.alloc _).kept hgrow1 hne1; have hb3 : Boxed w2 (w.heap.size + 2) 3 (.int .i64 (ob.lst mm 0 (pre.map Prod.fst))) := (HBX.out.2.1.alloc _).kept hgrow1 hne2; have hb4 := hb3.other (show w.heap.size + 2 ≠ w.heap.size + 1 by omega) (.slice (some ⟨g1, 0, none⟩) (en + 1) cap1); have e1 := hb2.cell; have f1 := hb2.frozen; have e2 : (w2.setCell ⟨w.heap.size + 1, 0, none⟩ (.slice (some ⟨g1, 0, none⟩) (en + 1) cap1)).cell? ⟨w.heap.size + 1 + 1, 0, none⟩ = some (.int .i64 (ob.lst mm 0 (pre.map Prod.fst))) := hb4.cell; have f2 : (w2.setCell ⟨w.heap.size + 1, 0, none⟩ (.slice (some ⟨g1, 0, none⟩) (en + 1) cap1)).frozen? ⟨w.heap.size + 1 + 1, 0, none⟩ = false := hb4.frozen; clear hb2 hb3 hb4 hba; have HO := Lib.hid (And.intro hown1 (And.intro hgrow1 hl2)); clear hown1 hgrow1 hl2)
      have hfin := HROUND.out w2 _ _ hatm (by rw [← HLAST.out.1]; exact HYES.out) (by rw [← HLAST.out.2]; exact HO.out.1) (by rw [← HLAST.out.2]; exact HO.out.2.1) (by rw [← HLAST.out.2]; exact HO.out.2.2)
      exact hfin
  case done =>
    rintro D xs W hD hS ⟨⟨v, ba, ra⟩, bl, be, hle, hB⟩ hK
    have hS : xs.map Prod.fst = dec.walk L := hS
    rw [hS] at ra
    obtain ⟨Aa, ca, rfl, hca, hata⟩ := own_at ra
    have cA := ba.cell
    clear ba bl be hle hS ra
    have hd : Dep (fun _ => True) W (fun U => At U Aa ((ob.ent mm 0 (dec.walk L)).length * 2) (fun j => (ob.row (ob.ent mm 0 (dec.walk L))).getD j undef)) := Dep.at' hata fun _ _ _ _ => trivial
    have HH := Lib.hid (And.intro hd hB); clear hd hata hB
    gi_wp2
    refine ⟨by simp, .inl ⟨_, _, rfl, run_takeDeferred hK, ?_⟩⟩
    refine ⟨_, results_tmp (t := 4) rfl _ _ _, ?_⟩
    refine ⟨Aa, ca, by rw [← HMM.out]; rfl, by rw [← HMM.out]; exact hca, ?_, HH.out.2.trans (belowK_b (w := w) (Nat.le_refl _) W D _ _ (by omega) hK rfl rfl)⟩
    rw [← HMM.out]
    exact HH.out.1.put hK rfl
  case stop =>
    rintro D cd pre W hD hpre h hK
    exact h.elim

open Go.RowKit

theorem ob.bytes_each {L : List Nat} {n : Nat} (hl : L.length = n) (h : ∀ j, j < n → L.getD j 0 < 256) : ∀ x ∈ L, x < 256 := by
  intro x hx
  obtain ⟨j, hj⟩ := List.mem_iff_getElem?.1 hx
  have h1 := (List.getElem?_eq_some_iff.1 hj).1
  have h2 := h j (by omega)
  simpa [List.getD, hj] using h2
theorem ob.gaps_at (mm a : Int) (E : List (Nat × Bat)) (k : Nat) (y : Nat × Bat) (h : ob.gaps mm a (E.drop k)) (hy : E[k]? = some y) : mm ≤ (y.1 : Int) - a ∧ ob.gaps mm y.1 (E.drop (k + 1)) := by
  obtain ⟨hk, e⟩ := List.getElem?_eq_some_iff.1 hy
  rw [List.drop_eq_getElem_cons hk, e] at h
  exact h

set_option maxRecDepth 20000 in
set_option maxHeartbeats 4000000 in
theorem ob.lawSparse (A : Option Addr) (n c : Nat) (z : List Int) (every : Int) (w : World) (hm : z.length = n ∧ n ≤ c ∧ c ≤ maxLen) (hat0 : At w A n (fun j => .int .u8 (z.getD j 0))) (hz : ∀ x ∈ z, (Lit.int .u8 x).wf = true) (hevery : -9223372036854775808 ≤ every ∧ every ≤ 9223372036854775807) :
    Calls Try.prog 5 #[.slice A n c, .int .i64 every] w fun e w' => e = .returned (.bool true) ∧ Below w.heap.size w w' := by
  obtain ⟨hzn, hnc, hcm⟩ := hm
  obtain ⟨hev1, hev2⟩ := hevery
  obtain ⟨hat, hby0⟩ := ints_bytes hat0 hzn hz
  obtain ⟨L, hL⟩ : ∃ L, L = z.map Int.toNat := ⟨_, rfl⟩
  have hln : L.length = n := by rw [hL, List.length_map]; exact hzn
  rw [← hL] at hat hby0
  have hby := ob.bytes_each hln hby0
  clear hby0 hat0 hz hzn hL
  have HAW := Lib.hid (fun wx => oi.awake_any wx)
  by_cases hbig : n ≤ 4000 ∧ 1 ≤ every
  · obtain ⟨hn5, hmp⟩ := hbig
    have hbld := ob.build_any A n c L every w hby hln hnc hcm (by omega) hat
    have hall := fun wx (h : Below w.heap.size w wx) => ref.all_any A c n L wx hln (hat.below h (Nat.le_refl _)) hby hnc hcm (by omega)
    have hwl := dec.walk_len hby
    rw [hln] at hwl
    have hle : ∀ x ∈ dec.walk L, x.1 ≤ 4000 := fun x hx => by
      obtain ⟨u, his⟩ := dec.walk_is hby x hx
      have := his.fits
      omega
    unfold ob.Post at hbld
    unfold wa.Post at hall
    rw [show max every 1 = every by omega] at hbld
    obtain ⟨l, hl⟩ : ∃ l, l = dec.walk L := ⟨_, rfl⟩
    rw [← hl] at hwl hle hbld hall
    have hsub := ob.sub every l 0
    have hgap := ob.ent_gaps every l 0
    obtain ⟨E, hE⟩ : ∃ E, E = ob.ent every 0 l := ⟨_, rfl⟩
    rw [← hE] at hbld hsub hgap
    obtain ⟨N1, hN1⟩ : ∃ N1, N1 = E.length := ⟨_, rfl⟩
    obtain ⟨N, hN⟩ : ∃ N, N = l.length := ⟨_, rfl⟩
    have hNN := hsub.length_le
    rw [← hN1, ← hN] at hNN
    rw [← hN1] at hbld
    rw [← hN] at hall hwl
    have hmem : ∀ (k : Nat) (y : Nat × Bat), E[k]? = some y → ∃ j : Nat, j < N ∧ l[j]? = some y := fun k y hy => by
      obtain ⟨j, hj⟩ := List.mem_iff_getElem?.1 (hsub.subset (List.mem_of_getElem? hy))
      exact ⟨j, by rw [hN]; exact (List.getElem?_eq_some_iff.1 hj).1, hj⟩
    have HMEM := Lib.hid (And.intro hmem hle); clear hmem hle hsub hl hE
    have HBLD := Lib.hid hbld; clear hbld
    have HALL := Lib.hid hall; clear hall
    have HGAP := Lib.hid hgap; clear hgap
    have HLN := Lib.hid (And.intro hN1 hN); clear hN1 hN
    clear hat hby hln
    go_enter Try.func5, Try.ntmps5
    go_wp2_with fail
    refine HBLD.out.mono ?_
    rintro e w1 ⟨A1, c1, rfl, hc1, hat1, hb1⟩
    have HAT1 := Lib.hid hat1; clear hat1
    have HB1 := Lib.hid hb1; clear hb1 HBLD
    go_wp2_with fail
    refine (HALL.out w1 HB1.out).mono ?_
    rintro e w2 ⟨A2, c2, rfl, hc2, hats2, hb12⟩
    have HAT2 := Lib.hid (HAT1.out.below hb12 (Nat.le_refl _)); clear HAT1
    have HATS := Lib.hid hats2; clear hats2
    have HB2 := Lib.hid (show Below w.heap.size w w2 from HB1.out.trans (hb12.mono HB1.out.size)); clear hb12 HB1 HALL
    go_wp2_with fail
    go_loopg [7, 8] N1 (fun g s7 s8 wx => ∃ (k : Nat) (last : Int), k + g = N1 ∧ s7 = .int .i64 last ∧ 0 ≤ last ∧ last ≤ 4000 ∧ s8 = .int .i64 (k : Int) ∧ ob.gaps every last (E.drop k) ∧ Below w2.heap.size w2 wx)
    case atStart => exact ⟨0, 0, by omega, rfl, by omega, by omega, rfl, HGAP.out, Below.refl _ _⟩
    case round =>
      obtain ⟨k, last, hkg, rfl, hla1, hla2, rfl, hgk, hbr⟩ := hrel
      have HBR := Lib.hid hbr; clear hbr
      have HGK := Lib.hid hgk; clear hgk HGAP
      cases gk with
      | zero =>
        obtain rfl : k = N1 := by omega
        go_wp2_with fail
        refine (HAW.out wr).mono ?_
        rintro e w7 ⟨rfl, hb7⟩
        have HB7 := Lib.hid (show Below w.heap.size w w7 from (HB2.out.trans (HBR.out.mono HB2.out.size)).trans (hb7.mono (HB2.out.trans (HBR.out.mono HB2.out.size)).size)); clear hb7
        go_wp2_with fail
        (try rw [Exit.noGoto_ret])
        go_ret
        exact ⟨rfl, HB7.out⟩
      | succ g =>
        have hkN : k < N1 := by omega
        obtain ⟨y, hy⟩ : ∃ y, E[k]? = some y := ⟨_, List.getElem?_eq_getElem (by rw [← HLN.out.1]; exact hkN)⟩
        obtain ⟨at', b⟩ := y
        obtain ⟨hga, hgk2⟩ := ob.gaps_at every last E k _ HGK.out hy
        dsimp only at hga hgk2
        have HGK2 := Lib.hid hgk2; clear hgk2 HGK
        obtain ⟨J, hJN, hJ⟩ := HMEM.out.1 k _ hy
        have hatm : at' ≤ 4000 := HMEM.out.2 _ (List.mem_of_getElem? hJ)
        obtain ⟨b1, o1, rfl, hb1l, hcs1⟩ := (HAT2.out.below HBR.out (Nat.le_refl _)) (by omega)
        have p0 : wr.cell? ⟨b1, o1 + k * 2, none⟩ = some (.int .i64 b.base) := by
          have h := flat_get ob.cell2 2 (fun _ => rfl) E k 0 _ hy (by omega)
          rw [hcs1 _ (by omega)]
          exact congrArg some h
        have p1 : wr.cell? ⟨b1, o1 + k * 2 + 1, none⟩ = some (.int .i64 (at' : Int)) := by
          have h := flat_get ob.cell2 2 (fun _ => rfl) E k 1 _ hy (by omega)
          rw [Nat.add_assoc, hcs1 _ (by omega)]
          exact congrArg some h
        have P := Lib.hid (And.intro p0 (And.intro p1 hb1l)); clear p0 p1 hb1l hcs1 hy
        go_wp2_with fail
        go_loopg [9, 10] N (fun g s9 s10 wy => ∃ (j : Nat) (mb : Bool), j + g = N ∧ s9 = .bool mb ∧ s10 = .int .i64 (j : Int) ∧ (J < j → mb = true) ∧ Below wr.heap.size wr wy)
        case atStart => exact ⟨0, false, by omega, rfl, rfl, (fun h => absurd h (by omega)), Below.refl _ _⟩
        case round =>
          obtain ⟨j, mb, hjg, rfl, rfl, hmb, hby⟩ := hrel
          have HBY := Lib.hid hby; clear hby
          cases gk with
          | zero =>
            obtain rfl : j = N := by omega
            obtain rfl : mb = true := hmb hJN
            clear hmb
            obtain ⟨pp0, pp1, hb1l⟩ := P.out
            have hbl := HBY.out.cell (p := ⟨b1, o1 + k * 2, none⟩) hb1l
            have hbl2 := HBY.out.cell (p := ⟨b1, o1 + k * 2 + 1, none⟩) hb1l
            rw [pp0] at hbl
            rw [pp1] at hbl2
            clear pp0 pp1 hb1l
            go_wp2_with fail
            go_roundg g
            case measure => omega
            case rel => exact ⟨k + 1, (at' : Int), by omega, rfl, by omega, by omega, by go_num, HGK2.out, HBR.out.trans (HBY.out.mono HBR.out.size)⟩
          | succ g2 =>
            have hjN : j < N := by omega
            obtain ⟨y2, hy2⟩ : ∃ y2, l[j]? = some y2 := ⟨_, List.getElem?_eq_getElem (by rw [← HLN.out.2]; exact hjN)⟩
            obtain ⟨pj, bj⟩ := y2
            obtain ⟨b2, o2, v2, hA2, hb2l, d0, d1, -⟩ := (HATS.out.below (HBR.out.trans (HBY.out.mono HBR.out.size)) (Nat.le_refl _)).get hy2
            subst hA2
            dsimp only at d0 d1
            obtain ⟨pp0, pp1, hb1l⟩ := P.out
            have q0 := HBY.out.cell (p := ⟨b1, o1 + k * 2, none⟩) hb1l
            have q1 := HBY.out.cell (p := ⟨b1, o1 + k * 2 + 1, none⟩) hb1l
            rw [pp0] at q0
            rw [pp1] at q1
            clear pp0 pp1 hb1l
            have hJj : J = j → pj = at' ∧ bj.base = b.base := fun h => by
              rw [← h, hJ] at hy2
              cases hy2
              exact ⟨rfl, rfl⟩
            have HBY2 := Lib.hid (fun q => bdrew HBY.out q); clear HBY
            clear hy2 hJ hb2l
            have HJJ := Lib.hid (And.intro hmb hJj); clear hmb hJj
            cases mb with
            | true =>
              go_wp2_with fail
              go_quiet (fail)
              go_wp2_with fail
              go_roundg g2
              case measure => omega
              case rel => exact ⟨j + 1, true, by omega, rfl, by go_num, fun _ => rfl, HBY2.out _⟩
            | false =>
              by_cases hp : pj = at'
              · subst hp
                by_cases hq : bj.base = b.base
                · rw [hq] at d1
                  go_wp2_with fail
                  go_quiet (fail)
                  go_wp2_with fail
                  go_roundg g2
                  case measure => omega
                  case rel => exact ⟨j + 1, true, by omega, by simp, by go_num, fun _ => rfl, HBY2.out _⟩
                · have hqf : (bj.base == b.base) = false := by simpa using hq
                  go_wp2_with fail
                  go_quiet (fail)
                  go_wp2_with fail
                  go_roundg g2
                  case measure => omega
                  case rel => exact ⟨j + 1, false, by omega, by simp, by go_num, fun h => (Nat.lt_or_ge J j).elim HJJ.out.1 fun h1 => absurd (HJJ.out.2 (by omega)).2 hq, HBY2.out _⟩
              · have hpi : ¬ ((pj : Int) = (at' : Int)) := by omega
                have hpf : ((pj : Int) == (at' : Int)) = false := by simpa using hpi
                go_wp2_with fail
                go_quiet (fail)
                go_wp2_with fail
                go_roundg g2
                case measure => omega
                case rel => exact ⟨j + 1, false, by omega, by simp, by go_num, fun h => (Nat.lt_or_ge J j).elim HJJ.out.1 fun h1 => absurd (HJJ.out.2 (by omega)).1 hp, HBY2.out _⟩
  · go_enter Try.func5, Try.ntmps5
    have hb2 : 4000 < n ∨ (n ≤ 4000 ∧ every < 1) := by omega
    clear hbig
    rcases hb2 with h1 | ⟨h1, h2⟩
    all_goals
      go_wp2_with fail
      refine (HAW.out w).mono ?_
      rintro e w1 ⟨rfl, hb1⟩
      go_wp2_with fail
      go_ret
      exact ⟨rfl, hb1⟩
end Go.Proofs.Ytchdolcnhopmjaa

/- The law package's walk (cordwainlaw13): the first records of a walk. -/
import Derived.BigRegionIn
import Derived.Test.YtbbekgliaedigaaFoI
namespace Go.Proofs.Ytbbekgliaedigaa
open Go.RowKit Go.Shelf
attribute [local go_sem] Oper.semAt_some

/-- The cells of what came. -/
def fo.xrow (pre : List FoX) : List Value := (pre.map fun x => (fo.xcells x).toList).flatten
theorem fo.xrow_snoc (pre : List FoX) (x : FoX) : fo.xrow (pre ++ [x]) = fo.xrow pre ++ (fo.xcells x).toList := by simp [fo.xrow]
/-- What the rounds of walk keep: the row in its box, and what its records lean on. -/
def fo.WI (z : Nat) (w : World) (most : Int) (pre : List FoX) (W : World) : Prop :=
  (∃ v, Boxed W (z + 1) 45 v ∧ W.ownsRow (z + 2) 54 6 v pre.length (fo.xrow pre)) ∧ InB [z + 1] W ∧ (∀ x ∈ pre, Dep (Safe [z + 1] W) W (fun U => RecR U (fo.xcells x).toList x.1)) ∧ Boxed W z 3 (.int .i64 most) ∧ Below z w W ∧ (pre.length : Int) ≤ most
theorem fo.WI_own (z : Nat) (w : World) (most : Int) (B : Nat) (hz : z ≤ w.heap.size) (hB : z ≤ B) : OwnFrom B (fo.WI z w most) := fun pre W W' row h hg hr => by
  obtain ⟨⟨v, h1, h2⟩, h5, h6, h7, h8, h9⟩ := h
  have hr' : ∀ r, row = some r → ∃ o : Obj, W.heap[r]? = some o ∧ o.isCells = false := fun r e => (hr r e).2
  have hbx : ∀ {b : Nat} {t : TypeId} {v : Value}, Boxed W b t v → Boxed W' b t v := fun {b t v} h => h.kept hg fun e => by
    obtain ⟨o, ho, hc⟩ := hr' b e.symm
    rw [show W.heap[b]? = _ from h] at ho
    cases ho
    cases hc
  have hrw : ∀ {b s n : Nat} {e : TypeId} {v : Value} {xs : List Value}, W.ownsRow b e s v n xs → W'.ownsRow b e s v n xs := fun {b s n e v xs} h => by
    refine h.kept hg ?_
    rcases h.2 with ⟨rfl, _⟩ | ⟨g, cap, cur, rfl, _, hgb, _⟩
    · exact .inl rfl
    · refine .inr fun e => ?_
      obtain ⟨o, ho, hc⟩ := hr' g e.symm
      rw [hgb] at ho
      cases ho
      cases hc
  exact ⟨⟨v, hbx h1, hrw h2⟩, h5.grown hg hr', fun x hx => (h6 x hx).grown h5 hg hr', hbx h7, h8.grown hg (Nat.le_trans hz h8.size) fun k e => Nat.le_trans hB (hr k e).1, h9⟩
/-- The row that was gathered leans on blocks of cells. -/
theorem fo.WI_out {z : Nat} {w : World} {most : Int} {pre : List FoX} {W : World} (h : fo.WI z w most pre W) :
    ∃ A c, Boxed W (z + 1) 45 (.slice A pre.length c) ∧ Dep (fun _ => True) W (fun U => RecsV U (.slice A pre.length c) (pre.map Prod.fst)) := by
  obtain ⟨⟨v, h1, h2⟩, h5, h6, -⟩ := h
  have hv := own_at h2
  obtain ⟨A, c, rfl, hc, hat⟩ := hv
  have hcm := own_cap h2
  have hd1 : Dep (fun _ => True) W (fun U => At U A (pre.length * 6) (fun j => (fo.xrow pre).getD j undef)) := Dep.at' hat fun _ _ _ _ => trivial
  have hd2 : ∀ (l : List FoX), (∀ x ∈ l, x ∈ pre) → Dep (fun _ => True) W (fun U => ∀ x ∈ l, RecR U (fo.xcells x).toList x.1) := by
    intro l
    induction l with
    | nil => exact fun _ => .always fun _ x hx => by cases hx
    | cons y l ih =>
      intro hl
      refine ((h6 y (hl y (List.mem_cons_self ..))).any.both (ih fun x hx => hl x (List.mem_cons_of_mem _ hx))).imp fun U hu x hx => ?_
      rcases List.mem_cons.1 hx with rfl | hx
      · exact hu.1
      · exact hu.2 x hx
  refine ⟨A, c, h1, (hd1.both (hd2 pre fun _ h => h)).imp fun U hu => ⟨A, c, _, by rw [List.length_map], by rw [List.length_map]; exact hc, hcm, by rw [List.length_map]; exact hu.1, fun i r hi => ?_⟩⟩
  rw [List.getElem?_map] at hi
  cases hx : pre[i]? with
  | none => rw [hx] at hi; cases hi
  | some x =>
    rw [hx] at hi
    obtain rfl : x.1 = r := by simpa using hi
    have hmem : x ∈ pre := List.mem_of_getElem? hx
    have hg := fun k hk => flat_get (fun x : FoX => (fo.xcells x).toList) 6 (fun _ => rfl) pre i k x hx hk
    have e : cellsAt (fun j => (fo.xrow pre).getD j undef) i 6 = (fo.xcells x).toList := by
      unfold cellsAt
      show [(fo.xrow pre).getD (i * 6 + 0) undef, (fo.xrow pre).getD (i * 6 + 1) undef, (fo.xrow pre).getD (i * 6 + 2) undef, (fo.xrow pre).getD (i * 6 + 3) undef, (fo.xrow pre).getD (i * 6 + 4) undef, (fo.xrow pre).getD (i * 6 + 5) undef] = _
      unfold fo.xrow
      rw [hg 0 (by omega), hg 1 (by omega), hg 2 (by omega), hg 3 (by omega), hg 4 (by omega), hg 5 (by omega)]
      rfl
    rw [e]
    exact hu.2 x hmem
/-- A round that gathers. -/
theorem fo.wround {z : Nat} {w W w2 : World} {most : Int} {pre : List FoX} {x : FoX} {v v1 : Value} {t1 : Obj} (B : Nat)
    (hI : fo.WI z w most pre W) (hR : fo.R [z + 1] x W) (hzw : z ≤ w.heap.size) (hm : (pre.length : Int) < most)
    (ba : Boxed W (z + 1) 45 v) (ra : W.ownsRow (z + 2) 54 6 v pre.length (fo.xrow pre))
    (hown1 : w2.ownsRow (z + 2) 54 6 v1 (pre.length + 1) (fo.xrow pre ++ (fo.xcells x).toList)) (hgrow1 : (W.alloc t1).grownBy w2 v.ownBlock) (hl1 : v1.ownBlock = v.ownBlock ∨ v1.ownBlock = some (W.alloc t1).heap.size) :
    Boxed w2 (z + 1) 45 v ∧ KeepsFrom B W (w2.setCell ⟨z + 1, 0, none⟩ v1) ∧ Kept [z + 1] W (w2.setCell ⟨z + 1, 0, none⟩ v1) ∧ fo.WI z w most (pre ++ [x]) (w2.setCell ⟨z + 1, 0, none⟩ v1) := by
  obtain ⟨-, hin, hdeps, bm, hB, -⟩ := hI
  have hzW : z ≤ W.heap.size := Nat.le_trans hzw hB.size
  obtain ⟨q1, q2, q3, q4, q5, q6⟩ := box_appended (n₀ := z) ba (by omega) (by omega) ra hzW hown1 hgrow1
  have bm1 := q6 _ _ _ (by omega) (by omega) bm
  have c1 : Chg W (w2.setCell ⟨z + 1, 0, none⟩ v1) (fun k => k = z + 1 ∨ v.ownBlock = some k) :=
    ((Chg.alloc W t1 (fun k => k = z + 1 ∨ v.ownBlock = some k)).trans (Chg.grown hgrow1) fun k _ h => .inr h).trans (Chg.setCell w2 (z + 1) 0 v1) fun k _ h => .inl h
  have hkept : Kept [z + 1] W (w2.setCell ⟨z + 1, 0, none⟩ v1) := Kept.boxes c1 (fun k hk => by
      rcases hk with rfl | hk
      · exact .inl (by simp)
      · exact .inr ⟨z + 1, by simp, by rw [boxOf_boxed ba]; exact hk⟩) fun b hb => by
    obtain rfl : b = z + 1 := by simpa using hb
    refine ⟨.of_boxed q2, fun k e => ?_⟩
    rw [boxOf_boxed q2] at e
    refine ⟨(q3.lt k e).2, ?_⟩
    rcases hl1 with h | h
    · exact .inl ⟨z + 1, by simp, by rw [boxOf_boxed ba, ← h]; exact e⟩
    · rw [h] at e
      have e : (W.alloc t1).heap.size = k := by simpa using e
      refine .inr ?_
      rw [← e, World.size_alloc]
      omega
  refine ⟨q1, q4.from B, hkept, ⟨v1, q2, by rw [fo.xrow_snoc, List.length_append]; exact q3⟩, hkept.2.2.2 hin, fun y hy => ?_, bm1, hB.trans q5, by rw [List.length_append, List.length_singleton]; omega⟩
  rcases List.mem_append.1 hy with hy | hy
  · exact (hdeps y hy).kept hkept
  · obtain rfl : y = x := by simpa using hy
    exact hR.2.kept hkept

/-- What walk answers. -/
def fo.WalkPost (rs : List Rec) (most : Int) (w : World) (e : Ending) (w' : World) : Prop :=
  ∃ A c l, l = rs.take most.toNat ∧ e = .returned (.slice A l.length c) ∧ RecsV w' (.slice A l.length c) l ∧ Below w.heap.size w w'
theorem fo.walkpost {rs : List Rec} {w V : World} {most : Int} {pre : List FoX} {A : Option Addr} {c : Nat} (hd : pre.map Prod.fst = rs.take most.toNat) (h : RecsV V (.slice A pre.length c) (pre.map Prod.fst)) (hb : Below w.heap.size w V) : fo.WalkPost rs most w (.returned (.slice A pre.length c)) V := by
  have hl : (rs.take most.toNat).length = pre.length := by rw [← hd, List.length_map]
  refine ⟨A, c, _, rfl, by rw [hl], ?_, hb⟩
  rw [hl, ← hd]
  exact h

set_option maxRecDepth 100000 in
set_option maxHeartbeats 4000000 in
theorem law13.walk_any (Bp : Nat) (A : Option Addr) (m c : Nat) (bs : List Bat) (f : Nat → Value) (most : Int) (w : World) (hlen : bs.length = m) (hsm : fo.Small bs) (hfl : (rc.flat bs).length ≤ 100000) (hmost : 0 ≤ most) (hbp : Blk w Bp 43 #[.slice A m c]) (hsrc : fo.Src f A bs w) :
    Calls Try.prog 32 #[.func (.func 95) #[] #[.pointer (some ⟨Bp, 0, none⟩)], .int .i64 most] w (fo.WalkPost (rc.flat bs) most w) := by
  refine (callsIn_wide (n := 5)).1 ?_
  have h1 : 1 ≤ 5 := by omega
  refine callsIn_of_wp_marks Try.func32 rfl trivial ?_ rfl
  simp only [Try.ntmps32, List.size_toArray, List.length_cons, List.length_nil, Nat.reduceAdd, Nat.reduceSub, Array.replicate_succ, Array.replicate_zero, List.push_toArray, List.append_toArray, List.nil_append, List.cons_append]
  have hnil : ∀ (Bs : Nat) (w : World), (binOp BinOp.eql 62 (.func (.func 95) #[] #[.pointer (some ⟨Bs, 0, none⟩)]) .nilFunc).run Try.prog w = .ok (.bool false) w := fun _ _ => by kernel_rfl
  have HBP := Lib.hid hbp; clear hbp
  have HSRC := Lib.hid hsrc; clear hsrc
  have HLEN := Lib.hid hlen; clear hlen
  have HSM := Lib.hid hsm; clear hsm
  gi_wp2_with fail
  obtain ⟨z, hz⟩ : ∃ z, z = w.heap.size := ⟨_, rfl⟩
  obtain ⟨w1, hw1⟩ : ∃ w1, w1 = (w.alloc (.cells #[.int .i64 most] 3)).alloc (.cells #[.slice none 0 0] 45) := ⟨_, rfl⟩
  rw [← hw1, ← hz]
  have hB1 : Below w.heap.size w w1 := by rw [hw1]; exact ((Below.refl _ w).alloc (Nat.le_refl _) _).alloc (by simp) _
  have hz1 : w1.heap.size = z + 2 := by rw [hw1, hz]; simp
  have bM : Boxed w1 z 3 (.int .i64 most) := by rw [hw1, hz]; exact (Boxed.new w _ _).alloc _
  have bL : Boxed w1 (z + 1) 45 (.slice none 0 0) := by
    have h := Boxed.new (w.alloc (.cells #[.int .i64 most] 3)) 45 (.slice none 0 0)
    rw [World.size_alloc, ← hw1, ← hz] at h
    exact h
  have hbs : ∀ b ∈ [z + 1], b = z + 1 := fun b hb => by simpa using hb
  have hnb : ∀ b ∈ [z + 1], boxOf w1 b = none := fun b hb => by
    rw [hbs b hb, boxOf_boxed bL]
    rfl
  have hin : InB [z + 1] w1 := fun b hb => ⟨by rw [hbs b hb]; exact .of_boxed bL, fun k e => by rw [hnb b hb] at e; cases e⟩
  have hsrc1 : Dep (Safe [z + 1] w1) w1 (fo.Src f A bs) := ((HSRC.out.dep (Z := fun k => k < w.heap.size) fun k hk => hk).below hB1).weak fun k hk _ => ⟨fun h => by have := hbs k h; omega, fun b hb e => by rw [hnb b hb] at e; cases e⟩
  have hh := fo.hands 4 (by omega) Bp [z + 1] A m c bs f w1 HLEN.out HSM.out hin ((hB1.block Bp HBP.out.lt).trans HBP.out) hsrc1
  have hI0 : fo.WI z w most [] w1 := ⟨⟨_, bL, World.ownsRow_nil _ _ _ _⟩, hin, (fun x hx => by cases hx), bM, by rw [hz]; exact hB1, by simpa using hmost⟩
  have hzw : z ≤ w.heap.size := Nat.le_of_eq hz
  have HB1 := Lib.hid (And.intro hB1 hz); clear bM bL hnb hw1 hB1 hsrc1 HBP HSRC hin hz
  have hnil' := hnil Bp
  clear hnil
  refine for_eachB (F := Fence.wide) (n := 5) rfl h1 (gf := 95) (lb := #[.pointer (some ⟨Bp, 0, none⟩)]) rfl trivial (enters_of Try.func95 (by kernel_rfl) rfl)
    hh (Below.refl _ _) Kept.trans (fun W o h => Kept.alloc o fun b hb => by have := hbs b hb; omega) (fun W l o o' hl ho hcc _ => Kept.put ho hcc fun b hb => by have := hbs b hb; omega) (fun _ => rfl)
    (fo.WI z w most) (fun cd pre W => cd = .exit 0 ∧ ∃ pre0 x, pre = pre0 ++ [x] ∧ most = (pre0.length : Int) ∧ fo.WI z w most pre0 W) (fo.WI_own z w most _ hzw (by omega)) (fun cd s X Y row hs hg hr => by
      obtain ⟨h1, pre0, x, h2, h3, h4⟩ := hs
      exact ⟨h1, pre0, x, h2, h3, fo.WI_own z w most w1.heap.size hzw (by omega) pre0 X Y row h4 hg hr⟩) (fo.R_own _ _) (fun _ _ _ _ h _ _ => h) (fun _ _ _ _ h _ _ => h)
    hI0 54 fo.xcells
    (fun x g => { tmps := #[.func (.func 95) #[] #[.pointer (some ⟨Bp, 0, none⟩)], .int .i64 most, undef, .pointer (some ⟨z, 0, none⟩), .slice none 0 0, .pointer (some ⟨z + 1, 0, none⟩), .pointer (some ⟨g, 0, none⟩), .func (.func 95) #[] #[.pointer (some ⟨Bp, 0, none⟩)], .bool false, .func (.func 95) #[] #[.pointer (some ⟨Bp, 0, none⟩)], .agg (fo.xcells x), undef, undef, undef, undef, undef, undef, undef, undef, undef], defers := [] }) ?assign ?body ?done ?stop
  case assign =>
    rintro l ⟨r, ⟨Ak, ck⟩, ⟨Av, cv⟩⟩ W K hK
    unfold fo.encs
    unfold fo.xcells fo.cells at hK ⊢
    dsimp only at hK ⊢
    gi_wp2
    exact hK
  case body =>
    rintro l pre ⟨r, ⟨Ak, ck⟩, ⟨Av, cv⟩⟩ g W hg1 hg2 hk hI hR hnx
    have hlen : pre.length < 100000 := by
      obtain ⟨rest, hr⟩ := hnx
      have := congrArg List.length hr
      rw [List.length_append, List.length_map, List.length_append] at this
      simp only [List.length_singleton] at this
      omega
    clear hnx
    unfold fo.xcells fo.cells at hk ⊢
    dsimp only at hk ⊢
    obtain ⟨⟨v, ba, ra⟩, -, -, bm, hB, hle⟩ := id hI
    obtain ⟨Aa, ca, rfl, hca, -⟩ := own_at ra
    have cA := ba.cell
    have cM := bm.cell
    have fA := ba.frozen
    have hzW := hB.size
    by_cases hb : most ≤ (pre.length : Int)
    · have HI := Lib.hid hI; clear hI
      gi_wp2
      exact ⟨KeepsFrom.refl _ _, Kept.refl _ _, rfl, pre, _, rfl, by omega, HI.out⟩
    · obtain ⟨j0, hj, hj0, hj1, hj2⟩ := info_parts rc.info
      have HJ0 := Lib.hid (And.intro hj (And.intro hj0 (And.intro hj1 hj2))); clear hj hj0 hj1 hj2
      have k0 := hk.cell 0 rfl
      have k1 := hk.cell 1 rfl
      have k2 := hk.cell 2 rfl
      have k3 := hk.cell 3 rfl
      have k4 := hk.cell 4 rfl
      have k5 := hk.cell 5 rfl
      have HI := Lib.hid (And.intro hI (And.intro hR (And.intro ba ra))); clear hI hR ba ra
      have HK := Lib.hid hk; clear hk
      gi_wp2_with (gi_at_builtin; go_loud (refine wpListIn_append_own_at _ rfl (.tmp 15) (.tmp 17) 45 rfl (z + 2) 54 j0 _ 6 80 Try.underlying45 HJ0.out.1 HJ0.out.2.1 HJ0.out.2.2.1 HJ0.out.2.2.2 rfl (by decide) _ _ _ rfl (HI.out.2.2.2.alloc _) ⟨W.heap.size, 0, none⟩ 1 1 [.int .i64 r.off, .int .i64 r.time, .bool r.hasKey, .slice Ak r.key.length ck, .bool r.hasVal, .slice Av r.val.length cv] rfl rfl (cells_new _ [.int .i64 r.off, .int .i64 r.time, .bool r.hasKey, .slice Ak r.key.length ck, .bool r.hasVal, .slice Av r.val.length cv] _ _ rfl) (by simp [Value.oneCell']) (by unfold maxLen; omega) (by omega) (by simp; omega) ?_); go_loud (intro v1 w2 hown1 hgrow1 _ hl1; obtain ⟨g1, cap1, hv1⟩ := ownsRow_succ hown1; subst hv1; have hround := fo.wround (z := z) (w := w) (W := W) (w2 := w2) (most := most) (pre := pre) (x := (r, (Ak, ck), (Av, cv))) (z + 2) HI.out.1 HI.out.2.1 hzw (by omega) HI.out.2.2.1 HI.out.2.2.2 hown1 hgrow1 hl1; have cB := hround.1.cell; have fB := hround.1.frozen; have HRD := Lib.hid hround.2; clear hround hown1 hgrow1 hl1))
      exact ⟨HRD.out.1, HRD.out.2.1, HRD.out.2.2⟩
  case done =>
    rintro D xs W hD hS hI hK
    obtain ⟨Aa, ca, ba, hdep⟩ := fo.WI_out hI
    have hB : Below z w W := hI.2.2.2.2.1
    have hle : (xs.length : Int) ≤ most := hI.2.2.2.2.2
    have cA := ba.cell
    have hd : xs.map Prod.fst = (rc.flat bs).take most.toNat := by
      have hS : xs.map Prod.fst = rc.flat bs := hS
      rw [hS, List.take_of_length_le]
      rw [← hS, List.length_map]
      omega
    have HH := Lib.hid (And.intro hd (And.intro hdep hB)); clear hd hdep hB hI hS
    gi_wp2_with fail
    refine ⟨by simp, .inl ⟨_, _, rfl, run_takeDeferred hK, ?_⟩⟩
    refine ⟨_, results_tmp rfl _ _ _, ?_⟩
    exact fo.walkpost HH.out.1 (HH.out.2.1.put hK rfl) (by have h := HH.out.2.2; rw [HB1.out.2] at h; exact h.trans (belowK_b (w := w) (Nat.le_refl _) W D _ (.deferred none) (by have := HB1.out.1.size; omega) hK rfl rfl))
  case stop =>
    rintro D cd pre W hD hpre ⟨rfl, pre0, x, rfl, hmo, hI⟩ hK
    obtain ⟨Aa, ca, ba, hdep⟩ := fo.WI_out hI
    have hB : Below z w W := hI.2.2.2.2.1
    have cA := ba.cell
    have hd : pre0.map Prod.fst = (rc.flat bs).take most.toNat := by
      obtain ⟨rest, hr⟩ := hpre
      rw [← hr, List.map_append, List.append_assoc, List.take_append_of_le_length (by rw [List.length_map]; omega), List.take_of_length_le (by rw [List.length_map]; omega)]
    have HH := Lib.hid (And.intro hd (And.intro hdep hB)); clear hd hdep hB hI hpre
    gi_wp2_with fail
    refine ⟨by simp, .inl ⟨_, _, rfl, run_takeDeferred hK, ?_⟩⟩
    refine ⟨_, results_tmp rfl _ _ _, ?_⟩
    exact fo.walkpost HH.out.1 (HH.out.2.1.put hK rfl) (by have h := HH.out.2.2; rw [HB1.out.2] at h; exact h.trans (belowK_b (w := w) (Nat.le_refl _) W D _ (.deferred none) (by have := HB1.out.1.size; omega) hK rfl rfl))
end Go.Proofs.Ytbbekgliaedigaa

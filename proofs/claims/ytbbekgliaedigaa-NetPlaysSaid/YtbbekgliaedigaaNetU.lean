/- The document's own net (cordwainref4): Swap. -/
import Derived.BigRegion
import Derived.Test.YtbbekgliaedigaaNetT
namespace Go.Proofs.Ytbbekgliaedigaa
open Go.RowKit
set_option maxRecDepth 20000

theorem ref.row_set : ∀ (l : List RItm) (i : Nat) (x : RItm), ((ref.row l).set (i * 2) (.int .i64 x.id)).set (i * 2 + 1) (.slice x.A x.k x.c) = ref.row (l.set i x)
  | [], i, x => by simp [ref.row]
  | y :: l, 0, x => by rw [List.set_cons_zero, ref.row_cons, ref.row_cons]; rfl
  | y :: l, i + 1, x => by
    rw [List.set_cons_succ, ref.row_cons, ref.row_cons, ← ref.row_set l i x, show (i + 1) * 2 = i * 2 + 2 by omega]
    rfl
theorem ref.row_frozen {w : World} {base g n c : Nat} {xs : List Value} (h : w.ownsRow base 154 2 (.slice (some ⟨g, 0, none⟩) n c) n xs) (j : Nat) : w.frozen? ⟨g, j, none⟩ = false := by
  rcases h.2 with ⟨h1, -⟩ | ⟨g', cap, cur, h1, h3, h4, -⟩
  · cases h1
  · obtain ⟨rfl, rfl⟩ : g = g' ∧ c = cap := by simpa using h1
    exact Blk.frozen (T := 154) (cs := cur) h4 j
theorem ref.swap_no (w0 : World) (q last : Nat) (l : List RItm) (a b : Int) (w : World) (h : RefAt w0 w q last l) (hlast : last ≤ 100000000) (hno : (∀ x ∈ l, x.id ≠ a) ∨ (∀ x ∈ l, x.id ≠ b)) :
    Calls Try.prog 66 #[.pointer (some ⟨q, 0, none⟩), .int .i64 a, .int .i64 b] w fun e w' => e = .returned (.int .i64 5) ∧ w' = w := by
  have ha := ref.at_any w0 q last l a w h (by omega)
  have hb := ref.at_any w0 q last l b w h (by omega)
  clear h
  obtain ⟨m1, hm1, hq1⟩ : ∃ m, m = ref.place l a ∧ -1 ≤ m := ⟨_, rfl, by
    by_cases hh : ∃ x ∈ l, x.id = a
    · obtain ⟨i, -, e, -⟩ := ref.place_some hh
      omega
    · rw [ref.place_none (fun x hx e => hh ⟨x, hx, e⟩)]; omega⟩
  obtain ⟨m2, hm2, hq2⟩ : ∃ m, m = ref.place l b ∧ -1 ≤ m := ⟨_, rfl, by
    by_cases hh : ∃ x ∈ l, x.id = b
    · obtain ⟨i, -, e, -⟩ := ref.place_some hh
      omega
    · rw [ref.place_none (fun x hx e => hh ⟨x, hx, e⟩)]; omega⟩
  have hd : m1 = -1 ∨ m2 = -1 := by
    rcases hno with h | h
    · exact .inl (hm1.trans (ref.place_none h))
    · exact .inr (hm2.trans (ref.place_none h))
  rw [← hm1] at ha
  rw [← hm2] at hb
  clear hm1 hm2 hno
  by_cases h1 : m1 = -1
  · subst h1
    clear hd hq1 hq2
    go_enter Try.func66, Try.ntmps66
    go_wp2_with fail
    refine ha.mono ?_
    rintro e w1 ⟨rfl, rfl⟩
    clear ha
    go_wp2_with fail
    refine hb.mono ?_
    rintro e w2 ⟨rfl, rfl⟩
    clear hb
    go_wp2
    go_ret
    exact ⟨rfl, rfl⟩
  · obtain rfl : m2 = -1 := by rcases hd with h | h; exact absurd h h1; exact h
    have hd1 : decide (m1 < 0) = false := decide_eq_false (by omega)
    clear hd hq1 hq2 h1
    go_enter Try.func66, Try.ntmps66
    go_wp2_with fail
    refine ha.mono ?_
    rintro e w1 ⟨rfl, rfl⟩
    clear ha
    go_wp2_with fail
    refine hb.mono ?_
    rintro e w2 ⟨rfl, rfl⟩
    clear hb
    go_wp2
    go_ret
    exact ⟨rfl, rfl⟩

set_option maxHeartbeats 4000000 in
theorem ref.swap_apart (w0 : World) (q last : Nat) (l : List RItm) (a b : Int) (w : World) (h : RefAt w0 w q last l) (hlast : last ≤ 1000000) (i j : Nat) (x y : RItm) (hpa : ref.place l a = (i : Int)) (hx : l[i]? = some x) (hpb : ref.place l b = (j : Int)) (hy : l[j]? = some y) (hij : i ≠ j) :
    Calls Try.prog 66 #[.pointer (some ⟨q, 0, none⟩), .int .i64 a, .int .i64 b] w fun e w' => e = .returned (.int .i64 0) ∧ RefAt w0 w' q last ((l.set i y).set j x) ∧ Chg w w' (fun k => k = q) := by
  have ha := ref.at_any w0 q last l a w h (by omega)
  have hb := ref.at_any w0 q last l b w h (by omega)
  rw [hpa] at ha
  rw [hpb] at hb
  obtain ⟨v, hq, hr, hbs, hll⟩ := h
  have hil := (List.getElem?_eq_some_iff.1 hx).1
  have hjl := (List.getElem?_eq_some_iff.1 hy).1
  obtain ⟨A, cr, rfl, -, hatr⟩ := own_at hr
  obtain ⟨n, hn⟩ : ∃ n, n = l.length := ⟨_, rfl⟩
  rw [← hn] at hll hr hq hatr hil hjl
  have HN := Lib.hid hn.symm; clear hn hpa hpb
  have c1 : w.cell? ⟨q, 1, none⟩ = some (.slice A n cr) := hq.cell 1 rfl
  obtain ⟨i0, hi, hz0, hz1, hz2⟩ := info_parts infoRItem
  have HQ := Lib.hid hq; clear hq
  have HR := Lib.hid hr; clear hr
  have HBS := Lib.hid hbs; clear hbs
  have HATR := Lib.hid hatr; clear hatr
  have hm1 : (w.alloc (.cells #[] 154)).ownsRow w.heap.size 154 2 (.slice (some ⟨w.heap.size, 0, none⟩) 0 0) 0 [] := World.ownsRow_made w #[] 0 (Nat.le_refl _) (by unfold maxLen; omega) (by simp)
  have HM1 := Lib.hid hm1; clear hm1
  have HX := Lib.hid (And.intro hx hy); clear hx hy
  obtain ⟨id, A1, k1, cc, bs⟩ := x
  obtain ⟨id2, A2, k2, cc2, bs2⟩ := y
  go_enter Try.func66, Try.ntmps66
  go_wp2_with fail
  refine ha.mono ?_
  rintro e w1 ⟨rfl, rfl⟩
  clear ha
  go_wp2_with fail
  refine hb.mono ?_
  rintro e w2 ⟨rfl, rfl⟩
  clear hb
  have hql := HQ.out.lt
  go_wp2_with (at_builtin; refine wpList_app2 _ rfl (.tmp 22) (.tmp 26) 109 rfl w2.heap.size 154 i0 _ 2 32 Try.underlying109 hi hz0 hz1 hz2 rfl (by decide) _ 0 [] rfl HM1.out A n cr (fun j => (ref.row l).getD j undef) rfl (HATR.out.alloc _) (by rw [← HN.out]; exact ref.row_one l) (by unfold maxLen; omega) (by omega) (by simp) ?_; intro v9 w3 hown hg hl; rw [List.nil_append, ref.row_all HN.out, Nat.zero_add] at hown; obtain ⟨g9, c9, rfl, -, -, -, -, -⟩ := own_row_pos hown (by omega); have HO9 := Lib.hid hown; have HB3 := Lib.hid (((Below.refl _ w2).alloc (Nat.le_refl _) _).grown hg (by simp) (fun k hk => (HM1.out.lt k hk).1)); clear hown hg hl c1)
  obtain ⟨d0, d1, hgl⟩ := ref.row_cells HO9.out HX.out.1
  obtain ⟨e0, e1, -⟩ := ref.row_cells HO9.out HX.out.2
  have hfr := fun k => ref.row_frozen HO9.out k
  have d0' : w3.drew.cell? ⟨g9, i * 2, none⟩ = _ := d0
  have d1' : w3.drew.cell? ⟨g9, i * 2 + 1, none⟩ = _ := d1
  have e0' : w3.drew.cell? ⟨g9, j * 2, none⟩ = _ := e0
  have e1' : w3.drew.cell? ⟨g9, j * 2 + 1, none⟩ = _ := e1
  have hfr' : ∀ k, w3.drew.frozen? ⟨g9, k, none⟩ = false := hfr
  dsimp only at d0 d1 d0' d1' e0 e1 e0' e1'
  go_upto_region 5 with fail
  go_region
  clear d0' d1' hfr' e0' e1'
  obtain ⟨w4, hw4⟩ : ∃ w4, w4 = (((w3.setCell ⟨g9, i * 2, none⟩ (.int .i64 id2)).setCell ⟨g9, i * 2 + 1, none⟩ (.slice A2 k2 cc2)).setCell ⟨g9, j * 2, none⟩ (.int .i64 id)).setCell ⟨g9, j * 2 + 1, none⟩ (.slice A1 k1 cc) := ⟨_, rfl⟩
  rw [← hw4]
  have hset := own_set (own_set (own_set (own_set HO9.out (i * 2) (.int .i64 id2)) (i * 2 + 1) (.slice A2 k2 cc2)) (j * 2) (.int .i64 id)) (j * 2 + 1) (.slice A1 k1 cc)
  have r1 := ref.row_set l i ⟨id2, A2, k2, cc2, bs2⟩
  have r2 := ref.row_set (l.set i ⟨id2, A2, k2, cc2, bs2⟩) j ⟨id, A1, k1, cc, bs⟩
  dsimp only at r1 r2
  rw [r1, r2, ← hw4] at hset
  have hc4 : Chg w3 w4 (fun k => k = g9) := by
    rw [hw4]
    exact (((Chg.setCell w3 g9 (i * 2) _).trans (Chg.setCell _ g9 (i * 2 + 1) _) fun _ _ h => h).trans (Chg.setCell _ g9 (j * 2) _) fun _ _ h => h).trans (Chg.setCell _ g9 (j * 2 + 1) _) fun _ _ h => h
  have hg9 : w2.heap.size ≤ g9 := (HO9.out.lt g9 rfl).1
  have hb4 : Below w2.heap.size w2 w4 := HB3.out.trans (hc4.below HB3.out.size fun k hk => by have hk : k = g9 := hk; omega)
  clear hw4 r1 r2 d0 d1 hfr e0 e1
  obtain ⟨w5, hw5⟩ : ∃ w5, w5 = w4.drew := ⟨_, rfl⟩
  rw [← hw5]
  have ho5 : w5.ownsRow w2.heap.size 154 2 (.slice (some ⟨g9, 0, none⟩) n c9) n (ref.row ((l.set i ⟨id2, A2, k2, cc2, bs2⟩).set j ⟨id, A1, k1, cc, bs⟩)) := by rw [hw5]; exact hset
  have hb5 : Below w2.heap.size w2 w5 := by rw [hw5]; exact bdrew hb4 1
  clear hset hb4 hc4 hw5
  have hq5 := (chg_of (P := fun _ => False) hb5).blk HQ.out fun h => h
  have f1 := hq5.cell 1 rfl
  have ff := fun j => hq5.frozen j
  have hfin : RefAt w0 (w5.setCell ⟨q, 1, none⟩ (.slice (some ⟨g9, 0, none⟩) n c9)) q last ((l.set i ⟨id2, A2, k2, cc2, bs2⟩).set j ⟨id, A1, k1, cc, bs⟩) ∧ Chg w2 (w5.setCell ⟨q, 1, none⟩ (.slice (some ⟨g9, 0, none⟩) n c9)) (fun k => k = q) := by
    have hcf : Chg w5 (w5.setCell ⟨q, 1, none⟩ (.slice (some ⟨g9, 0, none⟩) n c9)) (fun k => k = q) := Chg.setCell _ _ _ _
    have hof := hcf.own ho5 fun k hk e => by subst e; exact hq5.not_row (by decide) ho5 hk
    refine ⟨⟨_, hq5.set 1 _, ?_, fun u hu => ?_, by rw [List.length_set, List.length_set, HN.out]; exact hll⟩, (chg_of (P := fun k => k = q) hb5).trans hcf fun _ _ h => h⟩
    · rw [List.length_set, List.length_set, HN.out]
      exact ownsRow_base hof (Nat.zero_le _)
    · rcases List.mem_or_eq_of_mem_set hu with h | rfl
      · rcases List.mem_or_eq_of_mem_set h with h | rfl
        · exact HBS.out u h
        · exact HBS.out _ (List.mem_of_getElem? HX.out.2)
      · exact HBS.out _ (List.mem_of_getElem? HX.out.1)
  have HFIN := Lib.hid hfin; clear hfin hq5 ho5 hb5
  go_wp2
  go_ret
  exact ⟨rfl, HFIN.out⟩

set_option maxHeartbeats 4000000 in
theorem ref.swap_same (w0 : World) (q last : Nat) (l : List RItm) (a b : Int) (w : World) (h : RefAt w0 w q last l) (hlast : last ≤ 1000000) (i : Nat) (x : RItm) (hpa : ref.place l a = (i : Int)) (hx : l[i]? = some x) (hpb : ref.place l b = (i : Int)) :
    Calls Try.prog 66 #[.pointer (some ⟨q, 0, none⟩), .int .i64 a, .int .i64 b] w fun e w' => e = .returned (.int .i64 0) ∧ RefAt w0 w' q last ((l.set i x).set i x) ∧ Chg w w' (fun k => k = q) := by
  have ha := ref.at_any w0 q last l a w h (by omega)
  have hb := ref.at_any w0 q last l b w h (by omega)
  rw [hpa] at ha
  rw [hpb] at hb
  obtain ⟨v, hq, hr, hbs, hll⟩ := h
  have hil := (List.getElem?_eq_some_iff.1 hx).1
  obtain ⟨A, cr, rfl, -, hatr⟩ := own_at hr
  obtain ⟨n, hn⟩ : ∃ n, n = l.length := ⟨_, rfl⟩
  rw [← hn] at hll hr hq hatr hil
  have HN := Lib.hid hn.symm; clear hn hpa hpb
  have c1 : w.cell? ⟨q, 1, none⟩ = some (.slice A n cr) := hq.cell 1 rfl
  obtain ⟨i0, hi, hz0, hz1, hz2⟩ := info_parts infoRItem
  have HQ := Lib.hid hq; clear hq
  have HR := Lib.hid hr; clear hr
  have HBS := Lib.hid hbs; clear hbs
  have HATR := Lib.hid hatr; clear hatr
  have hm1 : (w.alloc (.cells #[] 154)).ownsRow w.heap.size 154 2 (.slice (some ⟨w.heap.size, 0, none⟩) 0 0) 0 [] := World.ownsRow_made w #[] 0 (Nat.le_refl _) (by unfold maxLen; omega) (by simp)
  have HM1 := Lib.hid hm1; clear hm1
  have HX := Lib.hid hx; clear hx
  obtain ⟨id, A1, k1, cc, bs⟩ := x
  go_enter Try.func66, Try.ntmps66
  go_wp2_with fail
  refine ha.mono ?_
  rintro e w1 ⟨rfl, rfl⟩
  clear ha
  go_wp2_with fail
  refine hb.mono ?_
  rintro e w2 ⟨rfl, rfl⟩
  clear hb
  have hql := HQ.out.lt
  go_wp2_with (at_builtin; refine wpList_app2 _ rfl (.tmp 22) (.tmp 26) 109 rfl w2.heap.size 154 i0 _ 2 32 Try.underlying109 hi hz0 hz1 hz2 rfl (by decide) _ 0 [] rfl HM1.out A n cr (fun j => (ref.row l).getD j undef) rfl (HATR.out.alloc _) (by rw [← HN.out]; exact ref.row_one l) (by unfold maxLen; omega) (by omega) (by simp) ?_; intro v9 w3 hown hg hl; rw [List.nil_append, ref.row_all HN.out, Nat.zero_add] at hown; obtain ⟨g9, c9, rfl, -, -, -, -, -⟩ := own_row_pos hown (by omega); have HO9 := Lib.hid hown; have HB3 := Lib.hid (((Below.refl _ w2).alloc (Nat.le_refl _) _).grown hg (by simp) (fun k hk => (HM1.out.lt k hk).1)); clear hown hg hl c1)
  obtain ⟨d0, d1, hgl⟩ := ref.row_cells HO9.out HX.out
  have hfr := fun k => ref.row_frozen HO9.out k
  have d0' : w3.drew.cell? ⟨g9, i * 2, none⟩ = _ := d0
  have d1' : w3.drew.cell? ⟨g9, i * 2 + 1, none⟩ = _ := d1
  have hfr' : ∀ k, w3.drew.frozen? ⟨g9, k, none⟩ = false := hfr
  dsimp only at d0 d1 d0' d1'
  go_upto_region 5 with fail
  go_region
  clear d0' d1' hfr'
  obtain ⟨w4, hw4⟩ : ∃ w4, w4 = (((w3.setCell ⟨g9, i * 2, none⟩ (.int .i64 id)).setCell ⟨g9, i * 2 + 1, none⟩ (.slice A1 k1 cc)).setCell ⟨g9, i * 2, none⟩ (.int .i64 id)).setCell ⟨g9, i * 2 + 1, none⟩ (.slice A1 k1 cc) := ⟨_, rfl⟩
  rw [← hw4]
  have hset := own_set (own_set (own_set (own_set HO9.out (i * 2) (.int .i64 id)) (i * 2 + 1) (.slice A1 k1 cc)) (i * 2) (.int .i64 id)) (i * 2 + 1) (.slice A1 k1 cc)
  have r1 := ref.row_set l i ⟨id, A1, k1, cc, bs⟩
  have r2 := ref.row_set (l.set i ⟨id, A1, k1, cc, bs⟩) i ⟨id, A1, k1, cc, bs⟩
  dsimp only at r1 r2
  rw [r1, r2, ← hw4] at hset
  have hc4 : Chg w3 w4 (fun k => k = g9) := by
    rw [hw4]
    exact (((Chg.setCell w3 g9 (i * 2) _).trans (Chg.setCell _ g9 (i * 2 + 1) _) fun _ _ h => h).trans (Chg.setCell _ g9 (i * 2) _) fun _ _ h => h).trans (Chg.setCell _ g9 (i * 2 + 1) _) fun _ _ h => h
  have hg9 : w2.heap.size ≤ g9 := (HO9.out.lt g9 rfl).1
  have hb4 : Below w2.heap.size w2 w4 := HB3.out.trans (hc4.below HB3.out.size fun k hk => by have hk : k = g9 := hk; omega)
  clear hw4 r1 r2 d0 d1 hfr
  obtain ⟨w5, hw5⟩ : ∃ w5, w5 = w4.drew := ⟨_, rfl⟩
  rw [← hw5]
  have ho5 : w5.ownsRow w2.heap.size 154 2 (.slice (some ⟨g9, 0, none⟩) n c9) n (ref.row ((l.set i ⟨id, A1, k1, cc, bs⟩).set i ⟨id, A1, k1, cc, bs⟩)) := by rw [hw5]; exact hset
  have hb5 : Below w2.heap.size w2 w5 := by rw [hw5]; exact bdrew hb4 1
  clear hset hb4 hc4 hw5
  have hq5 := (chg_of (P := fun _ => False) hb5).blk HQ.out fun h => h
  have f1 := hq5.cell 1 rfl
  have ff := fun j => hq5.frozen j
  have hfin : RefAt w0 (w5.setCell ⟨q, 1, none⟩ (.slice (some ⟨g9, 0, none⟩) n c9)) q last ((l.set i ⟨id, A1, k1, cc, bs⟩).set i ⟨id, A1, k1, cc, bs⟩) ∧ Chg w2 (w5.setCell ⟨q, 1, none⟩ (.slice (some ⟨g9, 0, none⟩) n c9)) (fun k => k = q) := by
    have hcf : Chg w5 (w5.setCell ⟨q, 1, none⟩ (.slice (some ⟨g9, 0, none⟩) n c9)) (fun k => k = q) := Chg.setCell _ _ _ _
    have hof := hcf.own ho5 fun k hk e => by subst e; exact hq5.not_row (by decide) ho5 hk
    refine ⟨⟨_, hq5.set 1 _, ?_, fun u hu => ?_, by rw [List.length_set, List.length_set, HN.out]; exact hll⟩, (chg_of (P := fun k => k = q) hb5).trans hcf fun _ _ h => h⟩
    · rw [List.length_set, List.length_set, HN.out]
      exact ownsRow_base hof (Nat.zero_le _)
    · rcases List.mem_or_eq_of_mem_set hu with h | rfl
      · rcases List.mem_or_eq_of_mem_set h with h | rfl
        · exact HBS.out u h
        · exact HBS.out _ (List.mem_of_getElem? HX.out)
      · exact HBS.out _ (List.mem_of_getElem? HX.out)
  have HFIN := Lib.hid hfin; clear hfin hq5 ho5 hb5
  go_wp2
  go_ret
  exact ⟨rfl, HFIN.out⟩

end Go.Proofs.Ytbbekgliaedigaa

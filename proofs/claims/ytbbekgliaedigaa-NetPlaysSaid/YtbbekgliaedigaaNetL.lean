/- net: contract of Swap. -/
import Derived.BigRegion
import Derived.Deep.CutRange
import Derived.Deep.CutBlock
import Derived.Test.YtbbekgliaedigaaNetF
import Derived.Test.YtbbekgliaedigaaMapE
import Derived.Test.YtbbekgliaedigaaNetC
namespace Go.Proofs.Ytbbekgliaedigaa
open Go.RowKit
set_option maxRecDepth 20000

/-- Two that change places. -/
theorem NInv.swap {last : Nat} {l : List NItm} {g : Int → Option Value} (h : NInv last l g) {i j : Nat} {x y : NItm} (hx : l[i]? = some x) (hxg : x.gone = false) (hy : l[j]? = some y) (hyg : y.gone = false) :
    NInv last ((l.set i y).set j x) (gput (gput g x.id (.int .i64 j)) y.id (.int .i64 i)) := by
  have hi := (List.getElem?_eq_some_iff.1 hx).1
  have hj := (List.getElem?_eq_some_iff.1 hy).1
  have gx := h.at' i x hx hxg
  have gy := h.at' j y hy hyg
  have hne : i ≠ j → x.id ≠ y.id := fun hij e => by
    have := gx.1
    rw [e, gy.1] at this
    simp at this
    omega
  have heq : i = j → x = y := fun e => by
    subst e
    rw [hx] at hy
    simpa using hy
  refine ⟨fun k u hu hug => ?_, fun k v hk hv => ?_⟩
  · by_cases e1 : j = k
    · subst e1
      rw [List.getElem?_set_self (by rw [List.length_set]; exact hj)] at hu
      cases hu
      refine ⟨?_, gx.2⟩
      by_cases hij : i = j
      · subst hij
        rw [heq rfl, gput_same]
      · rw [gput_other _ (hne hij), gput_same]
    · rw [List.getElem?_set_ne e1] at hu
      by_cases e2 : i = k
      · subst e2
        rw [List.getElem?_set_self hi] at hu
        cases hu
        exact ⟨gput_same _ _ _, gy.2⟩
      · rw [List.getElem?_set_ne e2] at hu
        have gu := h.at' k u hu hug
        have h1 : u.id ≠ y.id := fun e => by
          have := gu.1
          rw [e, gy.1] at this
          simp at this
          omega
        have h2 : u.id ≠ x.id := fun e => by
          have := gu.1
          rw [e, gx.1] at this
          simp at this
          omega
        refine ⟨?_, gu.2⟩
        rw [gput_other _ h1, gput_other _ h2]
        exact gu.1
  · by_cases e1 : k = y.id
    · subst e1
      rw [gput_same] at hv
      cases hv
      by_cases hij : i = j
      · subst hij
        have := heq rfl
        subst this
        exact ⟨i, x, by rw [List.getElem?_set_self (by rw [List.length_set]; exact hj)], hxg, rfl, rfl⟩
      · exact ⟨i, y, by rw [List.getElem?_set_ne (fun e => hij e.symm), List.getElem?_set_self hi], hyg, rfl, rfl⟩
    · rw [gput_other _ e1] at hv
      by_cases e2 : k = x.id
      · subst e2
        rw [gput_same] at hv
        cases hv
        exact ⟨j, x, by rw [List.getElem?_set_self (by rw [List.length_set]; exact hj)], hxg, rfl, rfl⟩
      · rw [gput_other _ e2] at hv
        obtain ⟨m, u, h1, h2, h3, h4⟩ := h.back k v hk hv
        have n1 : j ≠ m := by
          rintro rfl
          rw [hy] at h1
          cases h1
          exact e1 h3.symm
        have n2 : i ≠ m := by
          rintro rfl
          rw [hx] at h1
          cases h1
          exact e2 h3.symm
        exact ⟨m, u, by rw [List.getElem?_set_ne n1, List.getElem?_set_ne n2]; exact h1, h2, h3, h4⟩

theorem net.gone_set' {l : List NItm} {i : Nat} {x y : NItm} (h : l[i]? = some x) (hx : x.gone = false) (hy : y.gone = false) : net.goneN (l.set i y) = net.goneN l := by
  conv => rhs; rw [net.cut h]
  rw [net.set_cut (List.getElem?_eq_some_iff.1 h).1]
  unfold net.goneN
  simp [List.filter_append, hx, hy]
theorem net.gone_swap {l : List NItm} {i j : Nat} {x y : NItm} (hx : l[i]? = some x) (hy : l[j]? = some y) (hxg : x.gone = false) (hyg : y.gone = false) : net.goneN ((l.set i y).set j x) = net.goneN l := by
  have h1 := net.gone_set' hx hxg hyg
  by_cases e : i = j
  · subst e
    rw [List.set_set]
    exact net.gone_set' hx hxg hxg
  · rw [net.gone_set' (x := y) (by rw [List.getElem?_set_ne e]; exact hy) hyg hxg, h1]

set_option maxHeartbeats 4000000 in
theorem net.swap_some (B C p last i j : Nat) (l : List NItm) (x y : NItm) (w : World) (h : NetAt B C w p last l) (hlast : last ≤ 100000000) (hx : l[i]? = some x) (hxg : x.gone = false) (hy : l[j]? = some y) (hyg : y.gone = false) (hij : i ≠ j) :
    Calls Try.prog 60 #[.pointer (some ⟨p, 0, none⟩), .int .i64 x.id, .int .i64 y.id] w fun e w' => e = .returned (.int .i64 0) ∧ NetAt B C w' p last ((l.set i y).set j x) ∧ NChg B w w' := by
  have hp1 := net.place_has h hlast hx hxg
  have hp2 := net.place_has h hlast hy hyg
  obtain ⟨rv, mb, N, g, hb, hr, hg, hN, hinv, hbs, hll, hBp, hBm⟩ := h
  have hil := (List.getElem?_eq_some_iff.1 hx).1
  have hjl := (List.getElem?_eq_some_iff.1 hy).1
  obtain ⟨gr, cr, rfl, -, -, hBg, -, -⟩ := own_row_pos hr (by omega)
  have hpm : p ≠ mb := hg.not_blk hb
  have hgp : gr ≠ p := fun e => hb.not_row (by decide) hr (by rw [e]; rfl)
  have hgm : gr ≠ mb := fun e => hg.not_own hr (by rw [e]; rfl)
  have c1 : w.cell? ⟨p, 1, none⟩ = some (.slice (some ⟨gr, 0, none⟩) l.length cr) := hb.cell 1 rfl
  have c3 : w.cell? ⟨p, 3, none⟩ = some (.map (some mb)) := hb.cell 3 rfl
  obtain ⟨d0, d1, d2, hgl⟩ := net.row_cells hr hx
  obtain ⟨e0, e1, e2, -⟩ := net.row_cells hr hy
  have hfr := fun k => net.row_frozen hr k
  obtain ⟨n, hn⟩ : ∃ n, n = l.length := ⟨_, rfl⟩
  rw [← hn] at c1 hil hjl hll
  have HN := Lib.hid hn.symm; clear hn
  have HB := Lib.hid hb; clear hb
  have HR := Lib.hid hr; clear hr
  have HG := Lib.hid hg; clear hg
  have HI := Lib.hid hinv; clear hinv
  have HBS := Lib.hid hbs; clear hbs
  have HX := Lib.hid (And.intro hx hy); clear hx hy
  obtain ⟨id, A, k, cc, gn, bs⟩ := x
  obtain ⟨id2, A2, k2, cc2, gn2, bs2⟩ := y
  dsimp only at *
  subst hxg hyg
  go_enter Try.func60, Try.ntmps60
  go_wp2_with fail
  refine hp1.mono ?_
  rintro e w0 ⟨rfl, rfl⟩
  clear hp1
  go_wp2_with fail
  refine hp2.mono ?_
  rintro e w1 ⟨rfl, rfl⟩
  clear hp2
  go_upto_region 5 with fail
  have c1' : w1.drew.cell? ⟨p, 1, none⟩ = some (.slice (some ⟨gr, 0, none⟩) n cr) := c1
  have d0' : w1.drew.cell? ⟨gr, i * 3, none⟩ = _ := d0
  have d1' : w1.drew.cell? ⟨gr, i * 3 + 1, none⟩ = _ := d1
  have d2' : w1.drew.cell? ⟨gr, i * 3 + 2, none⟩ = _ := d2
  have e0' : w1.drew.cell? ⟨gr, j * 3, none⟩ = _ := e0
  have e1' : w1.drew.cell? ⟨gr, j * 3 + 1, none⟩ = _ := e1
  have e2' : w1.drew.cell? ⟨gr, j * 3 + 2, none⟩ = _ := e2
  have hfr' : ∀ k, w1.drew.frozen? ⟨gr, k, none⟩ = false := hfr
  go_region
  clear c1' d0' d1' d2' e0' e1' e2' hfr'
  obtain ⟨w2, hw2⟩ : ∃ w2, w2 = (((((w1.setCell ⟨gr, i * 3, none⟩ (.int .i64 id2)).setCell ⟨gr, i * 3 + 1, none⟩ (.slice A2 k2 cc2)).setCell ⟨gr, i * 3 + 2, none⟩ (.bool false)).setCell ⟨gr, j * 3, none⟩ (.int .i64 id)).setCell ⟨gr, j * 3 + 1, none⟩ (.slice A k cc)).setCell ⟨gr, j * 3 + 2, none⟩ (.bool false) := ⟨_, rfl⟩
  rw [← hw2]
  have hset := own_set (own_set (own_set (own_set (own_set (own_set HR.out (i * 3) (.int .i64 id2)) (i * 3 + 1) (.slice A2 k2 cc2)) (i * 3 + 2) (.bool false)) (j * 3) (.int .i64 id)) (j * 3 + 1) (.slice A k cc)) (j * 3 + 2) (.bool false)
  have e1 : (((net.row l).set (i * 3) (.int .i64 id2)).set (i * 3 + 1) (.slice A2 k2 cc2)).set (i * 3 + 2) (.bool false) = net.row (l.set i ⟨id2, A2, k2, cc2, false, bs2⟩) := net.row_set l i ⟨id2, A2, k2, cc2, false, bs2⟩
  have e2 := net.row_set (l.set i ⟨id2, A2, k2, cc2, false, bs2⟩) j ⟨id, A, k, cc, false, bs⟩
  dsimp only at e2
  rw [e1, e2, ← hw2] at hset
  have hc2 : Chg w1 w2 (fun k => k = gr) := by
    rw [hw2]
    exact (((((Chg.setCell w1 gr (i * 3) _).trans (Chg.setCell _ gr (i * 3 + 1) _) fun _ _ h => h).trans (Chg.setCell _ gr (i * 3 + 2) _) fun _ _ h => h).trans (Chg.setCell _ gr (j * 3) _) fun _ _ h => h).trans (Chg.setCell _ gr (j * 3 + 1) _) fun _ _ h => h).trans (Chg.setCell _ gr (j * 3 + 2) _) fun _ _ h => h
  clear hw2 e1 e2 c1 c3 d0 d1 d2 e0 hfr
  obtain ⟨w3, hw3⟩ : ∃ w3, w3 = w2.drew := ⟨_, rfl⟩
  rw [← hw3]
  have hr3 : w3.ownsRow B 149 3 (.slice (some ⟨gr, 0, none⟩) n cr) n (net.row ((l.set i ⟨id2, A2, k2, cc2, false, bs2⟩).set j ⟨id, A, k, cc, false, bs⟩)) := by rw [hw3, ← HN.out]; exact hset
  have hc3 : Chg w1 w3 (fun k => k = gr) := by rw [hw3]; exact hc2.drew
  clear hset hc2 hw3
  have hb3 : Blk w3 p 147 #[.int .i64 last, .slice (some ⟨gr, 0, none⟩) n cr, .int .i64 (net.goneN l), .map (some mb)] := by rw [← HN.out]; exact hc3.blk HB.out fun h => hgp h.symm
  have hg3 := HG.out.chg hc3 fun h => hgm h.symm
  have q3 : ∀ x : Later w3 (fun k => k = mb), x.1.cell? ⟨p, 3, none⟩ = some (.map (some mb)) := fun x => (x.2.blk hb3 hpm).cell 3 rfl
  have c3 : w3.drew.cell? ⟨p, 3, none⟩ = some (.map (some mb)) := hb3.cell 3 rfl
  have HB3 := Lib.hid hb3; clear hb3
  have HR3 := Lib.hid hr3; clear hr3
  have HC3 := Lib.hid hc3; clear hc3
  have gi := (HI.out.at' i _ HX.out.1 rfl)
  have gj := (HI.out.at' j _ HX.out.2 rfl)
  dsimp only at gi gj
  have hok : intOk id ∧ intOk id2 := ⟨by constructor <;> omega, by constructor <;> omega⟩
  obtain ⟨v4, s4, hm4, hs4⟩ := GM.entry (κ := intKey) (hg3.drew 1) Try.underlying144 zero_int id hok.1 (by rw [gi.1]; rfl) (by unfold maxLen; omega)
  obtain ⟨w4, hr4, hg4, hc4, -⟩ := hs4 (.int .i64 (j : Int))
  have hs2 : (gput g id (.int .i64 (j : Int)) id2).isSome = true := by
    by_cases e : id2 = id
    · rw [e, gput_same]; rfl
    · rw [gput_other _ e, gj.1]; rfl
  obtain ⟨v5, s5, hm5, hs5⟩ := GM.entry (κ := intKey) hg4 Try.underlying144 zero_int id2 hok.2 hs2 (by unfold maxLen; omega)
  obtain ⟨w5, hr5, hg5, hc5, -⟩ := hs5 (.int .i64 (i : Int))
  clear hs4 hs5 hs2 gi gj hok hg3 hg4
  replace hm4 : (Instr.mapEntry 144 (.map (some mb)) (.int .i64 id)).run Try.prog w3.drew = .ok (.tuple #[v4, .int .i64 s4]) w3.drew := hm4
  replace hr4 : (Instr.entryStore 144 (.map (some mb)) (.int .i64 s4) (.int .i64 j)).run Try.prog w3.drew = .ok () w4 := hr4
  replace hm5 : (Instr.mapEntry 144 (.map (some mb)) (.int .i64 id2)).run Try.prog w4 = .ok (.tuple #[v5, .int .i64 s5]) w4 := hm5
  have HG5 := Lib.hid hg5; clear hg5
  have hc34 : Chg w3 w4 (fun k => k = mb) := ((Chg.refl w3 _).drew).trans hc4 fun _ _ h => h
  have HC4 := Lib.hid hc34; clear hc34
  have HC5 := Lib.hid (HC4.out.trans hc5 fun _ _ h => h); clear hc5 hc4
  go_upto_region 6 with fail
  have hS0 : later w3 (fun k => k = mb) w3.drew := later_of ((Chg.refl _ _).drew)
  refine wp_plan (S := fun w0 => ∃ x : Later w3 (fun k => k = mb), w0 = x.1) (by kernel_rfl) hS0 ?_
  intro hS K5 hK5
  have HS := Lib.hid hS; clear hS hS0
  refine plan_group [true, true, true, true, true, true, true, true, false, true, true, true] [0, 1, 2, 3, 4, 5, 6, 7, 9, 10, 11] 7 (by dsimp only [sel]) (by rfl) rfl (by kernel_rfl) (by kernel_rfl) HS.out ?_
  (repeat go_big_quiet_step (fail)); refine wpQuiet_nil ?_
  refine plan_one [false, false, false, false, false, false, false, false, true] 8 6 (by dsimp only [sel]) (by rfl) rfl (by kernel_rfl) ?_; intro K1 hK1; go_wp2_with fail
  refine ⟨HS.out, ?_⟩
  refine plan_one [false, false, false, false, false, false, false, false, false, false, false, false, true] 12 5 (by dsimp only [sel]) (by rfl) rfl (by kernel_rfl) ?_; intro K1 hK1; go_wp2_with fail
  refine ⟨HS.out, ?_⟩
  refine plan_group [false, false, false, false, false, false, false, false, false, false, false, false, false, true] [13] 4 (by dsimp only [sel]) (by rfl) rfl (by kernel_rfl) (by kernel_rfl) HS.out ?_
  (repeat go_big_quiet_step (fail)); refine wpQuiet_nil ?_
  refine plan_one [false, false, false, false, false, false, false, false, false, false, false, false, false, false, true] 14 3 (by dsimp only [sel]) (by rfl) rfl (by kernel_rfl) ?_; intro K1 hK1; go_wp2_with fail
  refine ⟨later_of HC4.out, ?_⟩
  refine plan_one [false, false, false, false, false, false, false, false, false, false, false, false, false, false, false, true] 15 2 (by dsimp only [sel]) (by rfl) rfl (by kernel_rfl) ?_; intro K1 hK1; go_wp2_with fail
  refine ⟨later_of HC4.out, ?_⟩
  refine plan_group [false, false, false, false, false, false, false, false, false, false, false, false, false, false, false, false, true] [16] 1 (by dsimp only [sel]) (by rfl) rfl (by kernel_rfl) (by kernel_rfl) (later_of HC4.out) ?_
  (repeat go_big_quiet_step (fail)); refine wpQuiet_nil ?_
  refine plan_one [false, false, false, false, false, false, false, false, false, false, false, false, false, false, false, false, false, true] 17 0 (by dsimp only [sel]) (by rfl) rfl (by kernel_rfl) ?_; intro K1 hK1; go_wp2_with fail
  refine ⟨later_of HC5.out, ?_⟩
  refine wp_plan_end (by kernel_rfl) ?_
  clear q3 c3 hm4 hr4 hm5 hr5 HS
  refine hK5 _ _ ?_
  clear hK5
  have hc : Chg w1 w5 (fun k => k = gr ∨ k = mb) := (HC3.out.mono fun _ _ h => .inl h).trans HC5.out fun _ _ h => .inr h
  have hfin : NetAt B C w5 p last ((l.set i ⟨id2, A2, k2, cc2, false, bs2⟩).set j ⟨id, A, k, cc, false, bs⟩) ∧ NChg B w1 w5 := by
    have hty : ∀ k, k = gr ∨ k = mb → B ≤ k ∧ NetTy w1 k := fun k hk => by
      rcases hk with rfl | rfl
      · exact net.row_ty HR.out rfl
      · exact ⟨hBm, HG.out.ty⟩
    refine ⟨⟨.slice (some ⟨gr, 0, none⟩) n cr, mb, N, _, ?_, ?_, HG5.out, hN, HI.out.swap HX.out.1 rfl HX.out.2 rfl, ?_, by rw [List.length_set, List.length_set, HN.out]; exact hll, hBp, hBm⟩, .of hc hty⟩
    · rw [net.gone_swap HX.out.1 HX.out.2 rfl rfl]
      exact HC5.out.blk HB3.out hpm
    · rw [List.length_set, List.length_set, HN.out]
      exact HC5.out.own HR3.out fun k hk e => by subst e; exact HG.out.not_own HR.out (by simpa [Value.ownBlock] using hk)
    · refine net.left_bytes (HBS.out.chg hc fun k hk => .inl (hty k hk).2) fun u hu _ => ?_
      rcases List.mem_or_eq_of_mem_set hu with h | rfl
      · rcases List.mem_or_eq_of_mem_set h with h | rfl
        · exact h
        · exact List.mem_of_getElem? HX.out.2
      · exact List.mem_of_getElem? HX.out.1
  have HFIN := Lib.hid hfin; clear hfin
  go_wp2
  go_ret
  exact ⟨rfl, HFIN.out.1, HFIN.out.2⟩
set_option maxHeartbeats 4000000 in
theorem net.swap_same (B C p last i : Nat) (l : List NItm) (x : NItm) (w : World) (h : NetAt B C w p last l) (hlast : last ≤ 100000000) (hx : l[i]? = some x) (hxg : x.gone = false) :
    Calls Try.prog 60 #[.pointer (some ⟨p, 0, none⟩), .int .i64 x.id, .int .i64 x.id] w fun e w' => e = .returned (.int .i64 0) ∧ NetAt B C w' p last l ∧ NChg B w w' := by
  have hp1 := net.place_has h hlast hx hxg
  have hp2 := net.place_has h hlast hx hxg
  obtain ⟨rv, mb, N, g, hb, hr, hg, hN, hinv, hbs, hll, hBp, hBm⟩ := h
  have hil := (List.getElem?_eq_some_iff.1 hx).1
  have hjl := (List.getElem?_eq_some_iff.1 hx).1
  obtain ⟨gr, cr, rfl, -, -, hBg, -, -⟩ := own_row_pos hr (by omega)
  have hpm : p ≠ mb := hg.not_blk hb
  have hgp : gr ≠ p := fun e => hb.not_row (by decide) hr (by rw [e]; rfl)
  have hgm : gr ≠ mb := fun e => hg.not_own hr (by rw [e]; rfl)
  have c1 : w.cell? ⟨p, 1, none⟩ = some (.slice (some ⟨gr, 0, none⟩) l.length cr) := hb.cell 1 rfl
  have c3 : w.cell? ⟨p, 3, none⟩ = some (.map (some mb)) := hb.cell 3 rfl
  obtain ⟨d0, d1, d2, hgl⟩ := net.row_cells hr hx
  obtain ⟨e0, e1, e2, -⟩ := net.row_cells hr hx
  have hfr := fun k => net.row_frozen hr k
  obtain ⟨n, hn⟩ : ∃ n, n = l.length := ⟨_, rfl⟩
  rw [← hn] at c1 hil hjl hll
  have HN := Lib.hid hn.symm; clear hn
  have HB := Lib.hid hb; clear hb
  have HR := Lib.hid hr; clear hr
  have HG := Lib.hid hg; clear hg
  have HI := Lib.hid hinv; clear hinv
  have HBS := Lib.hid hbs; clear hbs
  have HX := Lib.hid (And.intro hx hx); clear hx
  obtain ⟨id, A, k, cc, gn, bs⟩ := x
  dsimp only at *
  subst hxg
  go_enter Try.func60, Try.ntmps60
  go_wp2_with fail
  refine hp1.mono ?_
  rintro e w0 ⟨rfl, rfl⟩
  clear hp1
  go_wp2_with fail
  refine hp2.mono ?_
  rintro e w1 ⟨rfl, rfl⟩
  clear hp2
  go_upto_region 5 with fail
  have c1' : w1.drew.cell? ⟨p, 1, none⟩ = some (.slice (some ⟨gr, 0, none⟩) n cr) := c1
  have d0' : w1.drew.cell? ⟨gr, i * 3, none⟩ = _ := d0
  have d1' : w1.drew.cell? ⟨gr, i * 3 + 1, none⟩ = _ := d1
  have d2' : w1.drew.cell? ⟨gr, i * 3 + 2, none⟩ = _ := d2
  have e0' : w1.drew.cell? ⟨gr, i * 3, none⟩ = _ := e0
  have e1' : w1.drew.cell? ⟨gr, i * 3 + 1, none⟩ = _ := e1
  have e2' : w1.drew.cell? ⟨gr, i * 3 + 2, none⟩ = _ := e2
  have hfr' : ∀ k, w1.drew.frozen? ⟨gr, k, none⟩ = false := hfr
  go_region
  clear c1' d0' d1' d2' e0' e1' e2' hfr'
  obtain ⟨w2, hw2⟩ : ∃ w2, w2 = (((((w1.setCell ⟨gr, i * 3, none⟩ (.int .i64 id)).setCell ⟨gr, i * 3 + 1, none⟩ (.slice A k cc)).setCell ⟨gr, i * 3 + 2, none⟩ (.bool false)).setCell ⟨gr, i * 3, none⟩ (.int .i64 id)).setCell ⟨gr, i * 3 + 1, none⟩ (.slice A k cc)).setCell ⟨gr, i * 3 + 2, none⟩ (.bool false) := ⟨_, rfl⟩
  rw [← hw2]
  have hset := own_set (own_set (own_set (own_set (own_set (own_set HR.out (i * 3) (.int .i64 id)) (i * 3 + 1) (.slice A k cc)) (i * 3 + 2) (.bool false)) (i * 3) (.int .i64 id)) (i * 3 + 1) (.slice A k cc)) (i * 3 + 2) (.bool false)
  have e1 : (((net.row l).set (i * 3) (.int .i64 id)).set (i * 3 + 1) (.slice A k cc)).set (i * 3 + 2) (.bool false) = net.row (l.set i ⟨id, A, k, cc, false, bs⟩) := net.row_set l i ⟨id, A, k, cc, false, bs⟩
  have e2 := net.row_set (l.set i ⟨id, A, k, cc, false, bs⟩) i ⟨id, A, k, cc, false, bs⟩
  dsimp only at e2
  rw [e1, e2, ← hw2] at hset
  have hc2 : Chg w1 w2 (fun k => k = gr) := by
    rw [hw2]
    exact (((((Chg.setCell w1 gr (i * 3) _).trans (Chg.setCell _ gr (i * 3 + 1) _) fun _ _ h => h).trans (Chg.setCell _ gr (i * 3 + 2) _) fun _ _ h => h).trans (Chg.setCell _ gr (i * 3) _) fun _ _ h => h).trans (Chg.setCell _ gr (i * 3 + 1) _) fun _ _ h => h).trans (Chg.setCell _ gr (i * 3 + 2) _) fun _ _ h => h
  clear hw2 e1 e2 c1 c3 d0 d1 d2 e0 hfr
  obtain ⟨w3, hw3⟩ : ∃ w3, w3 = w2.drew := ⟨_, rfl⟩
  rw [← hw3]
  have hr3 : w3.ownsRow B 149 3 (.slice (some ⟨gr, 0, none⟩) n cr) n (net.row ((l.set i ⟨id, A, k, cc, false, bs⟩).set i ⟨id, A, k, cc, false, bs⟩)) := by rw [hw3, ← HN.out]; exact hset
  have hc3 : Chg w1 w3 (fun k => k = gr) := by rw [hw3]; exact hc2.drew
  clear hset hc2 hw3
  have hb3 : Blk w3 p 147 #[.int .i64 last, .slice (some ⟨gr, 0, none⟩) n cr, .int .i64 (net.goneN l), .map (some mb)] := by rw [← HN.out]; exact hc3.blk HB.out fun h => hgp h.symm
  have hg3 := HG.out.chg hc3 fun h => hgm h.symm
  have q3 : ∀ x : Later w3 (fun k => k = mb), x.1.cell? ⟨p, 3, none⟩ = some (.map (some mb)) := fun x => (x.2.blk hb3 hpm).cell 3 rfl
  have c3 : w3.drew.cell? ⟨p, 3, none⟩ = some (.map (some mb)) := hb3.cell 3 rfl
  have HB3 := Lib.hid hb3; clear hb3
  have HR3 := Lib.hid hr3; clear hr3
  have HC3 := Lib.hid hc3; clear hc3
  have gi := (HI.out.at' i _ HX.out.1 rfl)
  have gj := (HI.out.at' i _ HX.out.2 rfl)
  dsimp only at gi gj
  have hok : intOk id ∧ intOk id := ⟨by constructor <;> omega, by constructor <;> omega⟩
  obtain ⟨v4, s4, hm4, hs4⟩ := GM.entry (κ := intKey) (hg3.drew 1) Try.underlying144 zero_int id hok.1 (by rw [gi.1]; rfl) (by unfold maxLen; omega)
  obtain ⟨w4, hr4, hg4, hc4, -⟩ := hs4 (.int .i64 (i : Int))
  have hs2 : (gput g id (.int .i64 (i : Int)) id).isSome = true := by
    by_cases e : id = id
    · rw [e, gput_same]; rfl
    · rw [gput_other _ e, gj.1]; rfl
  obtain ⟨v5, s5, hm5, hs5⟩ := GM.entry (κ := intKey) hg4 Try.underlying144 zero_int id hok.2 hs2 (by unfold maxLen; omega)
  obtain ⟨w5, hr5, hg5, hc5, -⟩ := hs5 (.int .i64 (i : Int))
  clear hs4 hs5 hs2 gi gj hok hg3 hg4
  replace hm4 : (Instr.mapEntry 144 (.map (some mb)) (.int .i64 id)).run Try.prog w3.drew = .ok (.tuple #[v4, .int .i64 s4]) w3.drew := hm4
  replace hr4 : (Instr.entryStore 144 (.map (some mb)) (.int .i64 s4) (.int .i64 i)).run Try.prog w3.drew = .ok () w4 := hr4
  replace hm5 : (Instr.mapEntry 144 (.map (some mb)) (.int .i64 id)).run Try.prog w4 = .ok (.tuple #[v5, .int .i64 s5]) w4 := hm5
  have HG5 := Lib.hid hg5; clear hg5
  have hc34 : Chg w3 w4 (fun k => k = mb) := ((Chg.refl w3 _).drew).trans hc4 fun _ _ h => h
  have HC4 := Lib.hid hc34; clear hc34
  have HC5 := Lib.hid (HC4.out.trans hc5 fun _ _ h => h); clear hc5 hc4
  go_upto_region 6 with fail
  have hS0 : later w3 (fun k => k = mb) w3.drew := later_of ((Chg.refl _ _).drew)
  refine wp_plan (S := fun w0 => ∃ x : Later w3 (fun k => k = mb), w0 = x.1) (by kernel_rfl) hS0 ?_
  intro hS K5 hK5
  have HS := Lib.hid hS; clear hS hS0
  refine plan_group [true, true, true, true, true, true, true, true, false, true, true, true] [0, 1, 2, 3, 4, 5, 6, 7, 9, 10, 11] 7 (by dsimp only [sel]) (by rfl) rfl (by kernel_rfl) (by kernel_rfl) HS.out ?_
  (repeat go_big_quiet_step (fail)); refine wpQuiet_nil ?_
  refine plan_one [false, false, false, false, false, false, false, false, true] 8 6 (by dsimp only [sel]) (by rfl) rfl (by kernel_rfl) ?_; intro K1 hK1; go_wp2_with fail
  refine ⟨HS.out, ?_⟩
  refine plan_one [false, false, false, false, false, false, false, false, false, false, false, false, true] 12 5 (by dsimp only [sel]) (by rfl) rfl (by kernel_rfl) ?_; intro K1 hK1; go_wp2_with fail
  refine ⟨HS.out, ?_⟩
  refine plan_group [false, false, false, false, false, false, false, false, false, false, false, false, false, true] [13] 4 (by dsimp only [sel]) (by rfl) rfl (by kernel_rfl) (by kernel_rfl) HS.out ?_
  (repeat go_big_quiet_step (fail)); refine wpQuiet_nil ?_
  refine plan_one [false, false, false, false, false, false, false, false, false, false, false, false, false, false, true] 14 3 (by dsimp only [sel]) (by rfl) rfl (by kernel_rfl) ?_; intro K1 hK1; go_wp2_with fail
  refine ⟨later_of HC4.out, ?_⟩
  refine plan_one [false, false, false, false, false, false, false, false, false, false, false, false, false, false, false, true] 15 2 (by dsimp only [sel]) (by rfl) rfl (by kernel_rfl) ?_; intro K1 hK1; go_wp2_with fail
  refine ⟨later_of HC4.out, ?_⟩
  refine plan_group [false, false, false, false, false, false, false, false, false, false, false, false, false, false, false, false, true] [16] 1 (by dsimp only [sel]) (by rfl) rfl (by kernel_rfl) (by kernel_rfl) (later_of HC4.out) ?_
  (repeat go_big_quiet_step (fail)); refine wpQuiet_nil ?_
  refine plan_one [false, false, false, false, false, false, false, false, false, false, false, false, false, false, false, false, false, true] 17 0 (by dsimp only [sel]) (by rfl) rfl (by kernel_rfl) ?_; intro K1 hK1; go_wp2_with fail
  refine ⟨later_of HC5.out, ?_⟩
  refine wp_plan_end (by kernel_rfl) ?_
  clear q3 c3 hm4 hr4 hm5 hr5 HS
  refine hK5 _ _ ?_
  clear hK5
  have hc : Chg w1 w5 (fun k => k = gr ∨ k = mb) := (HC3.out.mono fun _ _ h => .inl h).trans HC5.out fun _ _ h => .inr h
  have hll2 : (l.set i ⟨id, A, k, cc, false, bs⟩).set i ⟨id, A, k, cc, false, bs⟩ = l := by
    obtain ⟨h1, h2⟩ := List.getElem?_eq_some_iff.1 HX.out.1
    rw [List.set_set, ← h2, List.set_getElem_self]
  have hfin : NetAt B C w5 p last ((l.set i ⟨id, A, k, cc, false, bs⟩).set i ⟨id, A, k, cc, false, bs⟩) ∧ NChg B w1 w5 := by
    have hty : ∀ k, k = gr ∨ k = mb → B ≤ k ∧ NetTy w1 k := fun k hk => by
      rcases hk with rfl | rfl
      · exact net.row_ty HR.out rfl
      · exact ⟨hBm, HG.out.ty⟩
    refine ⟨⟨.slice (some ⟨gr, 0, none⟩) n cr, mb, N, _, ?_, ?_, HG5.out, hN, HI.out.swap HX.out.1 rfl HX.out.2 rfl, ?_, by rw [List.length_set, List.length_set, HN.out]; exact hll, hBp, hBm⟩, .of hc hty⟩
    · rw [net.gone_swap HX.out.1 HX.out.2 rfl rfl]
      exact HC5.out.blk HB3.out hpm
    · rw [List.length_set, List.length_set, HN.out]
      exact HC5.out.own HR3.out fun k hk e => by subst e; exact HG.out.not_own HR.out (by simpa [Value.ownBlock] using hk)
    · refine net.left_bytes (HBS.out.chg hc fun k hk => .inl (hty k hk).2) fun u hu _ => ?_
      rcases List.mem_or_eq_of_mem_set hu with h | rfl
      · rcases List.mem_or_eq_of_mem_set h with h | rfl
        · exact h
        · exact List.mem_of_getElem? HX.out.2
      · exact List.mem_of_getElem? HX.out.1
  rw [hll2] at hfin
  have HFIN := Lib.hid hfin; clear hfin hll2
  go_wp2
  go_ret
  exact ⟨rfl, HFIN.out.1, HFIN.out.2⟩
end Go.Proofs.Ytbbekgliaedigaa

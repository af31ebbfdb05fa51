/- net: contract of Deliver. -/
import Derived.Deep.CutRange
import Derived.Deep.CutBlock
import Derived.Test.YtbbekgliaedigaaNetD
namespace Go.Proofs.Ytbbekgliaedigaa
open Go.RowKit

/-- What stands where something was. -/
def net.hole : NItm := ⟨0, none, 0, 0, true, []⟩
/-- What waits: numbers, and their bytes. -/
def net.says (l : List NItm) : List (Int × List Nat) := (net.left l).map fun x => (x.id, x.bs)
theorem net.left_left (l : List NItm) : net.left (net.left l) = net.left l := by unfold net.left; rw [List.filter_filter]; simp
theorem net.cut {l : List NItm} {i : Nat} {x : NItm} (h : l[i]? = some x) : l = l.take i ++ x :: l.drop (i + 1) := by
  obtain ⟨hi, hx⟩ := List.getElem?_eq_some_iff.1 h
  conv => lhs; rw [← List.take_append_drop i l, List.drop_eq_getElem_cons hi, hx]
theorem net.set_cut {l : List NItm} {i : Nat} (hi : i < l.length) (z : NItm) : l.set i z = l.take i ++ z :: l.drop (i + 1) := by
  rw [List.set_eq_take_append_cons_drop, if_pos hi]
theorem net.left_cut (a b : List NItm) (x : NItm) : net.left (a ++ x :: b) = net.left a ++ (if x.gone then [] else [x]) ++ net.left b := by
  unfold net.left
  rw [List.filter_append, List.filter_cons]
  cases hx : x.gone <;> simp
theorem net.gone_set {l : List NItm} {i : Nat} {x : NItm} (h : l[i]? = some x) (hx : x.gone = false) : net.goneN (l.set i net.hole) = net.goneN l + 1 := by
  conv => rhs; rw [net.cut h]
  rw [net.set_cut (List.getElem?_eq_some_iff.1 h).1]
  unfold net.goneN
  simp only [List.filter_append, List.filter_cons, hx, net.hole, List.length_append, if_true, List.length_cons]
  simp
  omega
theorem NInv.deliver {last : Nat} {l : List NItm} {g : Int → Option Value} (h : NInv last l g) {i : Nat} {x : NItm} (hx : l[i]? = some x) (hg : x.gone = false) : NInv last (l.set i net.hole) (gdel g x.id) := by
  have hi := (List.getElem?_eq_some_iff.1 hx).1
  have hgx := (h.at' i x hx hg).1
  refine ⟨fun j y hy hyg => ?_, fun k v hk hv => ?_⟩
  · by_cases e : i = j
    · subst e
      rw [List.getElem?_set_self hi] at hy
      cases hy
      cases hyg
    · rw [List.getElem?_set_ne e] at hy
      obtain ⟨h1, h2⟩ := h.at' j y hy hyg
      refine ⟨?_, h2⟩
      rw [gdel_other fun e' => e ?_]
      · exact h1
      · rw [e', hgx] at h1
        simp at h1
        omega
  · by_cases e : k = x.id
    · subst e
      rw [gdel_same] at hv
      cases hv
    · rw [gdel_other e] at hv
      obtain ⟨j, y, h1, h2, h3, h4⟩ := h.back k v hk hv
      have hne : i ≠ j := by
        rintro rfl
        rw [hx] at h1
        cases h1
        exact e h3.symm
      exact ⟨j, y, by rw [List.getElem?_set_ne hne]; exact h1, h2, h3, h4⟩
theorem NInv.says_hole {last : Nat} {l : List NItm} {g : Int → Option Value} (h : NInv last l g) {i : Nat} {x : NItm} (hx : l[i]? = some x) (hg : x.gone = false) : net.says (l.set i net.hole) = (net.says l).filter fun y => decide (y.1 ≠ x.id) := by
  have hap := h.apart
  have hi := (List.getElem?_eq_some_iff.1 hx).1
  have e1 : net.left (l.set i net.hole) = net.left (l.take i) ++ net.left (l.drop (i + 1)) := by
    rw [net.set_cut hi, net.left_cut]
    simp [net.hole]
  have e2 : net.left l = net.left (l.take i) ++ x :: net.left (l.drop (i + 1)) := by
    conv => lhs; rw [net.cut hx, net.left_cut]
    simp [hg]
  unfold net.says
  rw [e2] at hap
  rw [e1, e2]
  obtain ⟨h1, h2, h3⟩ := List.pairwise_append.1 hap
  have h4 := (List.pairwise_cons.1 h2).1
  rw [List.map_append, List.map_append, List.map_cons, List.filter_append, List.filter_cons]
  rw [List.filter_eq_self.2, List.filter_eq_self.2]
  · simp
  · intro y hy
    obtain ⟨z, hz, rfl⟩ := List.mem_map.1 hy
    simpa using (h4 z hz).symm
  · intro y hy
    obtain ⟨z, hz, rfl⟩ := List.mem_map.1 hy
    simpa using h3 z hz x (by simp)
theorem net.left_bytes {C : Nat} {w : World} {l l' : List NItm} (h : NBytes C w l) (hs : ∀ x ∈ l', x.gone = false → x ∈ l) : NBytes C w l' := fun x hx hg => h x (hs x hx hg) hg

theorem net.deliver_nil (k : Int) (w : World) :
    Calls Try.prog 57 #[.pointer none, .int .i64 k] w fun e w' => e = .returned (.tuple #[.slice none 0 0, .int .i64 5]) ∧ w' = w := by
  go_enter Try.func57, Try.ntmps57
  go_wp2_with fail
  refine (net.place_nil k w).mono ?_
  rintro e w1 ⟨rfl, rfl⟩
  go_wp2
  go_ret2
  exact ⟨rfl, rfl⟩
theorem net.deliver_none (B C p last : Nat) (l : List NItm) (k : Int) (w : World) (h : NetAt B C w p last l) (hk : intOk k) (hno : ∀ x ∈ net.left l, x.id ≠ k) :
    Calls Try.prog 57 #[.pointer (some ⟨p, 0, none⟩), .int .i64 k] w fun e w' => e = .returned (.tuple #[.slice none 0 0, .int .i64 5]) ∧ w' = w := by
  obtain ⟨rv, mb, N, g, hb, hr, hg, hN, hinv, hbs, hll, hBp, hBm⟩ := h
  have hgk : g k = none := by
    cases hv : g k with
    | none => rfl
    | some v =>
      obtain ⟨i, x, h1, h2, h3, -⟩ := hinv.back k v hk hv
      exact absurd h3 (hno x (List.mem_filter.2 ⟨List.mem_of_getElem? h1, by simp [h2]⟩))
  have hpl := net.place_any p mb N g _ _ _ k w hb hg hk
  rw [hgk] at hpl
  clear hb hr hg hinv hbs hgk hno
  go_enter Try.func57, Try.ntmps57
  go_wp2_with fail
  refine hpl.mono ?_
  rintro e w1 ⟨rfl, rfl⟩
  go_wp2
  go_ret2
  exact ⟨rfl, rfl⟩

set_option maxRecDepth 20000 in
set_option maxHeartbeats 4000000 in
theorem net.deliver_some (B C p last i : Nat) (l : List NItm) (x : NItm) (w : World) (h : NetAt B C w p last l) (hlast : last ≤ 100000000) (hx : l[i]? = some x) (hxg : x.gone = false) :
    Calls Try.prog 57 #[.pointer (some ⟨p, 0, none⟩), .int .i64 x.id] w fun e w' => e = .returned (.tuple #[.slice x.A x.k x.c, .int .i64 0]) ∧
      (∃ l', NetAt B C w' p last l' ∧ net.says l' = (net.says l).filter fun y => decide (y.1 ≠ x.id)) ∧ NChg B w w' := by
  obtain ⟨rv, mb, N, g, hb, hr, hg, hN, hinv, hbs, hll, hBp, hBm⟩ := h
  have hil := (List.getElem?_eq_some_iff.1 hx).1
  obtain ⟨gr, cr, rfl, -, -, hBg, -, -⟩ := own_row_pos hr (by omega)
  have hpm : p ≠ mb := hg.not_blk hb
  have hgp : gr ≠ p := fun e => hb.not_row (by decide) hr (by rw [e]; rfl)
  have hgm : gr ≠ mb := fun e => hg.not_own hr (by rw [e]; rfl)
  have hgN := net.goneN_le l
  have hok : intOk x.id := by
    have := (hinv.at' i x hx hxg).2
    constructor <;> omega
  have hgk := (hinv.at' i x hx hxg).1
  have hpl := net.place_any p mb N g _ _ _ x.id w hb hg hok
  rw [hgk] at hpl
  have hty : ∀ k, k = gr ∨ k = p ∨ k = mb → B ≤ k ∧ NetTy w k := fun k hk => by
    rcases hk with rfl | rfl | rfl
    · exact net.row_ty hr rfl
    · exact ⟨hBp, net.blk_ty hb⟩
    · exact ⟨hBm, hg.ty⟩
  have hsay := hinv.says_hole hx hxg
  have hinv' := hinv.deliver hx hxg
  have hgs := net.gone_set hx hxg
  have c1 : w.cell? ⟨p, 1, none⟩ = some (.slice (some ⟨gr, 0, none⟩) l.length cr) := hb.cell 1 rfl
  have c2 := hb.cell 2 rfl
  have c3 : w.cell? ⟨p, 3, none⟩ = some (.map (some mb)) := hb.cell 3 rfl
  have hf := fun j => hb.frozen j
  obtain ⟨d0, d1, d2, hgl⟩ := net.row_cells hr hx
  have hfr := fun j => net.row_frozen hr j
  have hset := own_set (own_set (own_set hr (i * 3) (.int .i64 0)) (i * 3 + 1) (.slice none 0 0)) (i * 3 + 2) (.bool true)
  have hset2 : ((((net.row l).set (i * 3) (.int .i64 0)).set (i * 3 + 1) (.slice none 0 0)).set (i * 3 + 2) (.bool true)) = net.row (l.set i net.hole) := net.row_set l i net.hole
  rw [hset2] at hset
  clear hset2
  have HTY := Lib.hid hty; clear hty
  have HB := Lib.hid hb; clear hb
  have HR := Lib.hid hr; clear hr
  have HG := Lib.hid hg; clear hg
  have HI := Lib.hid hinv; clear hinv
  have HI2 := Lib.hid hinv'; clear hinv'
  have HBS := Lib.hid hbs; clear hbs
  have HSAY := Lib.hid hsay; clear hsay
  have HGS := Lib.hid hgs; clear hgs
  have HSET := Lib.hid hset; clear hset
  have HX := Lib.hid hx; clear hx
  have HGK := Lib.hid hgk; clear hgk
  have HOK := Lib.hid hok; clear hok
  obtain ⟨n, hn⟩ : ∃ n, n = l.length := ⟨_, rfl⟩
  rw [← hn] at c1 hil hll hgN
  have HN := Lib.hid hn.symm; clear hn
  obtain ⟨id, A, k, cc, gn, bs⟩ := x
  dsimp only at d0 d1 d2 hpl hxg ⊢
  subst hxg
  generalize hG : net.goneN l = G at *
  have HGG := Lib.hid hG; clear hG
  go_enter Try.func57, Try.ntmps57
  go_wp2_with fail
  refine hpl.mono ?_
  rintro e w0 ⟨rfl, rfl⟩
  clear hpl
  have hkk := @Option.getD_some Value (.int .i64 (i : Int)) (.int .i64 0)
  go_upto_region 6 with fail
  obtain ⟨w1, hw1⟩ : ∃ w1, w1 = ((w0.setCell ⟨gr, i * 3, none⟩ (.int .i64 0)).setCell ⟨gr, i * 3 + 1, none⟩ (.slice none 0 0)).setCell ⟨gr, i * 3 + 2, none⟩ (.bool true) := ⟨_, rfl⟩
  rw [← hw1]
  have hr1 : w1.ownsRow B 149 3 (.slice (some ⟨gr, 0, none⟩) n cr) n (net.row (l.set i net.hole)) := by rw [hw1, ← HN.out]; exact HSET.out
  have hc1 : Chg w0 w1 (fun k => k = gr) := by rw [hw1]; exact ((Chg.setCell w0 gr (i * 3) _).trans (Chg.setCell _ gr (i * 3 + 1) _) fun _ _ h => h).trans (Chg.setCell _ gr (i * 3 + 2) _) fun _ _ h => h
  clear hw1 d0 d1 d2 hfr c1 c2 c3 hf HSET
  have hb1 := hc1.blk HB.out fun h => hgp h.symm
  have hg1 := HG.out.chg hc1 fun h => hgm h.symm
  have c1 : w1.cell? ⟨p, 1, none⟩ = some (.slice (some ⟨gr, 0, none⟩) l.length cr) := hb1.cell 1 rfl
  rw [HN.out] at c1
  have c2 := hb1.cell 2 rfl
  have c3 : w1.cell? ⟨p, 3, none⟩ = some (.map (some mb)) := hb1.cell 3 rfl
  have hf := fun j => hb1.frozen j
  have HR1 := Lib.hid hr1; clear hr1
  have HC1 := Lib.hid hc1; clear hc1
  have HB1 := Lib.hid hb1; clear hb1
  have HG1 := Lib.hid hg1; clear hg1
  go_upto_region 7 with fail
  obtain ⟨w2, hw2⟩ : ∃ w2, w2 = w1.setCell ⟨p, 2, none⟩ (.int .i64 ((G : Int) + 1)) := ⟨_, rfl⟩
  rw [← hw2]
  have hb2 : Blk w2 p 147 #[.int .i64 last, .slice (some ⟨gr, 0, none⟩) l.length cr, .int .i64 ((G : Int) + 1), .map (some mb)] := by rw [hw2]; exact HB1.out.set 2 _
  rw [HN.out] at hb2
  have hc2 : Chg w1 w2 (fun k => k = p) := by rw [hw2]; exact Chg.setCell _ _ _ _
  have hr2 := hc2.own HR1.out fun k hk e => by
    subst e
    exact hgp (by simpa [Value.ownBlock] using hk)
  have hg2 := HG1.out.chg hc2 fun h => hpm h.symm
  clear hw2 c1 c2 hf
  have c3 : w2.cell? ⟨p, 3, none⟩ = some (.map (some mb)) := hb2.cell 3 rfl
  have HB2 := Lib.hid hb2; clear hb2
  have HC2 := Lib.hid hc2; clear hc2
  have HR2 := Lib.hid hr2; clear hr2
  have HG2 := Lib.hid hg2; clear hg2
  obtain ⟨w3, hrun, hg3, hc3, -⟩ := HG2.out.drop Try.underlying144 id HOK.out 0
  rw [if_pos (by rw [HGK.out]; rfl)] at hg3
  have HG3 := Lib.hid hg3; clear hg3
  have HC3 := Lib.hid hc3; clear hc3
  replace hrun : (Builtin.delete_ #[144, 3] 0 #[.map (some mb), .int .i64 id]).run Try.prog w2 = .ok (.tuple #[]) w3 := hrun
  go_upto_region 8 with fail
  clear hrun
  clear c3
  have hb3 := HC3.out.blk HB2.out hpm
  have hnet : NetAt B C w3 p last (l.set i net.hole) ∧ NChg B w0 w3 := by
    have hc : Chg w0 w3 (fun k => k = gr ∨ k = p ∨ k = mb) := ((HC1.out.mono fun _ _ h => .inl h).trans HC2.out fun _ _ h => .inr (.inl h)).trans HC3.out fun _ _ h => .inr (.inr h)
    refine ⟨⟨_, mb, N - 1, _, by rw [HGS.out, Int.natCast_add]; exact hb3, by rw [List.length_set, HN.out]; exact HC3.out.own HR2.out fun k hk e => by subst e; exact HG2.out.not_own HR2.out hk, HG3.out, by omega, HI2.out, ?_, by rw [List.length_set, HN.out]; exact hll, hBp, hBm⟩, .of hc HTY.out⟩
    refine net.left_bytes (HBS.out.chg hc fun k hk => .inl (HTY.out k hk).2) fun x hx hg => ?_
    rcases List.mem_or_eq_of_mem_set hx with h | h
    · exact h
    · subst h; cases hg
  have f1 : w3.cell? ⟨p, 1, none⟩ = some (.slice (some ⟨gr, 0, none⟩) n cr) := hb3.cell 1 rfl
  have f2 : w3.cell? ⟨p, 2, none⟩ = some (.int .i64 ((G : Int) + 1)) := hb3.cell 2 rfl
  clear hb3
  have HNET := Lib.hid hnet; clear hnet
  by_cases hq : (n : Int) / 2 < (G : Int) + 1
  · have hd : decide ((n : Int) / 2 < (G : Int) + 1) = true := decide_eq_true hq
    clear hq
    go_quiet (fail)
    go_wp2_with fail
    refine (net.close_any B C p last (l.set i net.hole) _ (HNET.out.1.drewN _) hlast (by rw [List.length_set, HN.out]; omega)).mono ?_
    rintro e w4 ⟨rfl, hn4, hc4⟩
    have HF := Lib.hid (And.intro hn4 hc4); clear hn4 hc4 f1 f2
    go_wp2
    go_ret2
    refine ⟨rfl, ⟨_, HF.out.1, ?_⟩, HNET.out.2.trans ((NChg.below (bdrew (Below.refl _ w3) _)).trans HF.out.2)⟩
    rw [← HSAY.out]
    unfold net.says
    rw [net.left_left]
  · have hd : decide ((n : Int) / 2 < (G : Int) + 1) = false := decide_eq_false hq
    clear hq
    go_quiet (fail)
    go_wp2
    go_ret2
    exact ⟨rfl, ⟨_, HNET.out.1.drewN _, HSAY.out⟩, HNET.out.2.trans (NChg.below (bdrew (Below.refl _ w3) _))⟩
end Go.Proofs.Ytbbekgliaedigaa

/- The document's own net (cordwainref4): Send. -/
import Derived.Test.YtbbekgliaedigaaNetQ
import Derived.Test.YtbbekgliaedigaaPlanZ
namespace Go.Proofs.Ytbbekgliaedigaa
open Go.RowKit
set_option maxRecDepth 20000

theorem infoRItem : (Try.prog.info? 154).map (fun i => (i.zero, i.size, i.bytes)) = some (some (.agg #[.int .i64 0, .slice none 0 0]), 2, 32) := by kernel_rfl
theorem ref.row_one (l : List RItm) : ∀ j, j < l.length * 2 → ((ref.row l).getD j undef).oneCell' = true := by
  intro j hj
  obtain ⟨x, hx⟩ : ∃ x, l[j / 2]? = some x := ⟨_, List.getElem?_eq_getElem (by omega)⟩
  obtain ⟨r0, r1⟩ := ref.row_at hx
  rcases Nat.mod_two_eq_zero_or_one j with h | h
  · rw [show j = j / 2 * 2 by omega, r0]; rfl
  · rw [show j = j / 2 * 2 + 1 by omega, r1]; rfl
theorem ref.row_all {l : List RItm} {n : Nat} (h : l.length = n) : cellsOf (n * 2) (fun j => (ref.row l).getD j undef) = ref.row l := by
  have := cellsOf_list (ref.row l)
  rw [ref.row_len, h] at this
  exact this
theorem ref.at_one {w : World} {g : Nat} {T : TypeId} {a b : Value} (h : Blk w g T #[a, b]) : At w (some ⟨g, 0, none⟩) (1 * 2) (fun j => ([a, b] : List Value).getD j undef) := fun _ =>
  ⟨g, 0, rfl, h.lt, fun j hj => by
    rw [Nat.zero_add]
    match j, hj with
    | 0, _ => exact h.cell 0 rfl
    | 1, _ => exact h.cell 1 rfl⟩
theorem ref.one_one (a : Int) (X : Option Addr) (m c : Nat) : ∀ j, j < 1 * 2 → (([.int .i64 a, .slice X m c] : List Value).getD j undef).oneCell' = true := fun j hj => match j, hj with
  | 0, _ => rfl
  | 1, _ => rfl

set_option maxHeartbeats 8000000 in
theorem ref.send_any (w0 : World) (q last : Nat) (l : List RItm) (X : Option Addr) (m c : Nat) (L : List Nat) (w : World) (h : RefAt w0 w q last l) (hlast : last ≤ 100000000) (hx : RefB w0 ⟨(last : Int) + 1, X, m, c, L⟩) :
    Calls Try.prog 63 #[.pointer (some ⟨q, 0, none⟩), .slice X m c] w fun e w' => e = .returned (.int .i64 ((last : Int) + 1)) ∧ RefAt w0 w' q (last + 1) (l ++ [⟨(last : Int) + 1, X, m, c, L⟩]) ∧ Chg w w' (fun k => k = q) := by
  obtain ⟨v, hq, hr, hbs, hll⟩ := h
  obtain ⟨A, cr, rfl, -, hatr⟩ := own_at hr
  obtain ⟨n, hn⟩ : ∃ n, n = l.length := ⟨_, rfl⟩
  rw [← hn] at hll hr hq hatr
  have HN := Lib.hid hn.symm; clear hn
  have c0 : w.cell? ⟨q, 0, none⟩ = some (.int .i64 last) := hq.cell 0 rfl
  have hf := fun j => hq.frozen j
  have hnr : (Value.slice A n cr).ownBlock ≠ some q := hq.not_row (by decide) hr
  obtain ⟨i0, hi, hz0, hz1, hz2⟩ := info_parts infoRItem
  have HQ := Lib.hid hq; clear hq
  have HR := Lib.hid hr; clear hr
  have HBS := Lib.hid (And.intro hbs hx); clear hbs hx
  go_enter Try.func63, Try.ntmps63
  go_wp2_with fail
  obtain ⟨w1, hw1⟩ : ∃ w1, w1 = w.setCell ⟨q, 0, none⟩ (.int .i64 ((last : Int) + 1)) := ⟨_, rfl⟩
  rw [← hw1]
  have hq1 : Blk w1 q 111 #[.int .i64 ((last : Int) + 1), .slice A n cr] := by rw [hw1]; exact HQ.out.set 0 _
  have hc1 : Chg w w1 (fun k => k = q) := by rw [hw1]; exact Chg.setCell _ _ _ _
  have hr1 := hc1.own HR.out fun k hk e => by subst e; exact hnr hk
  have hs1 : w1.heap.size = w.heap.size := by rw [hw1]; simp
  obtain ⟨A', cr', hv', -, hat1⟩ := own_at hr1
  obtain ⟨rfl, rfl⟩ : A = A' ∧ cr = cr' := by simpa using hv'
  clear hw1 c0 hf hatr hv'
  have HATR := Lib.hid hat1; clear hat1
  have HSZ := Lib.hid hs1; clear hs1
  have HQ1 := Lib.hid hq1; clear hq1
  have HC1 := Lib.hid hc1; clear hc1
  have hfin : ∀ (w9 wf : World) (g26 c26 : Nat), Below w1.heap.size w1 w9 → w9.ownsRow w.heap.size 154 2 (.slice (some ⟨g26, 0, none⟩) (n + 1) c26) (n + 1) (ref.row l ++ cellsOf (1 * 2) (fun j => ([.int .i64 ((last : Int) + 1), .slice X m c] : List Value).getD j undef)) →
      wf = w9.setCell ⟨q, 1, none⟩ (.slice (some ⟨g26, 0, none⟩) (n + 1) c26) → wf.cell? ⟨q, 0, none⟩ = some (.int .i64 ((last : Int) + 1)) ∧ RefAt w0 wf q (last + 1) (l ++ [⟨(last : Int) + 1, X, m, c, L⟩]) ∧ Chg w wf (fun k => k = q) := fun w9 wf g26 c26 h9 ho e => by
    have hq9 := (chg_of (P := fun _ => False) h9).blk HQ1.out fun h => h
    have hqf : Blk wf q 111 #[.int .i64 ((last : Int) + 1), .slice (some ⟨g26, 0, none⟩) (n + 1) c26] := by rw [e]; exact hq9.set 1 _
    have hcf : Chg w9 wf (fun k => k = q) := by rw [e]; exact Chg.setCell _ _ _ _
    have hof := hcf.own ho fun k hk e => by subst e; exact hq9.not_row (by decide) ho hk
    refine ⟨hqf.cell 0 rfl, ⟨_, hqf, ?_, fun x hx => ?_, by rw [List.length_append, HN.out]; exact Nat.succ_le_succ hll⟩, (HC1.out.trans (chg_of (P := fun k => k = q) h9) fun _ _ h => h).trans hcf fun _ _ h => h⟩
    · rw [List.length_append, HN.out, ref.row_append]
      exact ownsRow_base hof (Nat.zero_le _)
    · rcases List.mem_append.1 hx with hx | hx
      · exact HBS.out.1 x hx
      · rw [List.mem_singleton.1 hx]; exact HBS.out.2
  have HFIN := Lib.hid hfin; clear hfin
  have q0 : ∀ x : Later w1 (fun _ => False), x.1.cell? ⟨q, 0, none⟩ = some (.int .i64 ((last : Int) + 1)) := fun x => (x.2.blk HQ1.out fun h => h).cell 0 rfl
  have q1 : ∀ x : Later w1 (fun _ => False), x.1.cell? ⟨q, 1, none⟩ = some (.slice A n cr) := fun x => (x.2.blk HQ1.out fun h => h).cell 1 rfl
  have HBw2 := Lib.hid (bdrew (Below.refl w1.heap.size w1) 1)
  have hS0 : later w1 (fun _ => False) w1.drew := later_of ((Chg.refl _ _).drew)
  refine wp_planz (S := fun w0 => ∃ x : Later w1 (fun _ => False), w0 = x.1) 17 (by kernel_rfl) hS0 ?_
  intro hS K5 hK5
  have HS := Lib.hid hS; clear hS hS0
  refine planz_group [true, false, true, true, true, true, false, true, true, true, true, true, true] [0, 2, 3, 4, 5, 7, 8, 9, 10, 11, 12] 7 (by dsimp only [sel]) (by rfl) rfl (by kernel_rfl) (by kernel_rfl) (by kernel_rfl) HS.out ?_
  (repeat go_big_quiet_step (fail)); refine wpQuiet_nil ?_
  refine planz_two [false, true] [false, false, false, false, false, false, false, false, false, false, false, false, false, true] 1 13 6 (by dsimp only [sel]) (by dsimp only [sel]) (by rfl) (by rfl) rfl (by kernel_rfl) ?_ ?_ <;> intro K1 hK1
  · obtain ⟨w2, hw2⟩ : ∃ x, x = w1.drew := ⟨_, rfl⟩
    replace HBw2 : Hid (Below w1.heap.size w1 w2) := hw2 ▸ HBw2
    rw [← hw2]
    clear hw2
    go_wp2_with fail
    obtain ⟨w3, hw3⟩ : ∃ x, x = w2.alloc (.cells #[] 154) := ⟨_, rfl⟩
    rw [← hw3]
    obtain ⟨g13, hg13⟩ : ∃ g, g = w2.heap.size := ⟨_, rfl⟩
    have ho13 : w3.ownsRow w.heap.size 154 2 (.slice (some ⟨g13, 0, none⟩) 0 0) 0 [] := by rw [hw3, hg13]; exact World.ownsRow_made w2 #[] 0 (by have := HBw2.out.size; have := HSZ.out; omega) (by unfold maxLen; omega) (by simp)
    have HBw3 := Lib.hid (show Below w1.heap.size w1 w3 from by rw [hw3]; exact HBw2.out.alloc HBw2.out.size _)
    have HBLw3 := Lib.hid (show Below w2.heap.size w2 w3 from by rw [hw3]; exact (Below.refl _ _).alloc (Nat.le_refl _) _)
    rw [← hg13]
    have HO13 := Lib.hid ho13; clear ho13 hw3 hg13
    refine ⟨fun _ => later_of (chg_of HBw3.out), ?_⟩
    refine planz_two [false, false, false, false, false, false, true] [false, false, false, false, false, false, false, false, false, false, false, false, false, true] 6 13 5 (by dsimp only [sel]) (by dsimp only [sel]) (by rfl) (by rfl) rfl (by kernel_rfl) ?_ ?_ <;> intro K1 hK1
    · refine wpList_app2 _ rfl (.tmp 13) (.tmp 17) 109 rfl w.heap.size 154 i0 _ 2 32 Try.underlying109 hi hz0 hz1 hz2 rfl (by decide) _ 0 [] rfl (HO13.out) A n cr (fun j => (ref.row l).getD j undef) rfl (HATR.out.below HBw3.out (Nat.le_refl _)) (by rw [← HN.out]; exact ref.row_one l) (by unfold maxLen; omega) (by omega) (by have := HBw3.out.size; have := HSZ.out; omega) ?_
      intro v18 w4 hown hg hl
      rw [List.nil_append, ref.row_all HN.out, Nat.zero_add] at hown
      have HO18 := Lib.hid hown; clear hown
      have hrow13 : ∀ k, (Value.slice (some ⟨g13, 0, none⟩) 0 0).ownBlock = some k → w1.heap.size ≤ k := fun k hk => by have := (HO13.out.lt k hk).1; have := HSZ.out; omega
      have HBw4 := Lib.hid (HBw3.out.grown hg HBw3.out.size hrow13)
      have hg18 : Chg w3 w4 (fun k => k = g13) := (Chg.grown hg).mono fun k _ hk => by
        have hk2 : (Value.slice (some ⟨g13, 0, none⟩) 0 0).ownBlock = some k := hk
        have : g13 = k := by simpa [Value.ownBlock] using hk2
        exact this.symm
      have HG18 := Lib.hid hg18; clear hg hl hrow13 hg18
      go_wp2_with fail
      refine ⟨fun _ => later_of (chg_of HBw4.out), ?_⟩
      refine planz_one [false, false, false, false, false, false, false, false, false, false, false, false, false, true] 13 4 (by dsimp only [sel]) (by rfl) rfl (by kernel_rfl) ?_; intro K1 hK1
      go_wp2_with fail
      obtain ⟨w5, hw5⟩ : ∃ x, x = w4.alloc (.cells #[.int .i64 ((last : Int) + 1), .slice X m c] 154) := ⟨_, rfl⟩
      rw [← hw5]
      obtain ⟨g25, hg25⟩ : ∃ g, g = w4.heap.size := ⟨_, rfl⟩
      have hb25 : Blk w5 g25 154 #[.int .i64 ((last : Int) + 1), .slice X m c] := by rw [hw5, hg25]; exact Blk.new _ _ _
      have HBw5 := Lib.hid (show Below w1.heap.size w1 w5 from by rw [hw5]; exact HBw4.out.alloc HBw4.out.size _)
      have HBLw5 := Lib.hid (show Below w4.heap.size w4 w5 from by rw [hw5]; exact (Below.refl _ _).alloc (Nat.le_refl _) _)
      rw [← hg25]
      have HP25 := Lib.hid hb25; clear hb25 hw5 hg25
      refine ⟨fun _ => later_of (chg_of HBw5.out), ?_⟩
      refine planz_one [false, false, false, false, false, false, false, false, false, false, false, false, false, false, true] 14 3 (by dsimp only [sel]) (by rfl) rfl (by kernel_rfl) ?_; intro K1 hK1
      refine wpList_app2 _ rfl (.tmp 18) (.tmp 25) 109 rfl w.heap.size 154 i0 _ 2 32 Try.underlying109 hi hz0 hz1 hz2 rfl (by decide) _ n (ref.row l) rfl (own_below HO18.out HBLw5.out) (some ⟨g25, 0, none⟩) 1 1 (fun j => ([.int .i64 ((last : Int) + 1), .slice X m c] : List Value).getD j undef) rfl (ref.at_one (HP25.out)) (ref.one_one _ _ _ _) (by unfold maxLen; omega) (by omega) (by have := HBw5.out.size; have := HSZ.out; omega) ?_
      intro v26 w9 hown hg hl
      obtain ⟨g26, c26, rfl, -, -, -, -, -⟩ := own_row_pos hown (Nat.succ_pos _)
      have HO26 := Lib.hid hown; clear hown
      have HB9 := Lib.hid (HBw5.out.grown hg HBw5.out.size fun k hk => by have := ((own_below HO18.out HBLw5.out).lt k hk).1; have := HSZ.out; omega); clear hg hl
      have f1 := ((chg_of (P := fun _ => False) HB9.out).blk HQ1.out fun h => h).cell 1 rfl
      have ff := fun j => ((chg_of (P := fun _ => False) HB9.out).blk HQ1.out fun h => h).frozen j
      go_wp2_with fail
      refine ⟨fun _ => later_of (chg_of HB9.out), ?_⟩
      go_simp
      refine planz_one [false, false, false, false, false, false, false, false, false, false, false, false, false, false, false, true] 15 2 (by dsimp only [sel]) (by rfl) rfl (by kernel_rfl) ?_; intro K1 hK1; go_wp2_with fail
      refine ⟨fun _ => later_of (chg_of HB9.out), ?_⟩
      refine planz_one [false, false, false, false, false, false, false, false, false, false, false, false, false, false, false, false, true] 16 1 (by dsimp only [sel]) (by rfl) rfl (by kernel_rfl) ?_; intro K1 hK1; go_wp2_with fail
      refine ⟨fun _ => later_of (chg_of HB9.out), ?_⟩
      refine planz_one [false, false, false, false, false, false, false, false, false, false, false, false, false, false, false, false, false, true] 17 0 (by dsimp only [sel]) (by rfl) rfl (by kernel_rfl) ?_; intro K1 hK1; go_wp2_with fail
      refine ⟨fun h => absurd rfl h, ?_⟩
      refine wp_planz_end (by kernel_rfl) ?_
      obtain ⟨wf, hwf⟩ : ∃ x, x = w9.setCell ⟨q, 1, none⟩ (.slice (some ⟨g26, 0, none⟩) (n + 1) c26) := ⟨_, rfl⟩
      have HP := Lib.hid (HFIN.out w9 wf _ _ HB9.out HO26.out hwf)
      have f0 : wf.cell? ⟨q, 0, none⟩ = some (.int .i64 ((last : Int) + 1)) := HP.out.1
      rw [← hwf]
      clear hwf f1 ff q0 q1 HS
      refine hK5 _ _ ?_
      clear hK5
      go_wp2
      go_ret
      exact ⟨rfl, HP.out.2⟩
    · go_wp2_with fail
      obtain ⟨w4, hw4⟩ : ∃ x, x = w3.alloc (.cells #[.int .i64 ((last : Int) + 1), .slice X m c] 154) := ⟨_, rfl⟩
      rw [← hw4]
      obtain ⟨g25, hg25⟩ : ∃ g, g = w3.heap.size := ⟨_, rfl⟩
      have hb25 : Blk w4 g25 154 #[.int .i64 ((last : Int) + 1), .slice X m c] := by rw [hw4, hg25]; exact Blk.new _ _ _
      have HBw4 := Lib.hid (show Below w1.heap.size w1 w4 from by rw [hw4]; exact HBw3.out.alloc HBw3.out.size _)
      have HBLw4 := Lib.hid (show Below w3.heap.size w3 w4 from by rw [hw4]; exact (Below.refl _ _).alloc (Nat.le_refl _) _)
      have hne : g13 ≠ g25 := by have := (HO13.out.lt g13 rfl).2; omega
      rw [← hg25]
      have HP25 := Lib.hid hb25; clear hb25 hw4 hg25
      refine ⟨fun _ => later_of (chg_of HBw4.out), ?_⟩
      refine planz_one [false, false, false, false, false, false, true] 6 4 (by dsimp only [sel]) (by rfl) rfl (by kernel_rfl) ?_; intro K1 hK1
      refine wpList_app2 _ rfl (.tmp 13) (.tmp 17) 109 rfl w.heap.size 154 i0 _ 2 32 Try.underlying109 hi hz0 hz1 hz2 rfl (by decide) _ 0 [] rfl (own_below HO13.out HBLw4.out) A n cr (fun j => (ref.row l).getD j undef) rfl (HATR.out.below HBw4.out (Nat.le_refl _)) (by rw [← HN.out]; exact ref.row_one l) (by unfold maxLen; omega) (by omega) (by have := HBw4.out.size; have := HSZ.out; omega) ?_
      intro v18 w5 hown hg hl
      rw [List.nil_append, ref.row_all HN.out, Nat.zero_add] at hown
      have HO18 := Lib.hid hown; clear hown
      have hrow13 : ∀ k, (Value.slice (some ⟨g13, 0, none⟩) 0 0).ownBlock = some k → w1.heap.size ≤ k := fun k hk => by have := (HO13.out.lt k hk).1; have := HSZ.out; omega
      have HBw5 := Lib.hid (HBw4.out.grown hg HBw4.out.size hrow13)
      have hg18 : Chg w4 w5 (fun k => k = g13) := (Chg.grown hg).mono fun k _ hk => by
        have hk2 : (Value.slice (some ⟨g13, 0, none⟩) 0 0).ownBlock = some k := hk
        have : g13 = k := by simpa [Value.ownBlock] using hk2
        exact this.symm
      have HG18 := Lib.hid hg18; clear hg hl hrow13 hg18
      go_wp2_with fail
      refine ⟨fun _ => later_of (chg_of HBw5.out), ?_⟩
      refine planz_one [false, false, false, false, false, false, false, false, false, false, false, false, false, false, true] 14 3 (by dsimp only [sel]) (by rfl) rfl (by kernel_rfl) ?_; intro K1 hK1
      refine wpList_app2 _ rfl (.tmp 18) (.tmp 25) 109 rfl w.heap.size 154 i0 _ 2 32 Try.underlying109 hi hz0 hz1 hz2 rfl (by decide) _ n (ref.row l) rfl (HO18.out) (some ⟨g25, 0, none⟩) 1 1 (fun j => ([.int .i64 ((last : Int) + 1), .slice X m c] : List Value).getD j undef) rfl (ref.at_one (HG18.out.blk HP25.out (fun h => hne h.symm))) (ref.one_one _ _ _ _) (by unfold maxLen; omega) (by omega) (by have := HBw5.out.size; have := HSZ.out; omega) ?_
      intro v26 w9 hown hg hl
      obtain ⟨g26, c26, rfl, -, -, -, -, -⟩ := own_row_pos hown (Nat.succ_pos _)
      have HO26 := Lib.hid hown; clear hown
      have HB9 := Lib.hid (HBw5.out.grown hg HBw5.out.size fun k hk => by have := ((HO18.out).lt k hk).1; have := HSZ.out; omega); clear hg hl
      have f1 := ((chg_of (P := fun _ => False) HB9.out).blk HQ1.out fun h => h).cell 1 rfl
      have ff := fun j => ((chg_of (P := fun _ => False) HB9.out).blk HQ1.out fun h => h).frozen j
      go_wp2_with fail
      refine ⟨fun _ => later_of (chg_of HB9.out), ?_⟩
      go_simp
      refine planz_one [false, false, false, false, false, false, false, false, false, false, false, false, false, false, false, true] 15 2 (by dsimp only [sel]) (by rfl) rfl (by kernel_rfl) ?_; intro K1 hK1; go_wp2_with fail
      refine ⟨fun _ => later_of (chg_of HB9.out), ?_⟩
      refine planz_one [false, false, false, false, false, false, false, false, false, false, false, false, false, false, false, false, true] 16 1 (by dsimp only [sel]) (by rfl) rfl (by kernel_rfl) ?_; intro K1 hK1; go_wp2_with fail
      refine ⟨fun _ => later_of (chg_of HB9.out), ?_⟩
      refine planz_one [false, false, false, false, false, false, false, false, false, false, false, false, false, false, false, false, false, true] 17 0 (by dsimp only [sel]) (by rfl) rfl (by kernel_rfl) ?_; intro K1 hK1; go_wp2_with fail
      refine ⟨fun h => absurd rfl h, ?_⟩
      refine wp_planz_end (by kernel_rfl) ?_
      obtain ⟨wf, hwf⟩ : ∃ x, x = w9.setCell ⟨q, 1, none⟩ (.slice (some ⟨g26, 0, none⟩) (n + 1) c26) := ⟨_, rfl⟩
      have HP := Lib.hid (HFIN.out w9 wf _ _ HB9.out HO26.out hwf)
      have f0 : wf.cell? ⟨q, 0, none⟩ = some (.int .i64 ((last : Int) + 1)) := HP.out.1
      rw [← hwf]
      clear hwf f1 ff q0 q1 HS
      refine hK5 _ _ ?_
      clear hK5
      go_wp2
      go_ret
      exact ⟨rfl, HP.out.2⟩
  · obtain ⟨w2, hw2⟩ : ∃ x, x = w1.drew := ⟨_, rfl⟩
    replace HBw2 : Hid (Below w1.heap.size w1 w2) := hw2 ▸ HBw2
    rw [← hw2]
    clear hw2
    go_wp2_with fail
    obtain ⟨w3, hw3⟩ : ∃ x, x = w2.alloc (.cells #[.int .i64 ((last : Int) + 1), .slice X m c] 154) := ⟨_, rfl⟩
    rw [← hw3]
    obtain ⟨g25, hg25⟩ : ∃ g, g = w2.heap.size := ⟨_, rfl⟩
    have hb25 : Blk w3 g25 154 #[.int .i64 ((last : Int) + 1), .slice X m c] := by rw [hw3, hg25]; exact Blk.new _ _ _
    have HBw3 := Lib.hid (show Below w1.heap.size w1 w3 from by rw [hw3]; exact HBw2.out.alloc HBw2.out.size _)
    have HBLw3 := Lib.hid (show Below w2.heap.size w2 w3 from by rw [hw3]; exact (Below.refl _ _).alloc (Nat.le_refl _) _)
    rw [← hg25]
    have HP25 := Lib.hid hb25; clear hb25 hw3 hg25
    refine ⟨fun _ => later_of (chg_of HBw3.out), ?_⟩
    refine planz_one [false, true] 1 5 (by dsimp only [sel]) (by rfl) rfl (by kernel_rfl) ?_; intro K1 hK1
    go_wp2_with fail
    obtain ⟨w4, hw4⟩ : ∃ x, x = w3.alloc (.cells #[] 154) := ⟨_, rfl⟩
    rw [← hw4]
    obtain ⟨g13, hg13⟩ : ∃ g, g = w3.heap.size := ⟨_, rfl⟩
    have ho13 : w4.ownsRow w.heap.size 154 2 (.slice (some ⟨g13, 0, none⟩) 0 0) 0 [] := by rw [hw4, hg13]; exact World.ownsRow_made w3 #[] 0 (by have := HBw3.out.size; have := HSZ.out; omega) (by unfold maxLen; omega) (by simp)
    have HBw4 := Lib.hid (show Below w1.heap.size w1 w4 from by rw [hw4]; exact HBw3.out.alloc HBw3.out.size _)
    have HBLw4 := Lib.hid (show Below w3.heap.size w3 w4 from by rw [hw4]; exact (Below.refl _ _).alloc (Nat.le_refl _) _)
    have hne : g13 ≠ g25 := by have := HP25.out.lt; omega
    rw [← hg13]
    have HO13 := Lib.hid ho13; clear ho13 hw4 hg13
    refine ⟨fun _ => later_of (chg_of HBw4.out), ?_⟩
    refine planz_one [false, false, false, false, false, false, true] 6 4 (by dsimp only [sel]) (by rfl) rfl (by kernel_rfl) ?_; intro K1 hK1
    refine wpList_app2 _ rfl (.tmp 13) (.tmp 17) 109 rfl w.heap.size 154 i0 _ 2 32 Try.underlying109 hi hz0 hz1 hz2 rfl (by decide) _ 0 [] rfl (HO13.out) A n cr (fun j => (ref.row l).getD j undef) rfl (HATR.out.below HBw4.out (Nat.le_refl _)) (by rw [← HN.out]; exact ref.row_one l) (by unfold maxLen; omega) (by omega) (by have := HBw4.out.size; have := HSZ.out; omega) ?_
    intro v18 w5 hown hg hl
    rw [List.nil_append, ref.row_all HN.out, Nat.zero_add] at hown
    have HO18 := Lib.hid hown; clear hown
    have hrow13 : ∀ k, (Value.slice (some ⟨g13, 0, none⟩) 0 0).ownBlock = some k → w1.heap.size ≤ k := fun k hk => by have := (HO13.out.lt k hk).1; have := HSZ.out; omega
    have HBw5 := Lib.hid (HBw4.out.grown hg HBw4.out.size hrow13)
    have hg18 : Chg w4 w5 (fun k => k = g13) := (Chg.grown hg).mono fun k _ hk => by
      have hk2 : (Value.slice (some ⟨g13, 0, none⟩) 0 0).ownBlock = some k := hk
      have : g13 = k := by simpa [Value.ownBlock] using hk2
      exact this.symm
    have HG18 := Lib.hid hg18; clear hg hl hrow13 hg18
    go_wp2_with fail
    refine ⟨fun _ => later_of (chg_of HBw5.out), ?_⟩
    refine planz_one [false, false, false, false, false, false, false, false, false, false, false, false, false, false, true] 14 3 (by dsimp only [sel]) (by rfl) rfl (by kernel_rfl) ?_; intro K1 hK1
    refine wpList_app2 _ rfl (.tmp 18) (.tmp 25) 109 rfl w.heap.size 154 i0 _ 2 32 Try.underlying109 hi hz0 hz1 hz2 rfl (by decide) _ n (ref.row l) rfl (HO18.out) (some ⟨g25, 0, none⟩) 1 1 (fun j => ([.int .i64 ((last : Int) + 1), .slice X m c] : List Value).getD j undef) rfl (ref.at_one (HG18.out.blk ((chg_of (P := fun _ => False) HBLw4.out).blk HP25.out fun h => h) (fun h => hne h.symm))) (ref.one_one _ _ _ _) (by unfold maxLen; omega) (by omega) (by have := HBw5.out.size; have := HSZ.out; omega) ?_
    intro v26 w9 hown hg hl
    obtain ⟨g26, c26, rfl, -, -, -, -, -⟩ := own_row_pos hown (Nat.succ_pos _)
    have HO26 := Lib.hid hown; clear hown
    have HB9 := Lib.hid (HBw5.out.grown hg HBw5.out.size fun k hk => by have := ((HO18.out).lt k hk).1; have := HSZ.out; omega); clear hg hl
    have f1 := ((chg_of (P := fun _ => False) HB9.out).blk HQ1.out fun h => h).cell 1 rfl
    have ff := fun j => ((chg_of (P := fun _ => False) HB9.out).blk HQ1.out fun h => h).frozen j
    go_wp2_with fail
    refine ⟨fun _ => later_of (chg_of HB9.out), ?_⟩
    go_simp
    refine planz_one [false, false, false, false, false, false, false, false, false, false, false, false, false, false, false, true] 15 2 (by dsimp only [sel]) (by rfl) rfl (by kernel_rfl) ?_; intro K1 hK1; go_wp2_with fail
    refine ⟨fun _ => later_of (chg_of HB9.out), ?_⟩
    refine planz_one [false, false, false, false, false, false, false, false, false, false, false, false, false, false, false, false, true] 16 1 (by dsimp only [sel]) (by rfl) rfl (by kernel_rfl) ?_; intro K1 hK1; go_wp2_with fail
    refine ⟨fun _ => later_of (chg_of HB9.out), ?_⟩
    refine planz_one [false, false, false, false, false, false, false, false, false, false, false, false, false, false, false, false, false, true] 17 0 (by dsimp only [sel]) (by rfl) rfl (by kernel_rfl) ?_; intro K1 hK1; go_wp2_with fail
    refine ⟨fun h => absurd rfl h, ?_⟩
    refine wp_planz_end (by kernel_rfl) ?_
    obtain ⟨wf, hwf⟩ : ∃ x, x = w9.setCell ⟨q, 1, none⟩ (.slice (some ⟨g26, 0, none⟩) (n + 1) c26) := ⟨_, rfl⟩
    have HP := Lib.hid (HFIN.out w9 wf _ _ HB9.out HO26.out hwf)
    have f0 : wf.cell? ⟨q, 0, none⟩ = some (.int .i64 ((last : Int) + 1)) := HP.out.1
    rw [← hwf]
    clear hwf f1 ff q0 q1 HS
    refine hK5 _ _ ?_
    clear hK5
    go_wp2
    go_ret
    exact ⟨rfl, HP.out.2⟩
end Go.Proofs.Ytbbekgliaedigaa

/- The document's own net (cordwainref4): Take, Double. -/
import Derived.Test.YtbbekgliaedigaaNetR
import Derived.Deep.CutRange
import Derived.Deep.CutBlock
namespace Go.Proofs.Ytbbekgliaedigaa
open Go.RowKit
set_option maxRecDepth 20000

theorem ref.row_take : ∀ (l : List RItm) (i : Nat), (ref.row l).take (i * 2) = ref.row (l.take i)
  | [], i => by simp [ref.row]
  | y :: l, 0 => by simp [ref.row]
  | y :: l, i + 1 => by
    rw [List.take_succ_cons, ref.row_cons, ref.row_cons, ← ref.row_take l i, show (i + 1) * 2 = i * 2 + 2 by omega]
    rfl
theorem ref.row_drop : ∀ (l : List RItm) (i : Nat), (ref.row l).drop (i * 2) = ref.row (l.drop i)
  | [], i => by simp [ref.row]
  | y :: l, 0 => by simp
  | y :: l, i + 1 => by
    rw [List.drop_succ_cons, ref.row_cons, ← ref.row_drop l i, show (i + 1) * 2 = i * 2 + 2 by omega]
    rfl
theorem ref.at_take {w : World} {A : Option Addr} {l : List RItm} {n : Nat} (h : At w A (n * 2) (fun j => (ref.row l).getD j undef)) {i : Nat} (hi : i ≤ n) : At w A (i * 2) (fun j => (ref.row (l.take i)).getD j undef) :=
  (h.le (by omega)).congr fun j hj => by
    show (ref.row l).getD j undef = (ref.row (l.take i)).getD j undef
    rw [← ref.row_take]
    simp only [List.getD]
    rw [List.getElem?_take_of_lt hj]
theorem ref.at_drop {w : World} {g : Nat} {l : List RItm} {n : Nat} (h : At w (some ⟨g, 0, none⟩) (n * 2) (fun j => (ref.row l).getD j undef)) {i : Nat} (hi : i ≤ n) : At w (some ⟨g, i * 2, none⟩) ((n - i) * 2) (fun j => (ref.row (l.drop i)).getD j undef) := fun hn => by
  obtain ⟨b, off, h1, h2, h3⟩ := h (by omega)
  obtain ⟨rfl, rfl⟩ : g = b ∧ 0 = off := by simpa using h1
  refine ⟨g, i * 2, rfl, h2, fun j hj => ?_⟩
  have h4 := h3 (i * 2 + j) (by omega)
  rw [Nat.zero_add] at h4
  rw [h4, ← ref.row_drop]
  simp [List.getD]
theorem ref.place_none {l : List RItm} {k : Int} (h : ∀ x ∈ l, x.id ≠ k) : ref.place l k = -1 := by
  unfold ref.place
  have : l.findIdx? (fun x => decide (x.id = k)) = none := by
    rw [List.findIdx?_eq_none_iff]
    intro x hx
    simpa using h x hx
  rw [this]
theorem ref.place_some {l : List RItm} {k : Int} (h : ∃ x ∈ l, x.id = k) : ∃ (i : Nat) (x : RItm), ref.place l k = (i : Int) ∧ l[i]? = some x ∧ x.id = k ∧ i < l.length := by
  unfold ref.place
  cases hf : l.findIdx? (fun x => decide (x.id = k)) with
  | none =>
    rw [List.findIdx?_eq_none_iff] at hf
    obtain ⟨x, hx, he⟩ := h
    have := hf x hx
    simp [he] at this
  | some i =>
    rw [List.findIdx?_eq_some_iff_getElem] at hf
    obtain ⟨h1, h2, -⟩ := hf
    exact ⟨i, l[i], rfl, List.getElem?_eq_getElem h1, by simpa using h2, h1⟩

theorem ref.take_no (w0 : World) (q last : Nat) (l : List RItm) (k : Int) (w : World) (h : RefAt w0 w q last l) (hlast : last ≤ 100000000) (hno : ∀ x ∈ l, x.id ≠ k) :
    Calls Try.prog 64 #[.pointer (some ⟨q, 0, none⟩), .int .i64 k] w fun e w' => e = .returned (.tuple #[.slice none 0 0, .int .i64 5]) ∧ w' = w := by
  have ha := ref.at_any w0 q last l k w h (by omega)
  rw [ref.place_none hno] at ha
  clear h hno
  go_enter Try.func64, Try.ntmps64
  go_wp2_with fail
  refine ha.mono ?_
  rintro e w1 ⟨rfl, rfl⟩
  clear ha
  go_wp2
  go_ret2
  exact ⟨rfl, rfl⟩
theorem ref.double_no (w0 : World) (q last : Nat) (l : List RItm) (k : Int) (w : World) (h : RefAt w0 w q last l) (hlast : last ≤ 100000000) (hno : ∀ x ∈ l, x.id ≠ k) :
    Calls Try.prog 65 #[.pointer (some ⟨q, 0, none⟩), .int .i64 k] w fun e w' => e = .returned (.tuple #[.int .i64 0, .int .i64 5]) ∧ w' = w := by
  have ha := ref.at_any w0 q last l k w h (by omega)
  rw [ref.place_none hno] at ha
  clear h hno
  go_enter Try.func65, Try.ntmps65
  go_wp2_with fail
  refine ha.mono ?_
  rintro e w1 ⟨rfl, rfl⟩
  clear ha
  go_wp2
  go_ret2
  exact ⟨rfl, rfl⟩
set_option maxHeartbeats 1000000 in
theorem ref.double_some (w0 : World) (q last : Nat) (l : List RItm) (k : Int) (w : World) (h : RefAt w0 w q last l) (hlast : last ≤ 1000000) (i : Nat) (x : RItm) (hpl : ref.place l k = (i : Int)) (hx : l[i]? = some x) :
    Calls Try.prog 65 #[.pointer (some ⟨q, 0, none⟩), .int .i64 k] w fun e w' => e = .returned (.tuple #[.int .i64 ((last : Int) + 1), .int .i64 0]) ∧ RefAt w0 w' q (last + 1) (l ++ [⟨(last : Int) + 1, x.A, x.k, x.c, x.bs⟩]) ∧ Chg w w' (fun k => k = q) := by
  have ha := ref.at_any w0 q last l k w h (by omega)
  rw [hpl] at ha
  have h0 := h
  obtain ⟨v, hq, hr, hbs, hll⟩ := h
  have hil := (List.getElem?_eq_some_iff.1 hx).1
  obtain ⟨g, cr, rfl, -, -, -, -, -⟩ := own_row_pos hr (by omega)
  obtain ⟨d0, d1, hgl⟩ := ref.row_cells hr hx
  have c1 : w.cell? ⟨q, 1, none⟩ = some (.slice (some ⟨g, 0, none⟩) l.length cr) := hq.cell 1 rfl
  obtain ⟨b1, b2, b3⟩ := hbs x (List.mem_of_getElem? hx)
  have hsend := ref.send_any w0 q last l x.A x.k x.c x.bs w h0 (by omega) ⟨b1, b2, b3⟩
  have HS := Lib.hid hsend; clear hsend
  obtain ⟨n, hn⟩ : ∃ n, n = l.length := ⟨_, rfl⟩
  rw [← hn] at c1 hil hll
  clear h0 hq hr hbs hx hn hpl b1 b2 b3 d0
  obtain ⟨id, A, kk, cc, bs⟩ := x
  dsimp only at *
  go_enter Try.func65, Try.ntmps65
  go_wp2_with fail
  refine ha.mono ?_
  rintro e w1 ⟨rfl, rfl⟩
  clear ha
  go_wp2_with fail
  refine HS.out.mono ?_
  rintro e w2 ⟨rfl, h2, h3⟩
  have H2 := Lib.hid h2; clear h2
  have H3 := Lib.hid h3; clear h3
  clear HS c1 d1
  go_wp2
  go_ret2
  exact ⟨rfl, H2.out, H3.out⟩

set_option maxHeartbeats 8000000 in
theorem ref.take_some (w0 : World) (q last : Nat) (l : List RItm) (k : Int) (w : World) (h : RefAt w0 w q last l) (hlast : last ≤ 1000000) (i : Nat) (x : RItm) (hpl : ref.place l k = (i : Int)) (hx : l[i]? = some x) :
    Calls Try.prog 64 #[.pointer (some ⟨q, 0, none⟩), .int .i64 k] w fun e w' => e = .returned (.tuple #[.slice x.A x.k x.c, .int .i64 0]) ∧ RefAt w0 w' q last (l.take i ++ l.drop (i + 1)) ∧ Chg w w' (fun k => k = q) := by
  have ha := ref.at_any w0 q last l k w h (by omega)
  rw [hpl] at ha
  obtain ⟨v, hq, hr, hbs, hll⟩ := h
  have hil := (List.getElem?_eq_some_iff.1 hx).1
  obtain ⟨g, cr, rfl, hncr, -, -, -, hat⟩ := own_row_pos hr (by omega)
  obtain ⟨d0, d1, hgl⟩ := ref.row_cells hr hx
  obtain ⟨n, hn⟩ : ∃ n, n = l.length := ⟨_, rfl⟩
  rw [← hn] at hil hll hr hq hat hncr
  have HN := Lib.hid hn.symm; clear hn hpl hx
  have c1 : w.cell? ⟨q, 1, none⟩ = some (.slice (some ⟨g, 0, none⟩) n cr) := hq.cell 1 rfl
  have HAT1 := Lib.hid (ref.at_take hat (Nat.le_of_lt hil))
  have HAT2 := Lib.hid (ref.at_drop hat (i := i + 1) hil); clear hat
  obtain ⟨i0, hi, hz0, hz1, hz2⟩ := info_parts infoRItem
  have HQ := Lib.hid hq; clear hq
  have HR := Lib.hid hr; clear hr
  have HBS := Lib.hid hbs; clear hbs
  have hfin : ∀ (w9 wf : World) (A9 : Option Addr) (c9 : Nat), Below w.heap.size w w9 → w9.ownsRow w.heap.size 154 2 (.slice A9 (i + (n - (i + 1))) c9) (i + (n - (i + 1))) (ref.row (l.take i) ++ ref.row (l.drop (i + 1))) →
      wf = w9.setCell ⟨q, 1, none⟩ (.slice A9 (i + (n - (i + 1))) c9) → RefAt w0 wf q last (l.take i ++ l.drop (i + 1)) ∧ Chg w wf (fun k => k = q) := fun w9 wf A9 c9 h9 ho e => by
    have hq9 := (chg_of (P := fun _ => False) h9).blk HQ.out fun h => h
    have hqf : Blk wf q 111 #[.int .i64 last, .slice A9 (i + (n - (i + 1))) c9] := by rw [e]; exact hq9.set 1 _
    have hcf : Chg w9 wf (fun k => k = q) := by rw [e]; exact Chg.setCell _ _ _ _
    have hof := hcf.own ho fun k hk e => by subst e; exact hq9.not_row (by decide) ho hk
    have hlen : (l.take i ++ l.drop (i + 1)).length = i + (n - (i + 1)) := by rw [List.length_append, List.length_take, List.length_drop, HN.out]; omega
    refine ⟨⟨_, hqf, ?_, fun x hx => ?_, by rw [hlen]; omega⟩, (chg_of (P := fun k => k = q) h9).trans hcf fun _ _ h => h⟩
    · rw [hlen, ref.row_append]
      exact ownsRow_base hof (Nat.zero_le _)
    · rcases List.mem_append.1 hx with hx | hx
      · exact HBS.out x (List.mem_of_mem_take hx)
      · exact HBS.out x (List.mem_of_mem_drop hx)
  have HFIN := Lib.hid hfin; clear hfin
  obtain ⟨id, A, kk, cc, bs⟩ := x
  dsimp only at d0 d1 ⊢
  go_enter Try.func64, Try.ntmps64
  go_wp2_with fail
  refine ha.mono ?_
  rintro e w1 ⟨rfl, rfl⟩
  clear ha
  go_upto_region 5 with fail
  have q1 : ∀ x : Later w1 (fun _ => False), x.1.cell? ⟨q, 1, none⟩ = some (.slice (some ⟨g, 0, none⟩) n cr) := fun x => (x.2.blk HQ.out fun h => h).cell 1 rfl
  have hS0 : later w1 (fun _ => False) w1.drew := later_of ((Chg.refl _ _).drew)
  clear c1 d0 d1
  rcases Decidable.em (cr = i + 1) with hcr | hcr
  · have hn1 : n = i + 1 := by omega
    subst hcr
    subst hn1
    have hz : i + (i + 1 - (i + 1)) = i := by omega
    have hf2 := HFIN.out
    rw [hz] at hf2
    clear HFIN hz
    have HFIN := Lib.hid hf2; clear hf2
    refine wp_planz (S := fun w0 => ∃ x : Later w1 (fun _ => False), w0 = x.1) 19 (by kernel_rfl) hS0 ?_
    intro hS K5 hK5
    have HS := Lib.hid hS; clear hS hS0
    refine planz_group [true, false, true, true, true, true, true, true, false, true, true, true, true, true, true, true] [0, 2, 3, 4, 5, 6, 7, 9, 10, 11, 12, 13, 14, 15] 6 (by dsimp only [sel]) (by rfl) rfl (by kernel_rfl) (by kernel_rfl) (by kernel_rfl) HS.out ?_
    (repeat go_big_quiet_step (fail)); refine wpQuiet_nil ?_
    obtain ⟨w2, hw2⟩ : ∃ x, x = w1.drew := ⟨_, rfl⟩
    have HB2 := Lib.hid (show Below w1.heap.size w1 w2 from hw2 ▸ bdrew (Below.refl w1.heap.size w1) 1)
    rw [← hw2]
    clear hw2
    refine planz_one [false, true] 1 5 (by dsimp only [sel]) (by rfl) rfl (by kernel_rfl) ?_; intro K1 hK1; go_wp2_with fail
    obtain ⟨w3, hw3⟩ : ∃ x, x = w2.alloc (.cells #[] 154) := ⟨_, rfl⟩
    rw [← hw3]
    obtain ⟨g13, hg13⟩ : ∃ g, g = w2.heap.size := ⟨_, rfl⟩
    have ho13 : w3.ownsRow w1.heap.size 154 2 (.slice (some ⟨g13, 0, none⟩) 0 0) 0 [] := by rw [hw3, hg13]; exact World.ownsRow_made w2 #[] 0 HB2.out.size (by unfold maxLen; omega) (by simp)
    have HB3 := Lib.hid (show Below w1.heap.size w1 w3 from by rw [hw3]; exact HB2.out.alloc HB2.out.size _)
    rw [← hg13]
    have HO13 := Lib.hid ho13; clear ho13 hw3 hg13
    refine ⟨fun _ => later_of (chg_of HB3.out), ?_⟩
    refine planz_one [false, false, false, false, false, false, false, false, true] 8 4 (by dsimp only [sel]) (by rfl) rfl (by kernel_rfl) ?_; intro K1 hK1
    refine wpList_app2 _ rfl (.tmp 22) (.tmp 28) 109 rfl w1.heap.size 154 i0 _ 2 32 Try.underlying109 hi hz0 hz1 hz2 rfl (by decide) _ 0 [] rfl HO13.out (some ⟨g, 0, none⟩) i (i + 1) (fun j => (ref.row (l.take i)).getD j undef) rfl (HAT1.out.below HB3.out (Nat.le_refl _)) (by have := ref.row_one (l.take i); rw [List.length_take, Nat.min_eq_left (by have := HN.out; omega)] at this; exact this) (by unfold maxLen; omega) (by omega) (by have := HB3.out.size; omega) ?_
    intro v18 w4 hown hg hl
    rw [List.nil_append, ref.row_all (l := l.take i) (n := i) (by rw [List.length_take]; have := HN.out; omega), Nat.zero_add] at hown
    have HO18 := Lib.hid hown; clear hown
    have HB4 := Lib.hid (HB3.out.grown hg HB3.out.size fun k hk => (HO13.out.lt k hk).1); clear hg hl
    go_wp2_with fail
    refine ⟨fun _ => later_of (chg_of HB4.out), ?_⟩
    refine planz_one [false, false, false, false, false, false, false, false, false, false, false, false, false, false, false, false, true] 16 3 (by dsimp only [sel]) (by rfl) rfl (by kernel_rfl) ?_; intro K1 hK1
    refine wpList_app2 _ rfl (.tmp 29) (.tmp 36) 109 rfl w1.heap.size 154 i0 _ 2 32 Try.underlying109 hi hz0 hz1 hz2 rfl (by decide) _ i (ref.row (l.take i)) rfl HO18.out (some ⟨g, 0, none⟩) 0 0 (fun j => (ref.row (l.drop (i + 1))).getD j undef) rfl (fun h => absurd h (by omega)) (fun j hj => absurd hj (by omega)) (by unfold maxLen; omega) (by omega) (by have := HB4.out.size; omega) ?_
    intro v26 w9 hown hg hl
    rw [ref.row_all (l := l.drop (i + 1)) (n := 0) (by rw [List.length_drop, HN.out]; omega), Nat.add_zero] at hown
    obtain ⟨A9, c9, rfl, -⟩ := own_at hown
    have HO26 := Lib.hid hown; clear hown
    have HB9 := Lib.hid (HB4.out.grown hg HB4.out.size fun k hk => (HO18.out.lt k hk).1); clear hg hl
    have f1 := ((chg_of (P := fun _ => False) HB9.out).blk HQ.out fun h => h).cell 1 rfl
    have ff := fun j => ((chg_of (P := fun _ => False) HB9.out).blk HQ.out fun h => h).frozen j
    go_wp2_with fail
    refine ⟨fun _ => later_of (chg_of HB9.out), ?_⟩
    go_simp
    refine planz_one [false, false, false, false, false, false, false, false, false, false, false, false, false, false, false, false, false, true] 17 2 (by dsimp only [sel]) (by rfl) rfl (by kernel_rfl) ?_; intro K1 hK1; go_wp2_with fail
    refine ⟨fun _ => later_of (chg_of HB9.out), ?_⟩
    refine planz_one [false, false, false, false, false, false, false, false, false, false, false, false, false, false, false, false, false, false, true] 18 1 (by dsimp only [sel]) (by rfl) rfl (by kernel_rfl) ?_; intro K1 hK1; go_wp2_with fail
    refine ⟨fun _ => later_of (chg_of HB9.out), ?_⟩
    refine planz_one [false, false, false, false, false, false, false, false, false, false, false, false, false, false, false, false, false, false, false, true] 19 0 (by dsimp only [sel]) (by rfl) rfl (by kernel_rfl) ?_; intro K1 hK1; go_wp2_with fail
    refine ⟨fun h => absurd rfl h, ?_⟩
    refine wp_planz_end (by kernel_rfl) ?_
    obtain ⟨wf, hwf⟩ : ∃ x, x = w9.setCell ⟨q, 1, none⟩ (.slice A9 i c9) := ⟨_, rfl⟩
    have HP := Lib.hid (HFIN.out w9 wf _ _ HB9.out HO26.out hwf)
    rw [← hwf]
    clear hwf f1 ff q1 HS
    refine hK5 _ _ ?_
    clear hK5
    go_wp2
    go_ret2
    exact ⟨rfl, HP.out⟩
  · refine wp_planz (S := fun w0 => ∃ x : Later w1 (fun _ => False), w0 = x.1) 19 (by kernel_rfl) hS0 ?_
    intro hS K5 hK5
    have HS := Lib.hid hS; clear hS hS0
    refine planz_group [true, false, true, true, true, true, true, true, false, true, true, true, true, true, true, true] [0, 2, 3, 4, 5, 6, 7, 9, 10, 11, 12, 13, 14, 15] 6 (by dsimp only [sel]) (by rfl) rfl (by kernel_rfl) (by kernel_rfl) (by kernel_rfl) HS.out ?_
    (repeat go_big_quiet_step (fail)); refine wpQuiet_nil ?_
    obtain ⟨w2, hw2⟩ : ∃ x, x = w1.drew := ⟨_, rfl⟩
    have HB2 := Lib.hid (show Below w1.heap.size w1 w2 from hw2 ▸ bdrew (Below.refl w1.heap.size w1) 1)
    rw [← hw2]
    clear hw2
    refine planz_one [false, true] 1 5 (by dsimp only [sel]) (by rfl) rfl (by kernel_rfl) ?_; intro K1 hK1; go_wp2_with fail
    obtain ⟨w3, hw3⟩ : ∃ x, x = w2.alloc (.cells #[] 154) := ⟨_, rfl⟩
    rw [← hw3]
    obtain ⟨g13, hg13⟩ : ∃ g, g = w2.heap.size := ⟨_, rfl⟩
    have ho13 : w3.ownsRow w1.heap.size 154 2 (.slice (some ⟨g13, 0, none⟩) 0 0) 0 [] := by rw [hw3, hg13]; exact World.ownsRow_made w2 #[] 0 HB2.out.size (by unfold maxLen; omega) (by simp)
    have HB3 := Lib.hid (show Below w1.heap.size w1 w3 from by rw [hw3]; exact HB2.out.alloc HB2.out.size _)
    rw [← hg13]
    have HO13 := Lib.hid ho13; clear ho13 hw3 hg13
    refine ⟨fun _ => later_of (chg_of HB3.out), ?_⟩
    refine planz_one [false, false, false, false, false, false, false, false, true] 8 4 (by dsimp only [sel]) (by rfl) rfl (by kernel_rfl) ?_; intro K1 hK1
    refine wpList_app2 _ rfl (.tmp 22) (.tmp 28) 109 rfl w1.heap.size 154 i0 _ 2 32 Try.underlying109 hi hz0 hz1 hz2 rfl (by decide) _ 0 [] rfl HO13.out (some ⟨g, 0, none⟩) i cr (fun j => (ref.row (l.take i)).getD j undef) rfl (HAT1.out.below HB3.out (Nat.le_refl _)) (by have := ref.row_one (l.take i); rw [List.length_take, Nat.min_eq_left (by have := HN.out; omega)] at this; exact this) (by unfold maxLen; omega) (by omega) (by have := HB3.out.size; omega) ?_
    intro v18 w4 hown hg hl
    rw [List.nil_append, ref.row_all (l := l.take i) (n := i) (by rw [List.length_take]; have := HN.out; omega), Nat.zero_add] at hown
    have HO18 := Lib.hid hown; clear hown
    have HB4 := Lib.hid (HB3.out.grown hg HB3.out.size fun k hk => (HO13.out.lt k hk).1); clear hg hl
    go_wp2_with fail
    refine ⟨fun _ => later_of (chg_of HB4.out), ?_⟩
    refine planz_one [false, false, false, false, false, false, false, false, false, false, false, false, false, false, false, false, true] 16 3 (by dsimp only [sel]) (by rfl) rfl (by kernel_rfl) ?_; intro K1 hK1
    refine wpList_app2 _ rfl (.tmp 29) (.tmp 36) 109 rfl w1.heap.size 154 i0 _ 2 32 Try.underlying109 hi hz0 hz1 hz2 rfl (by decide) _ i (ref.row (l.take i)) rfl HO18.out (some ⟨g, (i + 1) * 2, none⟩) (n - (i + 1)) (cr - (i + 1)) (fun j => (ref.row (l.drop (i + 1))).getD j undef) rfl (HAT2.out.below HB4.out (Nat.le_refl _)) (by have := ref.row_one (l.drop (i + 1)); rw [List.length_drop, HN.out] at this; exact this) (by unfold maxLen; omega) (by omega) (by have := HB4.out.size; omega) ?_
    intro v26 w9 hown hg hl
    rw [ref.row_all (l := l.drop (i + 1)) (n := n - (i + 1)) (by rw [List.length_drop, HN.out])] at hown
    obtain ⟨A9, c9, rfl, -⟩ := own_at hown
    have HO26 := Lib.hid hown; clear hown
    have HB9 := Lib.hid (HB4.out.grown hg HB4.out.size fun k hk => (HO18.out.lt k hk).1); clear hg hl
    have f1 := ((chg_of (P := fun _ => False) HB9.out).blk HQ.out fun h => h).cell 1 rfl
    have ff := fun j => ((chg_of (P := fun _ => False) HB9.out).blk HQ.out fun h => h).frozen j
    go_wp2_with fail
    refine ⟨fun _ => later_of (chg_of HB9.out), ?_⟩
    go_simp
    refine planz_one [false, false, false, false, false, false, false, false, false, false, false, false, false, false, false, false, false, true] 17 2 (by dsimp only [sel]) (by rfl) rfl (by kernel_rfl) ?_; intro K1 hK1; go_wp2_with fail
    refine ⟨fun _ => later_of (chg_of HB9.out), ?_⟩
    refine planz_one [false, false, false, false, false, false, false, false, false, false, false, false, false, false, false, false, false, false, true] 18 1 (by dsimp only [sel]) (by rfl) rfl (by kernel_rfl) ?_; intro K1 hK1; go_wp2_with fail
    refine ⟨fun _ => later_of (chg_of HB9.out), ?_⟩
    refine planz_one [false, false, false, false, false, false, false, false, false, false, false, false, false, false, false, false, false, false, false, true] 19 0 (by dsimp only [sel]) (by rfl) rfl (by kernel_rfl) ?_; intro K1 hK1; go_wp2_with fail
    refine ⟨fun h => absurd rfl h, ?_⟩
    refine wp_planz_end (by kernel_rfl) ?_
    obtain ⟨wf, hwf⟩ : ∃ x, x = w9.setCell ⟨q, 1, none⟩ (.slice A9 (i + (n - (i + 1))) c9) := ⟨_, rfl⟩
    have HP := Lib.hid (HFIN.out w9 wf _ _ HB9.out HO26.out hwf)
    rw [← hwf]
    clear hwf f1 ff q1 HS
    refine hK5 _ _ ?_
    clear hK5
    go_wp2
    go_ret2
    exact ⟨rfl, HP.out⟩
end Go.Proofs.Ytbbekgliaedigaa

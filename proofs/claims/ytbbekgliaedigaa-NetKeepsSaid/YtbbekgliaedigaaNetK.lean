/- The law NetKeeps: its walk. -/
import Derived.Test.YtbbekgliaedigaaNetI
namespace Go.Proofs.Ytbbekgliaedigaa
open Go.RowKit
set_option maxRecDepth 20000

theorem net.swap_nil (a b : Int) (w : World) :
    Calls Try.prog 60 #[.pointer none, .int .i64 a, .int .i64 b] w fun e w' => e = .returned (.int .i64 5) ∧ w' = w := by
  go_enter Try.func60, Try.ntmps60
  go_wp2_with fail
  refine (net.place_nil a w).mono ?_
  rintro e w1 ⟨rfl, rfl⟩
  go_wp2_with fail
  refine (net.place_nil b w1).mono ?_
  rintro e w2 ⟨rfl, rfl⟩
  go_wp2
  go_ret
  exact ⟨rfl, rfl⟩
theorem net.newAll (B : Nat) (w : World) (hB : B ≤ w.heap.size) :
    Calls Try.prog 54 #[] w fun e w' => ∃ p, e = .returned (.pointer (some ⟨p, 0, none⟩)) ∧ (∀ C, NetS B C w' p 0 []) ∧ Below w.heap.size w w' := by
  refine (net.new_any B 0 w hB).mono ?_
  rintro e w' ⟨p, rfl, ⟨rv, mb, N, g, h1, h2, h3, h4, h5, h6, h7⟩, hb⟩
  exact ⟨p, rfl, fun C => ⟨[], ⟨rv, mb, N, g, h1, h2, h3, h4, h5, fun x hx => by simp at hx, h7⟩, rfl⟩, hb⟩

set_option maxHeartbeats 8000000 in
theorem law23.keeps (A : Option Addr) (n c : Nat) (z : List Int) (tw : Bool) (w : World) (hz : z.length = n ∧ n ≤ c ∧ c ≤ maxLen) (hatz : At w A n (fun j => .int .u8 (z.getD j 0))) (hwf : ∀ x ∈ z, (Lit.int .u8 x).wf = true) :
    Calls Try.prog 12 #[.slice A n c, .bool tw] w fun e w' => e = .returned (.bool true) ∧ Below w.heap.size w w' := by
  obtain ⟨hz1, -, -⟩ := hz
  obtain ⟨haz, hzb⟩ := ints_bytes hatz hz1 hwf
  obtain ⟨L, hL⟩ : ∃ L, L = z.map Int.toNat := ⟨_, rfl⟩
  rw [← hL] at haz hzb
  have hlen : L.length = n := by rw [hL, List.length_map, hz1]
  clear hL hatz hwf hz1
  have HAT := Lib.hid haz; clear haz
  have HLEN := Lib.hid hlen; clear hlen
  have HZB := Lib.hid hzb; clear hzb
  by_cases h0 : n = 0
  · subst h0
    go_enter Try.func12, Try.ntmps12
    go_wp2_with fail
    refine (law23.awake w).mono ?_
    rintro e w1 ⟨rfl, hb⟩
    have HB := Lib.hid hb; clear hb
    go_wp2
    go_ret
    exact ⟨rfl, HB.out⟩
  have hd0 : ((n : Int) == 0) = false := by simp; omega
  by_cases h5 : 500 < n
  · have hd1 : decide (500 < (n : Int)) = true := decide_eq_true (by omega)
    clear h0 h5
    go_enter Try.func12, Try.ntmps12
    go_wp2_with fail
    refine (law23.awake w).mono ?_
    rintro e w1 ⟨rfl, hb⟩
    have HB := Lib.hid hb; clear hb
    go_wp2
    go_ret
    exact ⟨rfl, HB.out⟩
  have hd1 : decide (500 < (n : Int)) = false := decide_eq_false (by omega)
  have hn5 : n ≤ 500 := by omega
  have hn0 : 0 < n := by omega
  clear h0 h5
  cases tw
  · obtain ⟨i0, hi, hz0, hz1, hz2⟩ := info_parts infoByte
    go_enter Try.func12, Try.ntmps12
    go_wp2_with fail
    clear hd0 hd1
    refine (net.newAll w.heap.size w (Nat.le_refl _)).mono ?_
    rintro e w1 ⟨p, rfl, hn1, hb1⟩
    have HB1 := Lib.hid hb1; clear hb1
    have HN1 := Lib.hid hn1; clear hn1
    have hm1 : (w1.alloc (.cells #[] 5)).ownsRow w1.heap.size 5 1 (.slice (some ⟨w1.heap.size, 0, none⟩) 0 0) 0 [] := World.ownsRow_made w1 #[] 0 (Nat.le_refl _) (by unfold maxLen; omega) (by simp)
    have HM1 := Lib.hid hm1; clear hm1
    go_wp2_with (at_builtin; refine wpList_app2 _ rfl (.tmp 29) (.tmp 30) 23 rfl w1.heap.size 5 i0 _ 1 1 Try.underlying23 hi hz0 hz1 hz2 rfl (by decide) _ 0 [] rfl HM1.out A n c (byteAt L) rfl (by rw [Nat.mul_one]; exact (HAT.out.below HB1.out (Nat.le_refl _)).alloc _) (fun j _ => byteAt_one L j) (by unfold maxLen; omega) (by omega) (by simp) ?_; intro v2 w2 hown2 hg2 hl2; rw [List.nil_append, byteAt_cells_n L n HLEN.out, Nat.zero_add] at hown2; have HO2 := Lib.hid hown2; have HB12 := Lib.hid (show Below w1.heap.size w1 w2 from ((Below.refl _ w1).alloc (Nat.le_refl _) _).grown hg2 (by simp) (fun g hg => by cases hg; exact Nat.le_refl _)); obtain ⟨g2, c2, rfl, -, -, hg2b, hg2l, -⟩ := own_row_pos hown2 hn0; clear hown2 hg2 hl2)
    have hat2 : At w2 (some ⟨g2, 0, none⟩) n (byteAt L) := own_bytes_at HO2.out
    have hn2 := (HN1.out w2.heap.size).below HB12.out
    refine (net.sendS w.heap.size w2.heap.size p 0 [] _ n c2 L w2 hn2 (by omega) (Nat.le_refl _) HLEN.out (by omega) hat2).mono ?_
    rintro e w3 ⟨he, hn3, hc3⟩
    obtain rfl : e = .returned (.int .i64 1) := he
    replace hn3 : NetS w.heap.size w2.heap.size w3 p 1 [(1, L)] := hn3
    have hB2 : Below w.heap.size w w2 := HB1.out.trans (HB12.out.mono HB1.out.size)
    have hB3 : Below w.heap.size w w3 := hB2.trans (hc3.toBelow hB2.size)
    have ho3 := hc3.own HO2.out (by decide) (by decide)
    have hfree : NetFree w2.heap.size w3 g2 := by
      rcases ho3.2 with ⟨h1, -⟩ | ⟨g, cap, cur, h1, -, hg, -⟩
      · cases h1
      · obtain ⟨rfl, -⟩ : g2 = g ∧ c2 = cap := by simpa using h1
        exact ⟨_, _, _, hg, by decide, by decide, fun _ => hg2l⟩
    obtain ⟨A9, c9, h9, -, -, hat3⟩ := own_bytes ho3
    obtain ⟨rfl, rfl⟩ : (some ⟨g2, 0, none⟩ : Option Addr) = A9 ∧ c2 = c9 := by simpa using h9
    have e0 : w3.cell? ⟨g2, 0, none⟩ = some (.int .u8 ((L.getD 0 0 : Nat) : Int)) := by
      obtain ⟨b, off, h1, -, h3⟩ := hat3 hn0
      obtain ⟨rfl, rfl⟩ : g2 = b ∧ 0 = off := by simpa using h1
      exact h3 0 hn0
    have f0 : w3.frozen? ⟨g2, 0, none⟩ = false := by
      rcases ho3.2 with ⟨h1, -⟩ | ⟨g, cap, cur, h1, -, hg, -⟩
      · cases h1
      · obtain ⟨rfl, -⟩ : g2 = g ∧ c2 = cap := by simpa using h1
        exact Blk.frozen (T := 5) (cs := cur) hg 0
    have hsz := hc3.chg.size
    have hst : ∀ u, NetS w.heap.size w2.heap.size (w3.setCell ⟨g2, 0, none⟩ u) p 1 [(1, L)] ∧ Below w.heap.size w (w3.setCell ⟨g2, 0, none⟩ u) := fun u =>
      ⟨hn3.chg (Chg.setCell _ _ _ _) fun k hk => by subst hk; exact hfree, hB3.setCell (p := ⟨g2, 0, none⟩) (by have := HB1.out.size; show w.heap.size ≤ g2; omega) u⟩
    have HST := Lib.hid hst; clear hst hn3 hB3 ho3 hfree hat3 hn2 hat2 hc3 h9
    generalize hbyte : L.getD 0 0 = y0 at *
    have hy : y0 < 256 := by rw [← hbyte]; exact HZB.out 0 hn0
    clear hbyte
    go_wp2_with fail
    obtain ⟨w4, hw4⟩ : ∃ w4, w4 = w3.setCell ⟨g2, 0, none⟩ (.int .u8 (((y0 : Int) + 1) % 256)) := ⟨_, rfl⟩
    rw [← hw4]
    obtain ⟨hn4, hB4⟩ : NetS w.heap.size w2.heap.size w4 p 1 [(1, L)] ∧ Below w.heap.size w w4 := by rw [hw4]; exact HST.out _
    have hs4 : w2.heap.size ≤ w4.heap.size := by rw [hw4]; simpa using hsz
    clear hw4 e0 f0 HST hsz
    have HN4 := Lib.hid hn4; clear hn4
    have HB4 := Lib.hid hB4; clear hB4
    have HB5 := HB4
    refine (net.deliverS w.heap.size w2.heap.size p 1 _ 1 L w4 HN4.out (by omega) (by simp)).mono ?_
    rintro e w6 ⟨v, rfl, hrow, hn6, hc6⟩
    replace hn6 : NetS w.heap.size w2.heap.size w6 p 1 [] := hn6
    have HB6 := Lib.hid (HB5.out.trans (hc6.toBelow HB5.out.size)); clear hc6
    have HN6 := Lib.hid hn6; clear hn6
    obtain ⟨A6, c6, hv6, -, -, hat6⟩ := own_bytes hrow
    rw [HLEN.out] at hv6 hat6
    subst hv6
    have hcv := conv_any (P := Try.prog) Try.underlying23 Try.underlying5 Try.underlying9 (c := c6) L HLEN.out hat6
    have hcw := conv_any (P := Try.prog) Try.underlying23 Try.underlying5 Try.underlying9 (c := c) L HLEN.out (HAT.out.below HB6.out (Nat.le_refl _))
    clear hrow hat6
    go_wp2_with fail
    refine (net.deliver_no w.heap.size w2.heap.size p 1 _ 1 w6 HN6.out (by constructor <;> omega) (by simp)).mono ?_
    rintro e wx ⟨rfl, rfl⟩
    go_wp2_with fail
    refine (net.deliver_nil 1 wx).mono ?_
    rintro e w7 ⟨rfl, rfl⟩
    go_wp2_with fail
    refine (net.double_nil 1 w7).mono ?_
    rintro e w8 ⟨rfl, rfl⟩
    generalize strOf L = str at *
    go_wp2_with fail
    refine (net.waitingS w.heap.size w2.heap.size p 1 _ w8 HN6.out (by omega)).mono ?_
    rintro e w9 ⟨v, rfl, hrow, hb9⟩
    obtain ⟨A9, c9, rfl, -⟩ := own_at hrow
    have HB9 := Lib.hid (HB6.out.trans (hb9.mono HB6.out.size)); clear hb9 hrow hcv hcw
    simp only [List.length_nil]
    go_wp2_with fail
    refine (net.send_nil _ w9).mono ?_
    rintro e wa ⟨rfl, rfl⟩
    go_wp2_with fail
    refine (net.drop_nil 1 wa).mono ?_
    rintro e wb ⟨rfl, rfl⟩
    go_wp2_with fail
    refine (net.swap_nil 1 1 wb).mono ?_
    rintro e wc ⟨rfl, rfl⟩
    go_wp2_with fail
    refine (net.waiting_nil wc).mono ?_
    rintro e wd ⟨v, rfl, hrow, hbd⟩
    obtain ⟨Ad, cd, rfl, -⟩ := own_at hrow
    have HBD := Lib.hid (HB9.out.trans (hbd.mono HB9.out.size)); clear hbd hrow
    go_wp2_with fail
    refine (law23.awake wd).mono ?_
    rintro e we ⟨rfl, hbe⟩
    have HBE := Lib.hid (HBD.out.trans (hbe.mono HBD.out.size)); clear hbe
    go_wp2
    go_ret
    exact ⟨rfl, HBE.out⟩
  · obtain ⟨i0, hi, hz0, hz1, hz2⟩ := info_parts infoByte
    go_enter Try.func12, Try.ntmps12
    go_wp2_with fail
    clear hd0 hd1
    refine (net.newAll w.heap.size w (Nat.le_refl _)).mono ?_
    rintro e w1 ⟨p, rfl, hn1, hb1⟩
    have HB1 := Lib.hid hb1; clear hb1
    have HN1 := Lib.hid hn1; clear hn1
    have hm1 : (w1.alloc (.cells #[] 5)).ownsRow w1.heap.size 5 1 (.slice (some ⟨w1.heap.size, 0, none⟩) 0 0) 0 [] := World.ownsRow_made w1 #[] 0 (Nat.le_refl _) (by unfold maxLen; omega) (by simp)
    have HM1 := Lib.hid hm1; clear hm1
    go_wp2_with (at_builtin; refine wpList_app2 _ rfl (.tmp 29) (.tmp 30) 23 rfl w1.heap.size 5 i0 _ 1 1 Try.underlying23 hi hz0 hz1 hz2 rfl (by decide) _ 0 [] rfl HM1.out A n c (byteAt L) rfl (by rw [Nat.mul_one]; exact (HAT.out.below HB1.out (Nat.le_refl _)).alloc _) (fun j _ => byteAt_one L j) (by unfold maxLen; omega) (by omega) (by simp) ?_; intro v2 w2 hown2 hg2 hl2; rw [List.nil_append, byteAt_cells_n L n HLEN.out, Nat.zero_add] at hown2; have HO2 := Lib.hid hown2; have HB12 := Lib.hid (show Below w1.heap.size w1 w2 from ((Below.refl _ w1).alloc (Nat.le_refl _) _).grown hg2 (by simp) (fun g hg => by cases hg; exact Nat.le_refl _)); obtain ⟨g2, c2, rfl, -, -, hg2b, hg2l, -⟩ := own_row_pos hown2 hn0; clear hown2 hg2 hl2)
    have hat2 : At w2 (some ⟨g2, 0, none⟩) n (byteAt L) := own_bytes_at HO2.out
    have hn2 := (HN1.out w2.heap.size).below HB12.out
    refine (net.sendS w.heap.size w2.heap.size p 0 [] _ n c2 L w2 hn2 (by omega) (Nat.le_refl _) HLEN.out (by omega) hat2).mono ?_
    rintro e w3 ⟨he, hn3, hc3⟩
    obtain rfl : e = .returned (.int .i64 1) := he
    replace hn3 : NetS w.heap.size w2.heap.size w3 p 1 [(1, L)] := hn3
    have hB2 : Below w.heap.size w w2 := HB1.out.trans (HB12.out.mono HB1.out.size)
    have hB3 : Below w.heap.size w w3 := hB2.trans (hc3.toBelow hB2.size)
    have ho3 := hc3.own HO2.out (by decide) (by decide)
    have hfree : NetFree w2.heap.size w3 g2 := by
      rcases ho3.2 with ⟨h1, -⟩ | ⟨g, cap, cur, h1, -, hg, -⟩
      · cases h1
      · obtain ⟨rfl, -⟩ : g2 = g ∧ c2 = cap := by simpa using h1
        exact ⟨_, _, _, hg, by decide, by decide, fun _ => hg2l⟩
    obtain ⟨A9, c9, h9, -, -, hat3⟩ := own_bytes ho3
    obtain ⟨rfl, rfl⟩ : (some ⟨g2, 0, none⟩ : Option Addr) = A9 ∧ c2 = c9 := by simpa using h9
    have e0 : w3.cell? ⟨g2, 0, none⟩ = some (.int .u8 ((L.getD 0 0 : Nat) : Int)) := by
      obtain ⟨b, off, h1, -, h3⟩ := hat3 hn0
      obtain ⟨rfl, rfl⟩ : g2 = b ∧ 0 = off := by simpa using h1
      exact h3 0 hn0
    have f0 : w3.frozen? ⟨g2, 0, none⟩ = false := by
      rcases ho3.2 with ⟨h1, -⟩ | ⟨g, cap, cur, h1, -, hg, -⟩
      · cases h1
      · obtain ⟨rfl, -⟩ : g2 = g ∧ c2 = cap := by simpa using h1
        exact Blk.frozen (T := 5) (cs := cur) hg 0
    have hsz := hc3.chg.size
    have hst : ∀ u, NetS w.heap.size w2.heap.size (w3.setCell ⟨g2, 0, none⟩ u) p 1 [(1, L)] ∧ Below w.heap.size w (w3.setCell ⟨g2, 0, none⟩ u) := fun u =>
      ⟨hn3.chg (Chg.setCell _ _ _ _) fun k hk => by subst hk; exact hfree, hB3.setCell (p := ⟨g2, 0, none⟩) (by have := HB1.out.size; show w.heap.size ≤ g2; omega) u⟩
    have HST := Lib.hid hst; clear hst hn3 hB3 ho3 hfree hat3 hn2 hat2 hc3 h9
    generalize hbyte : L.getD 0 0 = y0 at *
    have hy : y0 < 256 := by rw [← hbyte]; exact HZB.out 0 hn0
    clear hbyte
    go_wp2_with fail
    obtain ⟨w4, hw4⟩ : ∃ w4, w4 = w3.setCell ⟨g2, 0, none⟩ (.int .u8 (((y0 : Int) + 1) % 256)) := ⟨_, rfl⟩
    rw [← hw4]
    obtain ⟨hn4, hB4⟩ : NetS w.heap.size w2.heap.size w4 p 1 [(1, L)] ∧ Below w.heap.size w w4 := by rw [hw4]; exact HST.out _
    have hs4 : w2.heap.size ≤ w4.heap.size := by rw [hw4]; simpa using hsz
    clear hw4 e0 f0 HST hsz
    have HN4 := Lib.hid hn4; clear hn4
    have HB4 := Lib.hid hB4; clear hB4
    refine (net.doubleS w.heap.size w2.heap.size p 1 _ 1 L w4 HN4.out (by omega) hs4 (by simp)).mono ?_
    rintro e w5 ⟨he, hn5', hc5⟩
    obtain rfl : e = .returned (.tuple #[.int .i64 2, .int .i64 0]) := he
    replace hn5' : NetS w.heap.size w2.heap.size w5 p 2 [(1, L), (2, L)] := hn5'
    have HB5 := Lib.hid (HB4.out.trans (hc5.toBelow HB4.out.size)); clear hc5
    have HN5 := Lib.hid hn5'; clear hn5'
    go_wp2_with fail
    refine (net.deliverS w.heap.size w2.heap.size p 2 _ 2 L w5 HN5.out (by omega) (by simp)).mono ?_
    rintro e w6 ⟨v, rfl, hrow, hn6, hc6⟩
    replace hn6 : NetS w.heap.size w2.heap.size w6 p 2 [(1, L)] := hn6
    have HB6 := Lib.hid (HB5.out.trans (hc6.toBelow HB5.out.size)); clear hc6
    have HN6 := Lib.hid hn6; clear hn6
    obtain ⟨A6, c6, hv6, -, -, hat6⟩ := own_bytes hrow
    rw [HLEN.out] at hv6 hat6
    subst hv6
    have hcv := conv_any (P := Try.prog) Try.underlying23 Try.underlying5 Try.underlying9 (c := c6) L HLEN.out hat6
    have hcw := conv_any (P := Try.prog) Try.underlying23 Try.underlying5 Try.underlying9 (c := c) L HLEN.out (HAT.out.below HB6.out (Nat.le_refl _))
    clear hrow hat6
    go_wp2_with fail
    refine (net.deliver_no w.heap.size w2.heap.size p 2 _ 2 w6 HN6.out (by constructor <;> omega) (by simp)).mono ?_
    rintro e wx ⟨rfl, rfl⟩
    go_wp2_with fail
    refine (net.deliver_nil 1 wx).mono ?_
    rintro e w7 ⟨rfl, rfl⟩
    go_wp2_with fail
    refine (net.double_nil 1 w7).mono ?_
    rintro e w8 ⟨rfl, rfl⟩
    generalize strOf L = str at *
    go_wp2_with fail
    refine (net.waitingS w.heap.size w2.heap.size p 2 _ w8 HN6.out (by omega)).mono ?_
    rintro e w9 ⟨v, rfl, hrow, hb9⟩
    obtain ⟨A9, c9, rfl, -⟩ := own_at hrow
    have HB9 := Lib.hid (HB6.out.trans (hb9.mono HB6.out.size)); clear hb9 hrow hcv hcw
    simp only [List.length_cons, List.length_nil, Nat.zero_add]
    go_wp2_with fail
    refine (net.send_nil _ w9).mono ?_
    rintro e wa ⟨rfl, rfl⟩
    go_wp2_with fail
    refine (net.drop_nil 1 wa).mono ?_
    rintro e wb ⟨rfl, rfl⟩
    go_wp2_with fail
    refine (net.swap_nil 1 1 wb).mono ?_
    rintro e wc ⟨rfl, rfl⟩
    go_wp2_with fail
    refine (net.waiting_nil wc).mono ?_
    rintro e wd ⟨v, rfl, hrow, hbd⟩
    obtain ⟨Ad, cd, rfl, -⟩ := own_at hrow
    have HBD := Lib.hid (HB9.out.trans (hbd.mono HB9.out.size)); clear hbd hrow
    go_wp2_with fail
    refine (law23.awake wd).mono ?_
    rintro e we ⟨rfl, hbe⟩
    have HBE := Lib.hid (HBD.out.trans (hbe.mono HBD.out.size)); clear hbe
    go_wp2
    go_ret
    exact ⟨rfl, HBE.out⟩
end Go.Proofs.Ytbbekgliaedigaa

/- commits: a record of an entry, a record of a floor: what the program writes (chapter 18). -/
import Derived.BigQuiet
import Derived.Test.YtkkpbnhagobhmaaCmB
import Derived.Test.YtkkpbnhagobhmaaWrT
import Derived.Test.YtkkpbnhagobhmaaWrL
import Derived.Test.YtkkpbnhagobhmaaPlanE
import Derived.Test.YtkkpbnhagobhmaaLmA
namespace Go.Proofs.Ytkkpbnhagobhmaa
open Go.RowKit
set_option maxRecDepth 20000
theorem cm.info_entry : (Try.prog.info? 42).map (·.size) = some 4 := by kernel_rfl
theorem cm.info_rec : (Try.prog.info? 37).map (·.size) = some 6 := by kernel_rfl
theorem cm.check_any (e : CEnt) (w : World) (h : e.fit) : Calls Try.prog 30 #[.agg e.cells] w fun en w' => en = .returned (.int .i64 (if e.ok = true then 0 else 1)) ∧ Below w.heap.size w w' := by
  have hp := fun wx => cm.place_any e wx
  have hm := fun wx => cm.may_any e.grp e.top e.part wx h.1 h.2
  have hok : e.ok = (cm.place e.grp e.top e.part && decide (0 ≤ e.off) && decide (e.off ≤ 4611686018427387904)) := rfl
  obtain ⟨ok, hk⟩ : ∃ b, b = e.ok := ⟨_, rfl⟩
  rw [← hk] at hok ⊢
  obtain ⟨b, hb⟩ : ∃ b, b = cm.place e.grp e.top e.part := ⟨_, rfl⟩
  rw [← hb] at hok hm
  clear hk hb h
  obtain ⟨R, hR⟩ : ∃ R : Int, R = if ok = true then 0 else 1 := ⟨_, rfl⟩
  rw [← hR]
  obtain ⟨g, t, p, o⟩ := e
  unfold CEnt.cells at hp ⊢
  obtain ⟨w1, hw1⟩ : ∃ w1, w1 = w.alloc (.cells #[.string g, .string t, .int .i64 p, .int .i64 o] 42) := ⟨_, rfl⟩
  have hk1 : Blk w1 w.heap.size 42 #[.string g, .string t, .int .i64 p, .int .i64 o] := by rw [hw1]; exact Blk.new _ _ _
  have hb1 : Below w.heap.size w w1 := by rw [hw1]; exact (Below.refl _ _).alloc (Nat.le_refl _) _
  have H := Lib.hid (And.intro hp (And.intro hm (And.intro hk1 hb1))); clear hp hm hk1 hb1
  go_enter Try.func30, Try.ntmps30
  go_upto_region 1 with fail
  rw [← hw1]
  clear hw1
  go_wp2_with (first
    | (show Go.wpList _ _ _ (⟨_, .load _ (.tmp 1), _, _, _, _⟩ :: _) _ _; refine wpList_load_row rfl 42 (.tmp 1) rfl w.heap.size rfl 42 #[.string g, .string t, .int .i64 p, .int .i64 o] (0, 0) _ H.out.2.2.1 Try.underlying42 rfl cm.info_entry ?_)
    | fail)
  refine (H.out.1 w1).mono ?_
  rintro en w2 ⟨rfl, h2⟩
  have hb2 : Below w.heap.size w w2 := H.out.2.2.2.trans (h2.mono H.out.2.2.2.size)
  have hk2 : Blk w2 w.heap.size 42 #[.string g, .string t, .int .i64 p, .int .i64 o] := (chg_of (P := fun _ => False) h2).blk H.out.2.2.1 fun q => q
  have H2 := Lib.hid (And.intro hb2 hk2); clear hb2 hk2 h2
  go_wp2_with fail
  refine (H.out.2.1 w2).mono ?_
  rintro en w3 ⟨rfl, h3⟩
  have hb3 : Below w.heap.size w w3 := H2.out.1.trans (h3.mono H2.out.1.size)
  have hk3 : Blk w3 w.heap.size 42 #[.string g, .string t, .int .i64 p, .int .i64 o] := (chg_of (P := fun _ => False) h3).blk H2.out.2 fun q => q
  have c3 := hk3.cell 3 (v := .int .i64 o) rfl
  have cl := hk3.lt
  have H3 := Lib.hid hb3; clear hb3 hk3 h3
  cases b with
  | false =>
    obtain rfl : ok = false := by rw [hok]; rfl
    clear hok
    have e0 : R = 1 := by rw [hR]; rfl
    clear hR
    have HR := Lib.hid e0; clear e0
    go_wp2
    go_ret
    exact ⟨by rw [HR.out]; rfl, H3.out⟩
  | true =>
    by_cases h1 : o < 0
    · obtain rfl : ok = false := by rw [hok, decide_eq_false (p := 0 ≤ o) (by omega)]; rfl
      clear hok
      have e0 : R = 1 := by rw [hR]; rfl
      clear hR
      have HR := Lib.hid e0; clear e0
      have d1 : decide (o < 0) = true := decide_eq_true h1
      go_wp2
      go_ret
      exact ⟨by rw [HR.out]; rfl, H3.out⟩
    · have d1 : decide (o < 0) = false := decide_eq_false h1
      by_cases h2 : 4611686018427387904 < o
      · obtain rfl : ok = false := by rw [hok, decide_eq_false (p := o ≤ 4611686018427387904) (by omega)]; simp
        clear hok
        have e0 : R = 1 := by rw [hR]; rfl
        clear hR
        have HR := Lib.hid e0; clear e0
        have d2 : decide (4611686018427387904 < o) = true := decide_eq_true h2
        go_wp2
        go_ret
        exact ⟨by rw [HR.out]; rfl, H3.out⟩
      · obtain rfl : ok = true := by rw [hok, decide_eq_true (p := 0 ≤ o) (by omega), decide_eq_true (p := o ≤ 4611686018427387904) (by omega)]; rfl
        clear hok
        have e0 : R = 0 := by rw [hR]; rfl
        clear hR
        have HR := Lib.hid e0; clear e0
        have d2 : decide (4611686018427387904 < o) = false := decide_eq_false h2
        go_wp2
        go_ret
        exact ⟨by rw [HR.out]; rfl, H3.out⟩
/-- A text, written. -/
def cm.text (s : ByteArray) : List Nat := num.put s.size ++ strNats s
theorem cm.text_len (s : ByteArray) : s.size + 1 ≤ (cm.text s).length ∧ (cm.text s).length ≤ s.size + 10 := by
  have := num.put_bd (s.size : Int)
  unfold cm.text
  rw [List.length_append, strNats_len]
  omega
theorem cm.wr_text {w3 w : World} {B p : Nat} {L : List Nat} (h : WrL w3 B p L w) (s : ByteArray) (hL : L.length + s.size ≤ 70368744177000) :
    Calls Try.prog 48 #[.pointer (some ⟨p, 0, none⟩), .string s] w fun e w' => e = .returned (.pointer (some ⟨p, 0, none⟩)) ∧ WrL w3 B p (L ++ cm.text s) w' := by
  obtain ⟨⟨v, q1⟩, q2, q3⟩ := h
  refine (wire.text_any B p v L false s w q1 (by omega)).mono ?_
  rintro e w' ⟨rfl, hd⟩
  refine ⟨rfl, ?_⟩
  unfold cm.text
  rw [← List.append_assoc]
  exact WrL.post q1 q2 q3 hd
/-- The bytes of a key. -/
def CEnt.key (e : CEnt) : List Nat := cm.text ⟨#[111]⟩ ++ cm.text e.grp ++ cm.text e.top ++ num.put e.part
set_option maxHeartbeats 4000000 in
theorem cm.key_any (e : CEnt) (w : World) (hg : e.grp.size ≤ 100) (ht : e.top.size ≤ 100) (hn1 : -9223372036854775808 ≤ e.part) (hn2 : e.part ≤ 9223372036854775807) : Calls Try.prog 45 #[.agg e.cells] w fun en w' => (∃ v, en = .returned v ∧ w'.ownsRow w.heap.size 5 1 v e.key.length (u8s e.key)) ∧ Below w.heap.size w w' := by
  obtain ⟨g, t, n, o⟩ := e
  unfold CEnt.cells
  obtain ⟨x0, hx0⟩ : ∃ x, x = cm.text ⟨#[111]⟩ := ⟨_, rfl⟩
  obtain ⟨x1, hx1⟩ : ∃ x, x = cm.text g := ⟨_, rfl⟩
  obtain ⟨x2, hx2⟩ : ∃ x, x = cm.text t := ⟨_, rfl⟩
  obtain ⟨x3, hx3⟩ : ∃ x, x = num.put n := ⟨_, rfl⟩
  obtain ⟨K, hK⟩ : ∃ K, K = CEnt.key ⟨g, t, n, o⟩ := ⟨_, rfl⟩
  rw [← hK]
  have hK' : K = [] ++ x0 ++ x1 ++ x2 ++ x3 := by rw [hK, hx0, hx1, hx2, hx3]; rfl
  clear hK
  simp only at hg ht hn1 hn2
  have l0 : x0.length ≤ 200 := by rw [hx0]; exact Nat.le_trans (cm.text_len ⟨#[111]⟩).2 (by decide)
  have l1 : x1.length ≤ 200 := by rw [hx1]; have := (cm.text_len g).2; omega
  have l2 : x2.length ≤ 200 := by rw [hx2]; have := (cm.text_len t).2; omega
  have l3 : x3.length ≤ 200 := by rw [hx3]; have := (num.put_bd n).2; omega
  have c0 : ∀ wB p wx L, WrL wB p p L wx → L.length ≤ 100000 → Calls Try.prog 48 #[.pointer (some ⟨p, 0, none⟩), .string ⟨#[111]⟩] wx fun e w' => e = .returned (.pointer (some ⟨p, 0, none⟩)) ∧ WrL wB p p (L ++ x0) w' := fun wB p wx L h hl => by
    rw [hx0]
    exact cm.wr_text h ⟨#[111]⟩ (Nat.le_trans (Nat.add_le_add hl (show (⟨#[111]⟩ : ByteArray).size ≤ 1 by decide)) (by omega))
  have c1 : ∀ wB p wx L, WrL wB p p L wx → L.length ≤ 100000 → Calls Try.prog 48 #[.pointer (some ⟨p, 0, none⟩), .string g] wx fun e w' => e = .returned (.pointer (some ⟨p, 0, none⟩)) ∧ WrL wB p p (L ++ x1) w' := fun wB p wx L h hl => by
    rw [hx1]
    exact cm.wr_text h g (by omega)
  have c2 : ∀ wB p wx L, WrL wB p p L wx → L.length ≤ 100000 → Calls Try.prog 48 #[.pointer (some ⟨p, 0, none⟩), .string t] wx fun e w' => e = .returned (.pointer (some ⟨p, 0, none⟩)) ∧ WrL wB p p (L ++ x2) w' := fun wB p wx L h hl => by
    rw [hx2]
    exact cm.wr_text h t (by omega)
  have c3 : ∀ wB p wx L, WrL wB p p L wx → L.length ≤ 100000 → Calls Try.prog 65 #[.pointer (some ⟨p, 0, none⟩), .int .i64 n] wx fun e w' => e = .returned (.pointer (some ⟨p, 0, none⟩)) ∧ WrL wB p p (L ++ x3) w' := fun wB p wx L h hl => by
    rw [hx3]
    exact h.num (by omega) n (by omega) (by omega)
  have HC := Lib.hid (And.intro c0 (And.intro c1 (And.intro c2 c3))); clear c0 c1 c2 c3 hx0 hx1 hx2 hx3 hg ht hn1 hn2
  have HLEN := Lib.hid (And.intro l0 (And.intro l1 (And.intro l2 (And.intro l3 hK')))); clear l0 l1 l2 l3 hK'
  obtain ⟨bx, hbx⟩ : ∃ b, b = w.heap.size := ⟨_, rfl⟩
  obtain ⟨w3, hw3⟩ : ∃ w1, w1 = w.alloc (.cells #[.string g, .string t, .int .i64 n, .int .i64 o] 42) := ⟨_, rfl⟩
  have hk3 : Blk w3 bx 42 #[.string g, .string t, .int .i64 n, .int .i64 o] := by rw [hw3, hbx]; exact Blk.new _ _ _
  have hb3 : Below w.heap.size w w3 := by rw [hw3]; exact (Below.refl _ _).alloc (Nat.le_refl _) _
  have HB3 := Lib.hid (And.intro hk3 (And.intro hb3 hbx)); clear hk3 hb3
  go_enter Try.func45, Try.ntmps45
  go_upto_region 1 with fail
  rw [← hw3, ← hbx]
  clear hw3 hbx
  go_upto_region 2 with fail
  obtain ⟨p, hp⟩ : ∃ p, p = w3.heap.size := ⟨_, rfl⟩
  obtain ⟨wB, hwB⟩ : ∃ wB, wB = w3.alloc (.cells #[.slice none 0 0, .bool false] 96) := ⟨_, rfl⟩
  rw [← hwB, ← hp]
  have hwr : WrL wB p p [] wB := by rw [hwB, hp]; exact WrL.start _ rfl
  have hc3B : Chg w3 wB (fun _ => False) := by rw [hwB]; exact Chg.alloc _ _ _
  have hkB := hc3B.blk HB3.out.1 fun q => q
  have hbxp : bx < p := by rw [hp]; exact HB3.out.1.lt
  have hbB : Below w.heap.size w wB := HB3.out.2.1.trans (hc3B.below HB3.out.2.1.size fun _ q => q.elim)
  have hwp : w.heap.size ≤ p := by rw [hp]; exact HB3.out.2.1.size
  have hW0 : WrL wB p p [] wB.drew := hwr.keep (bdrew (Below.refl _ _) 1)
  have HW := Lib.hid (And.intro hkB (And.intro hbxp (And.intro hbB hwp))); clear hkB hbxp hbB hwp hc3B hwB hp hwr
  have H0 := Lib.hid hW0; clear hW0
  have z0 : ∀ x : Later wB (fun k => p ≤ k), x.1.cell? ⟨bx, 0, none⟩ = some (.string g) := fun x => (x.2.blk HW.out.1 (Nat.not_le.2 HW.out.2.1)).cell 0 rfl
  have z1 : ∀ x : Later wB (fun k => p ≤ k), x.1.cell? ⟨bx, 1, none⟩ = some (.string t) := fun x => (x.2.blk HW.out.1 (Nat.not_le.2 HW.out.2.1)).cell 1 rfl
  have z2 : ∀ x : Later wB (fun k => p ≤ k), x.1.cell? ⟨bx, 2, none⟩ = some (.int .i64 n) := fun x => (x.2.blk HW.out.1 (Nat.not_le.2 HW.out.2.1)).cell 2 rfl
  have hS0 : later wB (fun k => p ≤ k) wB.drew := later_of ((Chg.refl _ _).drew)
  refine wp_plan (S := fun w0 => ∃ x : Later wB (fun k => p ≤ k), w0 = x.1) (by kernel_rfl) hS0 ?_
  intro hS' K5 hK5
  have HS := Lib.hid hS'; clear hS' hS0
  refine plan_group [false, true, true, false, true, true, false, true, true] [1, 2, 4, 5, 7, 8] 10 (by dsimp only [sel]) (by rfl) rfl (by kernel_rfl) (by kernel_rfl) HS.out ?_
  (repeat go_big_quiet_step (fail)); refine wpQuiet_nil ?_
  clear z0 z1 z2
  refine plan_one [true] 0 9 (by dsimp only [sel]) (by rfl) rfl (by kernel_rfl) ?_; intro K0 hK0
  go_wp2_with (go_at_call 48; refine (HC.out.1 wB p _ _ H0.out (by simp only [List.length_nil]; omega)).mono ?_; rintro e v0 ⟨rfl, h1⟩; have H1w := Lib.hid h1; clear h1)
  refine ⟨by first | exact later_of H1w.out.2.1 | exact fun _ => later_of H1w.out.2.1, ?_⟩
  refine plan_one [false, false, false, true] 3 8 (by dsimp only [sel]) (by rfl) rfl (by kernel_rfl) ?_; intro K1 hK1
  go_wp2_with (go_at_call 48; refine (HC.out.2.1 wB p _ _ H1w.out (by have := HLEN.out; simp only [List.length_append, List.length_nil]; omega)).mono ?_; rintro e v1 ⟨rfl, h1⟩; have H2w := Lib.hid h1; clear h1)
  refine ⟨by first | exact later_of H2w.out.2.1 | exact fun _ => later_of H2w.out.2.1, ?_⟩
  refine plan_one [false, false, false, false, false, false, true] 6 7 (by dsimp only [sel]) (by rfl) rfl (by kernel_rfl) ?_; intro K2 hK2
  go_wp2_with (go_at_call 48; refine (HC.out.2.2.1 wB p _ _ H2w.out (by have := HLEN.out; simp only [List.length_append, List.length_nil]; omega)).mono ?_; rintro e v2 ⟨rfl, h1⟩; have H3w := Lib.hid h1; clear h1)
  refine ⟨by first | exact later_of H3w.out.2.1 | exact fun _ => later_of H3w.out.2.1, ?_⟩
  refine plan_one [false, false, false, false, false, false, false, false, false, true] 9 6 (by dsimp only [sel]) (by rfl) rfl (by kernel_rfl) ?_; intro K3 hK3
  go_wp2_with (go_at_call 65; refine (HC.out.2.2.2 wB p _ _ H3w.out (by have := HLEN.out; simp only [List.length_append, List.length_nil]; omega)).mono ?_; rintro e v3 ⟨rfl, h1⟩; have H4w := Lib.hid h1; clear h1)
  refine ⟨by first | exact later_of H4w.out.2.1 | exact fun _ => later_of H4w.out.2.1, ?_⟩
  have hdone := WrL.done H4w.out (by have := HLEN.out; simp only [List.length_append, List.length_nil]; omega)
  rw [← HLEN.out.2.2.2.2] at hdone
  have HD := Lib.hid hdone; clear hdone
  refine plan_one [false, false, false, false, false, false, false, false, false, false, true] 10 5 (by dsimp only [sel]) (by rfl) rfl (by kernel_rfl) ?_; intro K4 hK4
  go_wp2_with (go_at_call 49; refine HD.out.mono ?_; rintro e v4 ⟨⟨uu, rfl, h1⟩, h2⟩; have H5 := Lib.hid (And.intro h1 h2); clear h1 h2)
  have hl5 : later wB (fun k => p ≤ k) v4 := later_of (H4w.out.2.1.trans (chg_of (P := fun _ => False) H5.out.2) fun _ _ q => q.elim)
  refine ⟨by first | exact hl5 | exact fun _ => hl5, ?_⟩
  refine plan_group [false, false, false, false, false, false, false, false, false, false, false, true, true, true, true, true] [11, 12, 13, 14, 15] 0 (by dsimp only [sel]) (by rfl) rfl (by kernel_rfl) (by kernel_rfl) hl5 ?_
  clear hl5
  (repeat go_big_quiet_step (fail)); refine wpQuiet_nil ?_
  refine wp_plan_end (by kernel_rfl) ?_
  refine hK5 _ _ ?_
  clear HS
  go_wp2
  go_ret
  have hfin : Below w.heap.size w v4 := by
    have a1 : Chg w v3 (fun k => p ≤ k) := (chg_of (P := fun k => p ≤ k) HW.out.2.2.1).trans H4w.out.2.1 fun _ _ q => q
    exact (a1.below (Nat.le_refl _) fun k q => Nat.le_trans HW.out.2.2.2 q).trans (H5.out.2.mono (Nat.le_trans (by exact HW.out.2.2.1.size) H4w.out.2.1.size))
  exact ⟨⟨uu, rfl, ownsRow_base H5.out.1 (Nat.le_trans HW.out.2.2.1.size H4w.out.2.1.size)⟩, hfin⟩
end Go.Proofs.Ytkkpbnhagobhmaa

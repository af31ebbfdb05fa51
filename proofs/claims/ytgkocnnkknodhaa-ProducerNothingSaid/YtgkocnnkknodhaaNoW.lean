/- The walk of the law ProducerNothing. -/
import Derived.Test.YtgkocnnkknodhaaPlanE
import Derived.Test.YtgkocnnkknodhaaPrN
import Derived.Test.YtgkocnnkknodhaaPrL
import Derived.Test.YtgkocnnkknodhaaConv
namespace Go.Proofs.Ytgkocnnkknodhaa
open Go.RowKit

theorem at_nought (w : World) (T : TypeId) : At (w.alloc (.cells #[.int .u8 0] T)) (some ⟨w.heap.size, 0, none⟩) 1 (byteAt [0]) :=
  (At.one w (.int .u8 0) T).congr fun j hj => by
    obtain rfl : j = 0 := by omega
    rfl

set_option maxRecDepth 20000 in
set_option maxHeartbeats 4000000 in
theorem prod.lawNothing (id seq : Int) (w : World) (hid : intOk id) :
    Calls Try.prog 6 #[.int .i64 id, .int .i64 seq] w fun e w' => e = .returned (.bool true) ∧ Below w.heap.size w w' := by
  obtain ⟨E, AD, hcase, hx, hadd⟩ : ∃ E AD : Int, ((id < 1 ∧ E = 0 ∧ AD = 0) ∨ (1 ≤ id ∧ seq = 0 ∧ E = 0 ∧ AD = 10) ∨ (1 ≤ id ∧ seq ≠ 0 ∧ E = 10 ∧ AD = 10)) ∧ prod.chk none id 0 seq ((1 : Nat) : Int) = (0, false, E) ∧
      ∀ (A : Option Addr) (c : Nat) (wx : World), Calls Try.prog 32 #[.pointer none, .agg #[.int .i64 0, .int .i64 0, .int .i64 id, .int .i64 0, .int .i64 seq, .slice A 1 c]] wx fun e w' => e = .returned (.int .i64 AD) ∧ Below wx.heap.size wx w' := by
    have hb : ∀ (A : Option Addr) (c : Nat) (wx : World), 1 ≤ id → Calls Try.prog 32 #[.pointer none, .agg #[.int .i64 0, .int .i64 0, .int .i64 id, .int .i64 0, .int .i64 seq, .slice A 1 c]] wx fun e w' => e = .returned (.int .i64 (prod.ans false none id 0 seq (1 : Nat))) ∧ Below wx.heap.size wx w' :=
      fun A c wx h => prod.add_no none 0 (fun _ => none) (fun _ => False) 0 0 id 0 seq A 1 c wx ⟨rfl, fun _ => rfl⟩ hid (by omega) (.inr (.inr (.inl rfl)))
    rcases (show id < 1 ∨ (1 ≤ id ∧ seq = 0) ∨ (1 ≤ id ∧ seq ≠ 0) by omega) with h | ⟨h, h'⟩ | ⟨h, h'⟩
    · exact ⟨0, 0, .inl ⟨h, rfl, rfl⟩, by unfold prod.chk; rw [if_pos (by omega)], fun A c wx => prod.add_low none 0 0 id 0 seq A 1 c wx (by omega)⟩
    · refine ⟨0, 10, .inr (.inl ⟨h, h', rfl, rfl⟩), by unfold prod.chk; rw [if_neg (by omega)]; exact if_pos h', fun A c wx => ?_⟩
      have e : prod.ans false none id 0 seq (1 : Nat) = 10 := by
        have hx : prod.chk none id 0 seq ((1 : Nat) : Int) = (0, false, 0) := by unfold prod.chk; rw [if_neg (by omega)]; exact if_pos h'
        unfold prod.ans
        rw [if_neg (show ¬ id ≤ 0 by omega), hx]
        simp
      rw [← e]
      exact hb A c wx h
    · refine ⟨10, 10, .inr (.inr ⟨h, h', rfl, rfl⟩), by unfold prod.chk; rw [if_neg (by omega)]; exact if_neg h', fun A c wx => ?_⟩
      have e : prod.ans false none id 0 seq (1 : Nat) = 10 := by
        have hx : prod.chk none id 0 seq ((1 : Nat) : Int) = (0, false, 10) := by unfold prod.chk; rw [if_neg (by omega)]; exact if_neg h'
        unfold prod.ans
        rw [if_neg (show ¬ id ≤ 0 by omega), hx]
        simp
      rw [← e]
      exact hb A c wx h
  have HX := Lib.hid hx; clear hx
  have HADD0 := Lib.hid hadd; clear hadd
  obtain ⟨cs1, hmk1⟩ : ∃ cs : Array Value, ∀ wx : World, (Instr.makeSlice 44 (.int .i64 1) (.int .i64 1)).run Try.prog wx = .ok (.slice (some ⟨wx.heap.size, 0, none⟩) 1 1) (wx.alloc (.cells cs 81)) := make_recs 1 (by omega)
  have HID := Lib.hid hid; clear hid
  replace hcase : (id < 1 ∧ E = 0 ∧ AD = 0) ∨ (1 ≤ id ∧ (seq != 0) = false ∧ E = 0 ∧ AD = 10) ∨ (1 ≤ id ∧ (seq != 0) = true ∧ E = 10 ∧ AD = 10) := by simpa using hcase
  rcases hcase with ⟨h, rfl, rfl⟩ | ⟨h, hd, rfl, rfl⟩ | ⟨h, hd, rfl, rfl⟩
  all_goals
    go_enter Try.func6, Try.ntmps6
    go_wp2_with fail
    refine (prod.tnext_any none 0 (fun _ => none) (fun _ => False) id w ⟨rfl, fun _ => rfl⟩ HID.out).mono ?_
    unfold prod.nx
    rintro e w1 ⟨rfl, hb1⟩
    have HB1 := Lib.hid hb1; clear hb1
    go_wp2_with fail
    refine (prod.check_all none 0 (fun _ => none) (fun _ => False) 0 0 id 0 _ _ 1 1 _ ⟨rfl, fun _ => rfl⟩ HID.out).mono ?_
    rw [HX.out]
    unfold prod.tup
    rintro e w3 ⟨rfl, hb3⟩
    dsimp only
    have HADD := Lib.hid (fun wx => HADD0.out (some ⟨w1.heap.size, 0, none⟩) 1 wx); clear HADD0
    have hbn : Blk ((w1.alloc (.cells cs1 81)).alloc (.cells #[.int .i64 0, .int .i64 0, .int .i64 id, .int .i64 0, .int .i64 seq, .slice (some ⟨w1.heap.size, 0, none⟩) 1 1] 46)) (w1.heap.size + 1) 46 #[.int .i64 0, .int .i64 0, .int .i64 id, .int .i64 0, .int .i64 seq, .slice (some ⟨w1.heap.size, 0, none⟩) 1 1] := by
      have := Blk.new (w1.alloc (.cells cs1 81)) 46 #[.int .i64 0, .int .i64 0, .int .i64 id, .int .i64 0, .int .i64 seq, .slice (some ⟨w1.heap.size, 0, none⟩) 1 1]
      simpa using this
    have hbx := (chg_of (P := fun _ => False) hb3).blk hbn (fun h => h)
    clear hbn
    have d0 : w3.cell? ⟨w1.heap.size + 1, 0, none⟩ = some (.int .i64 0) := hbx.cell 0 rfl
    have d1 : w3.cell? ⟨w1.heap.size + 1, 1, none⟩ = some (.int .i64 0) := hbx.cell 1 rfl
    have d2 : w3.cell? ⟨w1.heap.size + 1, 2, none⟩ = some (.int .i64 id) := hbx.cell 2 rfl
    have d3 : w3.cell? ⟨w1.heap.size + 1, 3, none⟩ = some (.int .i64 0) := hbx.cell 3 rfl
    have d4 : w3.cell? ⟨w1.heap.size + 1, 4, none⟩ = some (.int .i64 seq) := hbx.cell 4 rfl
    have d5 : w3.cell? ⟨w1.heap.size + 1, 5, none⟩ = some (.slice (some ⟨w1.heap.size, 0, none⟩) 1 1) := hbx.cell 5 rfl
    have HB3 := Lib.hid (HB1.out.trans (Below.mono ((((Below.refl _ w1).alloc (Nat.le_refl _) (.cells cs1 81)).alloc (by simp) _).trans (hb3.mono (by simp; omega))) HB1.out.size))
    clear hbx hb3
    go_wp2_with fail
    have hS0 : later w3 (fun _ => False) w3.drew := later_of ((Chg.refl _ _).drew)
    refine wp_plan (S := fun w0 => ∃ x : Later w3 (fun _ => False), w0 = x.1) (by kernel_rfl) hS0 ?_
    intro hS K hK
    have HS := Lib.hid hS; clear hS hS0
    refine plan_group [true, true, true, true, true, true, true, true, true, true, true, true, true, false, false, true] [0, 1, 2, 3, 4, 5, 6, 7, 8, 9, 10, 11, 12, 15] 31 (by dsimp only [sel]) (by rfl) rfl (by kernel_rfl) (by kernel_rfl) HS.out ?_
    (repeat go_big_quiet_step (fail)); refine wpQuiet_nil ?_
    refine plan_one [false, false, false, false, false, false, false, false, false, false, false, false, false, true] 13 30 (by dsimp only [sel]) (by rfl) rfl (by kernel_rfl) ?_; intro K1 hK1; go_wp2_with fail
    refine ⟨HS.out, ?_⟩
    refine plan_one [false, false, false, false, false, false, false, false, false, false, false, false, false, false, true] 14 29 (by dsimp only [sel]) (by rfl) rfl (by kernel_rfl) ?_; intro K1 hK1; go_wp2_with fail
    refine (HADD.out _).mono ?_
    rintro e w4 ⟨rfl, hb4⟩
    have HB4 := Lib.hid (show Below w3.heap.size w3 w4 from (bdrew (Below.refl _ w3) 1).trans hb4); clear hb4
    go_wp2_with fail
    refine ⟨later_of (chg_of HB4.out), ?_⟩
    have HS4 := Lib.hid (later_of (chg_of (P := fun _ => False) HB4.out))
    refine plan_group [false, false, false, false, false, false, false, false, false, false, false, false, false, false, false, false, true, true, true, true] [16, 17, 18, 19] 25 (by dsimp only [sel]) (by rfl) rfl (by kernel_rfl) (by kernel_rfl) HS4.out ?_
    (repeat go_big_quiet_step (fail)); refine wpQuiet_nil ?_
    refine plan_one [false, false, false, false, false, false, false, false, false, false, false, false, false, false, false, false, false, false, false, false, true] 20 24 (by dsimp only [sel]) (by rfl) rfl (by kernel_rfl) ?_; intro K1 hK1; go_wp2_with fail
    refine (prod.known_any none 0 (fun _ => none) (fun _ => False) w4 ⟨rfl, fun _ => rfl⟩ (by omega)).mono ?_
    rintro e w5 ⟨⟨v5, ks, rfl, -, -, -, hrow⟩, hb5⟩
    obtain ⟨A5, c5, hv5, -, -⟩ := own_at hrow
    subst hv5
    clear hrow
    have HB5 := Lib.hid (HB4.out.trans (hb5.mono HB4.out.size)); clear hb5
    go_wp2_with fail
    refine ⟨later_of (chg_of HB5.out), ?_⟩
    have HS5 := Lib.hid (later_of (chg_of (P := fun _ => False) HB5.out))
    refine plan_group [false, false, false, false, false, false, false, false, false, false, false, false, false, false, false, false, false, false, false, false, false, true, true, true, true, true] [21, 22, 23, 24, 25] 19 (by dsimp only [sel]) (by rfl) rfl (by kernel_rfl) (by kernel_rfl) HS5.out ?_
    (repeat go_big_quiet_step (fail)); refine wpQuiet_nil ?_
    refine plan_one [false, false, false, false, false, false, false, false, false, false, false, false, false, false, false, false, false, false, false, false, false, false, false, false, false, false, true] 26 18 (by dsimp only [sel]) (by rfl) rfl (by kernel_rfl) ?_; intro K1 hK1; go_wp2_with fail
    refine (prod.copy_nil w5).mono ?_
    rintro e w' ⟨rfl, rfl⟩
    go_wp2_with fail
    refine ⟨HS5.out, ?_⟩
    refine plan_group [false, false, false, false, false, false, false, false, false, false, false, false, false, false, false, false, false, false, false, false, false, false, false, false, false, false, false, true, true, true, true] [27, 28, 29, 30] 14 (by dsimp only [sel]) (by rfl) rfl (by kernel_rfl) (by kernel_rfl) HS5.out ?_
    (repeat go_big_quiet_step (fail)); refine wpQuiet_nil ?_
    refine plan_one [false, false, false, false, false, false, false, false, false, false, false, false, false, false, false, false, false, false, false, false, false, false, false, false, false, false, false, false, false, false, false, true] 31 13 (by dsimp only [sel]) (by rfl) rfl (by kernel_rfl) ?_; intro K1 hK1; go_wp2_with fail
    refine (prod.same_nil _).mono ?_
    rintro e w6 ⟨rfl, hb6⟩
    have HB6 := Lib.hid (HB5.out.trans (hb6.mono HB5.out.size)); clear hb6
    go_wp2_with fail
    refine ⟨later_of (chg_of HB6.out), ?_⟩
    have HS6 := Lib.hid (later_of (chg_of (P := fun _ => False) HB6.out))
    refine plan_group [false, false, false, false, false, false, false, false, false, false, false, false, false, false, false, false, false, false, false, false, false, false, false, false, false, false, false, false, false, false, false, false, true, true, true] [32, 33, 34] 10 (by dsimp only [sel]) (by rfl) rfl (by kernel_rfl) (by kernel_rfl) HS6.out ?_
    (repeat go_big_quiet_step (fail)); refine wpQuiet_nil ?_
    refine plan_two [false, false, false, false, false, false, false, false, false, false, false, false, false, false, false, false, false, false, false, false, false, false, false, false, false, false, false, false, false, false, false, false, false, false, false, true] [false, false, false, false, false, false, false, false, false, false, false, false, false, false, false, false, false, false, false, false, false, false, false, false, false, false, false, false, false, false, false, false, false, false, false, false, false, true] 35 37 9 (by dsimp only [sel]) (by dsimp only [sel]) (by rfl) (by rfl) rfl (by kernel_rfl) ?_ ?_
    · intro K1 hK1; go_wp2_with fail
      refine (prod.encode_nil _).mono ?_
      rintro e w7 ⟨⟨AE, cE, rfl, hatE⟩, hbE⟩
      have hcE : ∀ x : Later w7 (fun _ => False), (convert 22 9 (.slice AE 1 cE)).run Try.prog x.1 = .ok (.string (strOf [0])) x.1 := fun x => conv_any (P := Try.prog) (c := cE) Try.underlying22 Try.underlying5 Try.underlying9 [0] rfl (hatE.below (x.2.below (Nat.le_refl _) fun _ q => q.elim) (Nat.le_refl _))
      have hcE0 : (convert 22 9 (.slice AE 1 cE)).run Try.prog w7 = .ok (.string (strOf [0])) w7 := conv_any (P := Try.prog) (c := cE) Try.underlying22 Try.underlying5 Try.underlying9 [0] rfl hatE
      clear hatE
      have HB7 := Lib.hid (show Below w6.heap.size w6 w7 from hbE); clear hbE hcE0
      go_wp2_with fail
      refine ⟨later_of (chg_of (HB6.out.trans (HB7.out.mono HB6.out.size))), ?_⟩
      refine plan_sub (S' := fun w0 => ∃ x : Later w7 (fun _ => False), w0 = x.1) (later_sub (chg_of (HB6.out.trans (HB7.out.mono HB6.out.size)))) _ _ _ _ ?_
      have HS7 := Lib.hid (show ∃ x : Later w7 (fun _ => False), w7 = x.1 from ⟨⟨w7, Chg.refl _ _⟩, rfl⟩)
      refine plan_group [false, false, false, false, false, false, false, false, false, false, false, false, false, false, false, false, false, false, false, false, false, false, false, false, false, false, false, false, false, false, false, false, false, false, false, false, true] [36] 8 (by dsimp only [sel]) (by rfl) rfl (by kernel_rfl) (by kernel_rfl) HS7.out ?_
      (repeat go_big_quiet_step (fail)); refine wpQuiet_nil ?_
      clear hcE
      refine plan_one [false, false, false, false, false, false, false, false, false, false, false, false, false, false, false, false, false, false, false, false, false, false, false, false, false, false, false, false, false, false, false, false, false, false, false, false, false, true] 37 7 (by dsimp only [sel]) (by rfl) rfl (by kernel_rfl) ?_; intro K1 hK1; go_wp2_with fail
      obtain ⟨w8, hw8⟩ : ∃ w8, w8 = w7.alloc (.cells #[.int .u8 0] 5) := ⟨_, rfl⟩
      rw [← hw8]
      have hat8 : At w8 (some ⟨w7.heap.size, 0, none⟩) 1 (byteAt [0]) := by rw [hw8]; exact at_nought w7 _
      have hb8 : Below w7.heap.size w7 w8 := by rw [hw8]; exact (Below.refl _ w7).alloc (Nat.le_refl _) _
      clear hw8
      have hc8 : (convert 22 9 (.slice (some ⟨w7.heap.size, 0, none⟩) 1 1)).run Try.prog w8 = .ok (.string (strOf [0])) w8 := conv_any (P := Try.prog) (c := 1) Try.underlying22 Try.underlying5 Try.underlying9 [0] rfl hat8
      clear hat8
      have HB8 := Lib.hid (HB7.out.trans (hb8.mono HB7.out.size))
      have HB78 := Lib.hid hb8
      have HS8 := Lib.hid (show ∃ x : Later w7 (fun _ => False), w8 = x.1 from later_of (chg_of hb8)); clear hb8
      refine ⟨HS8.out, ?_⟩
      refine plan_one [false, false, false, false, false, false, false, false, false, false, false, false, false, false, false, false, false, false, false, false, false, false, false, false, false, false, false, false, false, false, false, false, false, false, false, false, false, false, true] 38 6 (by dsimp only [sel]) (by rfl) rfl (by kernel_rfl) ?_; intro K1 hK1; go_wp2_with fail
      refine ⟨HS8.out, ?_⟩
      refine plan_group [false, false, false, false, false, false, false, false, false, false, false, false, false, false, false, false, false, false, false, false, false, false, false, false, false, false, false, false, false, false, false, false, false, false, false, false, false, false, false, true, true, true] [39, 40, 41] 3 (by dsimp only [sel]) (by rfl) rfl (by kernel_rfl) (by kernel_rfl) HS8.out ?_
      (repeat go_big_quiet_step (fail)); refine wpQuiet_nil ?_
      refine plan_one [false, false, false, false, false, false, false, false, false, false, false, false, false, false, false, false, false, false, false, false, false, false, false, false, false, false, false, false, false, false, false, false, false, false, false, false, false, false, false, false, false, false, true] 42 2 (by dsimp only [sel]) (by rfl) rfl (by kernel_rfl) ?_; intro K1 hK1; go_wp2_with fail
      refine (prod.awake_any _).mono ?_
      rintro e w9 ⟨rfl, hb9⟩
      have HB9 := Lib.hid (HB8.out.trans (hb9.mono HB8.out.size))
      go_wp2_with fail
      refine ⟨later_of (chg_of (HB78.out.trans (hb9.mono HB78.out.size))), ?_⟩
      have HS9 := Lib.hid (show ∃ x : Later w7 (fun _ => False), w9 = x.1 from later_of (chg_of (HB78.out.trans (hb9.mono HB78.out.size))))
      refine plan_group [false, false, false, false, false, false, false, false, false, false, false, false, false, false, false, false, false, false, false, false, false, false, false, false, false, false, false, false, false, false, false, false, false, false, false, false, false, false, false, false, false, false, false, true, true] [43, 44] 0 (by dsimp only [sel]) (by rfl) rfl (by kernel_rfl) (by kernel_rfl) HS9.out ?_
      (repeat go_big_quiet_step (fail)); refine wpQuiet_nil ?_
      refine wp_plan_end (by kernel_rfl) ?_
      go_wp2
      go_ret
      exact ⟨rfl, HB3.out.trans ((HB6.out.trans (HB9.out.mono HB6.out.size)).mono HB3.out.size)⟩
    · intro K1 hK1; go_wp2_with fail
      obtain ⟨w7, hw7⟩ : ∃ w7, w7 = w6.alloc (.cells #[.int .u8 0] 5) := ⟨_, rfl⟩
      rw [← hw7]
      have hat7 : At w7 (some ⟨w6.heap.size, 0, none⟩) 1 (byteAt [0]) := by rw [hw7]; exact at_nought w6 _
      have hb7 : Below w6.heap.size w6 w7 := by rw [hw7]; exact (Below.refl _ w6).alloc (Nat.le_refl _) _
      clear hw7
      have hcE : ∀ x : Later w7 (fun _ => False), (convert 22 9 (.slice (some ⟨w6.heap.size, 0, none⟩) 1 1)).run Try.prog x.1 = .ok (.string (strOf [0])) x.1 := fun x => conv_any (P := Try.prog) (c := 1) Try.underlying22 Try.underlying5 Try.underlying9 [0] rfl (hat7.below (x.2.below (Nat.le_refl _) fun _ q => q.elim) (Nat.le_refl _))
      clear hat7
      have HB7 := Lib.hid hb7; clear hb7
      refine ⟨later_of (chg_of (HB6.out.trans (HB7.out.mono HB6.out.size))), ?_⟩
      refine plan_sub (S' := fun w0 => ∃ x : Later w7 (fun _ => False), w0 = x.1) (later_sub (chg_of (HB6.out.trans (HB7.out.mono HB6.out.size)))) _ _ _ _ ?_
      have HS7 := Lib.hid (show ∃ x : Later w7 (fun _ => False), w7 = x.1 from ⟨⟨w7, Chg.refl _ _⟩, rfl⟩)
      refine plan_group [false, false, false, false, false, false, false, false, false, false, false, false, false, false, false, false, false, false, false, false, false, false, false, false, false, false, false, false, false, false, false, false, false, false, false, false, false, false, true] [38] 8 (by dsimp only [sel]) (by rfl) rfl (by kernel_rfl) (by kernel_rfl) HS7.out ?_
      (repeat go_big_quiet_step (fail)); refine wpQuiet_nil ?_
      clear hcE
      refine plan_one [false, false, false, false, false, false, false, false, false, false, false, false, false, false, false, false, false, false, false, false, false, false, false, false, false, false, false, false, false, false, false, false, false, false, false, true] 35 7 (by dsimp only [sel]) (by rfl) rfl (by kernel_rfl) ?_; intro K1 hK1; go_wp2_with fail
      refine (prod.encode_nil _).mono ?_
      rintro e w8 ⟨⟨AE, cE, rfl, hatE⟩, hbE⟩
      have hcEx : ∀ x : Later w8 (fun _ => False), (convert 22 9 (.slice AE 1 cE)).run Try.prog x.1 = .ok (.string (strOf [0])) x.1 := fun x => conv_any (P := Try.prog) (c := cE) Try.underlying22 Try.underlying5 Try.underlying9 [0] rfl (hatE.below (x.2.below (Nat.le_refl _) fun _ q => q.elim) (Nat.le_refl _))
      have hcE0 : (convert 22 9 (.slice AE 1 cE)).run Try.prog w8 = .ok (.string (strOf [0])) w8 := conv_any (P := Try.prog) (c := cE) Try.underlying22 Try.underlying5 Try.underlying9 [0] rfl hatE
      clear hatE
      clear hcEx
      have HB78 := Lib.hid (show Below w7.heap.size w7 w8 from hbE)
      have HB8 := Lib.hid (HB7.out.trans (hbE.mono HB7.out.size))
      have HS8 := Lib.hid (show ∃ x : Later w7 (fun _ => False), w8 = x.1 from later_of (chg_of HB78.out)); clear hbE
      go_wp2_with fail
      refine ⟨HS8.out, ?_⟩
      refine plan_one [false, false, false, false, false, false, false, false, false, false, false, false, false, false, false, false, false, false, false, false, false, false, false, false, false, false, false, false, false, false, false, false, false, false, false, false, true] 36 6 (by dsimp only [sel]) (by rfl) rfl (by kernel_rfl) ?_; intro K1 hK1; go_wp2_with fail
      refine ⟨HS8.out, ?_⟩
      refine plan_group [false, false, false, false, false, false, false, false, false, false, false, false, false, false, false, false, false, false, false, false, false, false, false, false, false, false, false, false, false, false, false, false, false, false, false, false, false, false, false, true, true, true] [39, 40, 41] 3 (by dsimp only [sel]) (by rfl) rfl (by kernel_rfl) (by kernel_rfl) HS8.out ?_
      (repeat go_big_quiet_step (fail)); refine wpQuiet_nil ?_
      refine plan_one [false, false, false, false, false, false, false, false, false, false, false, false, false, false, false, false, false, false, false, false, false, false, false, false, false, false, false, false, false, false, false, false, false, false, false, false, false, false, false, false, false, false, true] 42 2 (by dsimp only [sel]) (by rfl) rfl (by kernel_rfl) ?_; intro K1 hK1; go_wp2_with fail
      refine (prod.awake_any _).mono ?_
      rintro e w9 ⟨rfl, hb9⟩
      have HB9 := Lib.hid (HB8.out.trans (hb9.mono HB8.out.size))
      go_wp2_with fail
      refine ⟨later_of (chg_of (HB78.out.trans (hb9.mono HB78.out.size))), ?_⟩
      have HS9 := Lib.hid (show ∃ x : Later w7 (fun _ => False), w9 = x.1 from later_of (chg_of (HB78.out.trans (hb9.mono HB78.out.size))))
      refine plan_group [false, false, false, false, false, false, false, false, false, false, false, false, false, false, false, false, false, false, false, false, false, false, false, false, false, false, false, false, false, false, false, false, false, false, false, false, false, false, false, false, false, false, false, true, true] [43, 44] 0 (by dsimp only [sel]) (by rfl) rfl (by kernel_rfl) (by kernel_rfl) HS9.out ?_
      (repeat go_big_quiet_step (fail)); refine wpQuiet_nil ?_
      refine wp_plan_end (by kernel_rfl) ?_
      go_wp2
      go_ret
      exact ⟨rfl, HB3.out.trans ((HB6.out.trans (HB9.out.mono HB6.out.size)).mono HB3.out.size)⟩
theorem prod.lawNothingAll (id seq : Int) (w : World) (h : -9223372036854775808 ≤ id ∧ id ≤ 9223372036854775807) (_ : -9223372036854775808 ≤ seq ∧ seq ≤ 9223372036854775807) :
    Calls Try.prog 6 #[.int .i64 id, .int .i64 seq] w fun e w' => e = .returned (.bool true) ∧ Below w.heap.size w w' := prod.lawNothing id seq w h
end Go.Proofs.Ytgkocnnkknodhaa

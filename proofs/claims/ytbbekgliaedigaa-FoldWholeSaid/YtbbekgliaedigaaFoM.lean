/- The law package's flat and made (cordwainlaw13): pairs, as the document's, and as the program's. -/
import Derived.Deep.Cut
import Derived.Maps.AppendAt
import Derived.Test.YtbbekgliaedigaaFoK
namespace Go.Proofs.Ytbbekgliaedigaa
open Go.RowKit Go.Maps
set_option maxRecDepth 100000

/-- The worlds in which all that stands in w stands still. -/
def Stand (w : World) : Type := { wx : World // Below w.heap.size w wx }
instance Stand.nonempty (w : World) : Nonempty (Stand w) := ⟨⟨w, Below.refl _ _⟩⟩
theorem stand_of {w w' : World} (h : Below w.heap.size w w') : ∃ x : Stand w, w' = x.1 := ⟨⟨w', h⟩, rfl⟩

set_option maxHeartbeats 4000000 in
/-- flat: a row of the document's pairs. -/
theorem ft.flat_any (A : Option Addr) (n c : Nat) (l : List PItm) (w : World) (hl : l.length = n) (hn : n ≤ 100000) (hat : PAt w A l) :
    Calls Try.prog 36 #[.slice A n c] w fun e w' => ∃ v, e = .returned v ∧ w'.ownsRow w.heap.size 122 3 v n (pf.row l) ∧ Below w.heap.size w w' := by
  have HAT := Lib.hid hat; clear hat
  have HL := Lib.hid hl; clear hl
  obtain ⟨i0, hinf⟩ := info_parts infoPair
  have HI := Lib.hid hinf; clear hinf
  go_enter Try.func36, Try.ntmps36
  go_wp2_with fail
  go_loopw [3, 4] (fun s3 s4 wx => ∃ (k : Nat) (v : Value), v = s3 ∧ s4 = .int .i64 (k : Int) ∧ k ≤ n ∧ wx.ownsRow w.heap.size 122 3 v k (pf.row (l.take k)) ∧ Below w.heap.size w wx) (fun _ s4 _ => n - (intOf s4).toNat)
  case atStart => exact ⟨0, _, rfl, rfl, by omega, World.ownsRow_nil _ _ _ _, Below.refl _ _⟩
  case round =>
    obtain ⟨k, v, rfl, rfl, hkn, hown, hbw⟩ := hrel
    have HOWN := Lib.hid hown; clear hown
    have HBW := Lib.hid hbw; clear hbw
    by_cases hlt : k < n
    · have hlt' : (k : Int) < n := by omega
      obtain ⟨y, hy⟩ : ∃ y, l[k]? = some y := ⟨_, List.getElem?_eq_getElem (by rw [HL.out]; exact hlt)⟩
      obtain ⟨p, off, hA, hp, e0, e1, e2⟩ := HAT.out.cells hy
      subst hA
      have q0 : ∀ x : Stand w, x.1.cell? ⟨p, off + k * 3, none⟩ = some (.slice y.A y.k y.c) := fun x => (x.2.cell (p := ⟨p, off + k * 3, none⟩) hp).trans e0
      have q1 : ∀ x : Stand w, x.1.cell? ⟨p, off + k * 3 + 1, none⟩ = some (.slice y.VA y.vk y.vc) := fun x => (x.2.cell (p := ⟨p, off + k * 3 + 1, none⟩) hp).trans e1
      have q2 : ∀ x : Stand w, x.1.cell? ⟨p, off + k * 3 + 2, none⟩ = some (.int .i64 y.off) := fun x => (x.2.cell (p := ⟨p, off + k * 3 + 2, none⟩) hp).trans e2
      have qd : wr.drew.cell? ⟨p, off + k * 3 + 2, none⟩ = some (.int .i64 y.off) := q2 ⟨wr.drew, bdrew HBW.out 1⟩
      have qs : wr.cell? ⟨p, off + k * 3 + 2, none⟩ = some (.int .i64 y.off) := q2 ⟨wr, HBW.out⟩
      have htk : pf.row (l.take (k + 1)) = pf.row (l.take k) ++ [.slice y.A y.k y.c, .slice y.VA y.vk y.vc, .int .i64 y.off] := by
        obtain ⟨h1, h2⟩ := List.getElem?_eq_some_iff.1 hy
        rw [List.take_succ_eq_append_getElem h1, h2, pf.row_append]
        rfl
      have HTK := Lib.hid htk; clear htk hy e0 e1 e2
      generalize y.A = yA at *
      generalize y.k = yk at *
      generalize y.c = yc at *
      generalize y.VA = yVA at *
      generalize y.vk = yvk at *
      generalize y.vc = yvc at *
      generalize y.off = yo at *
      obtain ⟨Ar, cr, rfl, -, -⟩ := own_at HOWN.out
      have hrlt := HOWN.out.lt
      have hws := HBW.out.size
      go_upto_region 5 with fail
      have hS0 : ∃ x : Stand w, wr.drew = x.1 := stand_of (bdrew HBW.out 1)
      refine wp_plan (S := fun w0 => ∃ x : Stand w, w0 = x.1) (by kernel_rfl) hS0 ?_
      intro hS K5 hK5
      have HS := Lib.hid hS; clear hS hS0
      refine plan_group [true, true, true, true, true, true, true, true, true, true, true, true, true, true, true] [0, 1, 2, 3, 4, 5, 6, 7, 8, 9, 10, 11, 12, 13, 14] 5 (by dsimp only [sel]) (by rfl) rfl (by kernel_rfl) (by kernel_rfl) HS.out ?_
      (repeat go_big_quiet_step (fail)); refine wpQuiet_nil ?_
      refine plan_one [false, false, false, false, false, false, false, false, false, false, false, false, false, false, false, true] 15 4 (by dsimp only [sel]) (by rfl) rfl (by kernel_rfl) ?_; intro K1 hK1; go_wp2_with fail
      refine ⟨HS.out, ?_⟩
      refine plan_one [false, false, false, false, false, false, false, false, false, false, false, false, false, false, false, false, true] 16 3 (by dsimp only [sel]) (by rfl) rfl (by kernel_rfl) ?_; intro K1 hK1; go_wp2_with fail
      refine ⟨HS.out, ?_⟩
      clear q0 q1 q2 qd qs
      refine plan_one [false, false, false, false, false, false, false, false, false, false, false, false, false, false, false, false, false, true] 17 2 (by dsimp only [sel]) (by rfl) rfl (by kernel_rfl) ?_; intro K1 hK1; go_wp2_with fail
      obtain ⟨w5, hw5⟩ : ∃ w5, w5 = (wr.alloc (.cells #[.slice yA yk yc, .slice yVA yvk yvc, .int .i64 yo] 122)).drew := ⟨_, rfl⟩
      rw [← hw5]
      have hb5 : Below wr.heap.size wr w5 := by rw [hw5]; exact bdrew ((Below.refl _ _).alloc (Nat.le_refl _) _) 1
      have hcn : ∀ (j : Nat) (u : Value), ([.slice yA yk yc, .slice yVA yvk yvc, .int .i64 yo] : List Value)[j]? = some u → w5.cell? ((⟨wr.heap.size, 0, none⟩ : Addr).add j) = some u := fun j u h => by rw [hw5]; exact fo.cell3 wr 122 _ _ _ j u h
      have hs5 : w5.heap.size = wr.heap.size + 1 := by rw [hw5]; simp
      have H5 := Lib.hid (And.intro ((chg_of (P := fun _ => False) hb5).own HOWN.out fun _ _ h => h.elim) (And.intro (HBW.out.trans (hb5.mono hws)) hcn)); clear hb5 hcn hw5
      refine ⟨stand_of H5.out.2.1, ?_⟩
      refine plan_one [false, false, false, false, false, false, false, false, false, false, false, false, false, false, false, false, false, false, true] 18 1 (by dsimp only [sel]) (by rfl) rfl (by kernel_rfl) ?_; intro K2 hK2
      go_wp2_with (at_builtin; go_loud (refine wpList_append_own_at _ rfl (.tmp 11) (.tmp 28) 33 rfl w.heap.size 122 i0 _ 3 56 Try.underlying33 HI.out.1 HI.out.2.1 HI.out.2.2.1 HI.out.2.2.2 rfl (by decide) (.slice Ar k cr) k _ rfl H5.out.1 ⟨wr.heap.size, 0, none⟩ 1 1 [.slice yA yk yc, .slice yVA yvk yvc, .int .i64 yo] rfl rfl H5.out.2.2 (by simp [Value.oneCell']) (by unfold maxLen; omega) (by omega) H5.out.2.1.size ?_; intro v2 w6 h1 h2 _ _; have H6 := Lib.hid (And.intro h1 (H5.out.2.1.grown h2 H5.out.2.1.size fun j hj => (hrlt j hj).1)); clear h1 h2))
      refine ⟨stand_of H6.out.2, ?_⟩
      go_simp
      refine plan_group [false, false, false, false, false, false, false, false, false, false, false, false, false, false, false, false, false, false, false, true] [19] 0 (by dsimp only [sel]) (by rfl) rfl (by kernel_rfl) (by kernel_rfl) (stand_of H6.out.2) ?_
      (repeat go_big_quiet_step (fail)); refine wpQuiet_nil ?_
      refine wp_plan_end (by kernel_rfl) ?_
      go_wp2_with fail
      go_roundw
      case rel => exact ⟨k + 1, v2, rfl, by go_num, by omega, by rw [HTK.out]; exact H6.out.1, H6.out.2⟩
      case measure => simp [intOf]; omega
    · obtain rfl : k = n := by omega
      have hown := HOWN.out
      rw [List.take_of_length_le (by rw [HL.out]; exact Nat.le_refl _)] at hown
      have HO := Lib.hid hown; clear hown
      go_wp2_with fail
      go_ret
      exact ⟨v, rfl, HO.out, HBW.out⟩

set_option maxHeartbeats 4000000 in
/-- made: a row of the program's pairs. -/
theorem ft.made_any (A : Option Addr) (n c : Nat) (l : List PItm) (w : World) (hl : l.length = n) (hn : n ≤ 100000) (hat : PAt w A l) :
    Calls Try.prog 42 #[.slice A n c] w fun e w' => ∃ v, e = .returned v ∧ w'.ownsRow w.heap.size 60 3 v n (pf.row l) ∧ Below w.heap.size w w' := by
  have HAT := Lib.hid hat; clear hat
  have HL := Lib.hid hl; clear hl
  obtain ⟨i0, hinf⟩ := info_parts fo.infoP
  have HI := Lib.hid hinf; clear hinf
  go_enter Try.func42, Try.ntmps42
  go_wp2_with fail
  go_loopw [3, 4] (fun s3 s4 wx => ∃ (k : Nat) (v : Value), v = s3 ∧ s4 = .int .i64 (k : Int) ∧ k ≤ n ∧ wx.ownsRow w.heap.size 60 3 v k (pf.row (l.take k)) ∧ Below w.heap.size w wx) (fun _ s4 _ => n - (intOf s4).toNat)
  case atStart => exact ⟨0, _, rfl, rfl, by omega, World.ownsRow_nil _ _ _ _, Below.refl _ _⟩
  case round =>
    obtain ⟨k, v, rfl, rfl, hkn, hown, hbw⟩ := hrel
    have HOWN := Lib.hid hown; clear hown
    have HBW := Lib.hid hbw; clear hbw
    by_cases hlt : k < n
    · have hlt' : (k : Int) < n := by omega
      obtain ⟨y, hy⟩ : ∃ y, l[k]? = some y := ⟨_, List.getElem?_eq_getElem (by rw [HL.out]; exact hlt)⟩
      obtain ⟨p, off, hA, hp, e0, e1, e2⟩ := HAT.out.cells hy
      subst hA
      have q0 : ∀ x : Stand w, x.1.cell? ⟨p, off + k * 3, none⟩ = some (.slice y.A y.k y.c) := fun x => (x.2.cell (p := ⟨p, off + k * 3, none⟩) hp).trans e0
      have q1 : ∀ x : Stand w, x.1.cell? ⟨p, off + k * 3 + 1, none⟩ = some (.slice y.VA y.vk y.vc) := fun x => (x.2.cell (p := ⟨p, off + k * 3 + 1, none⟩) hp).trans e1
      have q2 : ∀ x : Stand w, x.1.cell? ⟨p, off + k * 3 + 2, none⟩ = some (.int .i64 y.off) := fun x => (x.2.cell (p := ⟨p, off + k * 3 + 2, none⟩) hp).trans e2
      have qd : wr.drew.cell? ⟨p, off + k * 3 + 2, none⟩ = some (.int .i64 y.off) := q2 ⟨wr.drew, bdrew HBW.out 1⟩
      have qs : wr.cell? ⟨p, off + k * 3 + 2, none⟩ = some (.int .i64 y.off) := q2 ⟨wr, HBW.out⟩
      have htk : pf.row (l.take (k + 1)) = pf.row (l.take k) ++ [.slice y.A y.k y.c, .slice y.VA y.vk y.vc, .int .i64 y.off] := by
        obtain ⟨h1, h2⟩ := List.getElem?_eq_some_iff.1 hy
        rw [List.take_succ_eq_append_getElem h1, h2, pf.row_append]
        rfl
      have HTK := Lib.hid htk; clear htk hy e0 e1 e2
      generalize y.A = yA at *
      generalize y.k = yk at *
      generalize y.c = yc at *
      generalize y.VA = yVA at *
      generalize y.vk = yvk at *
      generalize y.vc = yvc at *
      generalize y.off = yo at *
      obtain ⟨Ar, cr, rfl, -, -⟩ := own_at HOWN.out
      have hrlt := HOWN.out.lt
      have hws := HBW.out.size
      go_upto_region 5 with fail
      have hS0 : ∃ x : Stand w, wr.drew = x.1 := stand_of (bdrew HBW.out 1)
      refine wp_plan (S := fun w0 => ∃ x : Stand w, w0 = x.1) (by kernel_rfl) hS0 ?_
      intro hS K5 hK5
      have HS := Lib.hid hS; clear hS hS0
      refine plan_group [true, true, true, true, true, true, true, true, true, true, true, true, true, true, true] [0, 1, 2, 3, 4, 5, 6, 7, 8, 9, 10, 11, 12, 13, 14] 5 (by dsimp only [sel]) (by rfl) rfl (by kernel_rfl) (by kernel_rfl) HS.out ?_
      (repeat go_big_quiet_step (fail)); refine wpQuiet_nil ?_
      refine plan_one [false, false, false, false, false, false, false, false, false, false, false, false, false, false, false, true] 15 4 (by dsimp only [sel]) (by rfl) rfl (by kernel_rfl) ?_; intro K1 hK1; go_wp2_with fail
      refine ⟨HS.out, ?_⟩
      refine plan_one [false, false, false, false, false, false, false, false, false, false, false, false, false, false, false, false, true] 16 3 (by dsimp only [sel]) (by rfl) rfl (by kernel_rfl) ?_; intro K1 hK1; go_wp2_with fail
      refine ⟨HS.out, ?_⟩
      clear q0 q1 q2 qd qs
      refine plan_one [false, false, false, false, false, false, false, false, false, false, false, false, false, false, false, false, false, true] 17 2 (by dsimp only [sel]) (by rfl) rfl (by kernel_rfl) ?_; intro K1 hK1; go_wp2_with fail
      obtain ⟨w5, hw5⟩ : ∃ w5, w5 = (wr.alloc (.cells #[.slice yA yk yc, .slice yVA yvk yvc, .int .i64 yo] 60)).drew := ⟨_, rfl⟩
      rw [← hw5]
      have hb5 : Below wr.heap.size wr w5 := by rw [hw5]; exact bdrew ((Below.refl _ _).alloc (Nat.le_refl _) _) 1
      have hcn : ∀ (j : Nat) (u : Value), ([.slice yA yk yc, .slice yVA yvk yvc, .int .i64 yo] : List Value)[j]? = some u → w5.cell? ((⟨wr.heap.size, 0, none⟩ : Addr).add j) = some u := fun j u h => by rw [hw5]; exact fo.cell3 wr 60 _ _ _ j u h
      have hs5 : w5.heap.size = wr.heap.size + 1 := by rw [hw5]; simp
      have H5 := Lib.hid (And.intro ((chg_of (P := fun _ => False) hb5).own HOWN.out fun _ _ h => h.elim) (And.intro (HBW.out.trans (hb5.mono hws)) hcn)); clear hb5 hcn hw5
      refine ⟨stand_of H5.out.2.1, ?_⟩
      refine plan_one [false, false, false, false, false, false, false, false, false, false, false, false, false, false, false, false, false, false, true] 18 1 (by dsimp only [sel]) (by rfl) rfl (by kernel_rfl) ?_; intro K2 hK2
      go_wp2_with (at_builtin; go_loud (refine wpList_append_own_at _ rfl (.tmp 11) (.tmp 28) 57 rfl w.heap.size 60 i0 _ 3 56 Try.underlying57 HI.out.1 HI.out.2.1 HI.out.2.2.1 HI.out.2.2.2 rfl (by decide) (.slice Ar k cr) k _ rfl H5.out.1 ⟨wr.heap.size, 0, none⟩ 1 1 [.slice yA yk yc, .slice yVA yvk yvc, .int .i64 yo] rfl rfl H5.out.2.2 (by simp [Value.oneCell']) (by unfold maxLen; omega) (by omega) H5.out.2.1.size ?_; intro v2 w6 h1 h2 _ _; have H6 := Lib.hid (And.intro h1 (H5.out.2.1.grown h2 H5.out.2.1.size fun j hj => (hrlt j hj).1)); clear h1 h2))
      refine ⟨stand_of H6.out.2, ?_⟩
      go_simp
      refine plan_group [false, false, false, false, false, false, false, false, false, false, false, false, false, false, false, false, false, false, false, true] [19] 0 (by dsimp only [sel]) (by rfl) rfl (by kernel_rfl) (by kernel_rfl) (stand_of H6.out.2) ?_
      (repeat go_big_quiet_step (fail)); refine wpQuiet_nil ?_
      refine wp_plan_end (by kernel_rfl) ?_
      go_wp2_with fail
      go_roundw
      case rel => exact ⟨k + 1, v2, rfl, by go_num, by omega, by rw [HTK.out]; exact H6.out.1, H6.out.2⟩
      case measure => simp [intOf]; omega
    · obtain rfl : k = n := by omega
      have hown := HOWN.out
      rw [List.take_of_length_le (by rw [HL.out]; exact Nat.le_refl _)] at hown
      have HO := Lib.hid hown; clear hown
      go_wp2_with fail
      go_ret
      exact ⟨v, rfl, HO.out, HBW.out⟩
end Go.Proofs.Ytbbekgliaedigaa

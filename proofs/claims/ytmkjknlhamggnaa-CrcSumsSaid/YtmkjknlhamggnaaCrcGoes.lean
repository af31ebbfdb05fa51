/- The walk of the law CrcGoes: it answers true, whatever the input. -/
import Derived.Test.YtmkjknlhamggnaaCrcP
import Derived.Test.YtmkjknlhamggnaaAlike
import Derived.RegionTactic
import Derived.BigRegion
namespace Go.Proofs.Ytmkjknlhamggnaa
open Go.RowKit

theorem infoByte : (Try.prog.info? 5).map (fun i => (i.zero, i.size, i.bytes)) = some (some (.int .u8 0), 1, 1) := by kernel_rfl

theorem crc.flip_eq (x r : Nat) (hx : x < 256) : Go.bits .xor .u8 (x : Int) (2 ^ (r % 8) % 256) = ((x ^^^ 2 ^ (r % 8) : Nat) : Int) := by
  have hlt : 2 ^ (r % 8) < 2 ^ 8 := Nat.pow_lt_pow_right (by omega) (by omega)
  have e : (2 : Int) ^ (r % 8) = ((2 ^ (r % 8) : Nat) : Int) := by push_cast; rfl
  rw [e]
  generalize 2 ^ (r % 8) = t at hlt
  rw [show ((t : Nat) : Int) % 256 = ((t : Nat) : Int) by omega]
  exact u8_xor_nat x _ hx (by omega)
theorem crc.two (a b : List Nat) : crc.sums [a, b] = crc.more (crc.more 0 a) b := rfl
theorem crc.one (a : List Nat) : crc.sums [a] = crc.more 0 a := rfl

theorem crc.add_one (g s : Nat) (v : Value) (L : List Nat) (w : World) (hs : s < 4294967296) (hc : w.cell? ⟨g, 0, none⟩ = some (.int .u32 (s : Int))) (hf : w.frozen? ⟨g, 0, none⟩ = false) (hv : Bytes w v L) :
    Calls Try.prog 17 #[.pointer (some ⟨g, 0, none⟩), v] w fun e w' => e = .returned (.tuple #[]) ∧ w'.cell? ⟨g, 0, none⟩ = some (.int .u32 (crc.more s L : Nat)) ∧ w'.frozen? ⟨g, 0, none⟩ = false ∧ w'.heap.size = w.heap.size ∧ Below g w w' :=
  (crc.add_any g s v L w hs hc hf hv).mono fun e w' ⟨he, hw⟩ => by
    subst hw
    exact ⟨he, World.cell?_setCell_same w _ _ hc, by rw [World.frozen?_setCell]; exact hf, by simp, (Below.refl g w).setCell (p := ⟨g, 0, none⟩) (Nat.le_refl _) _⟩
theorem two_val {w : World} {v1 v2 : Value} {a b : List Nat} (h1 : Bytes w v1 a) (h2 : Bytes w v2 b) : ∀ j, j < 2 → Bytes w (#[v1, v2].getD j undef) ([a, b].getD j []) := fun j hj => by
  have hj' : j = 0 ∨ j = 1 := by omega
  rcases hj' with rfl | rfl
  · exact h1
  · exact h2

set_option maxRecDepth 20000 in
set_option maxHeartbeats 1000000 in
theorem crc.lawGoes (X : Option Addr) (n c : Nat) (z : List Int) (Y : Option Addr) (m d : Nat) (y : List Int) (at_ : Int) (w : World)
    (hz : z.length = n ∧ n ≤ c ∧ c ≤ maxLen) (hatz : At w X n (fun j => .int .u8 (z.getD j 0))) (hwfz : ∀ x ∈ z, (Lit.int .u8 x).wf = true)
    (hy : y.length = m ∧ m ≤ d ∧ d ≤ maxLen) (haty : At w Y m (fun j => .int .u8 (y.getD j 0))) (hwfy : ∀ x ∈ y, (Lit.int .u8 x).wf = true)
    (hat_ : -9223372036854775808 ≤ at_ ∧ at_ ≤ 9223372036854775807) :
    Calls Try.prog 5 #[.slice X n c, .slice Y m d, .int .i64 at_] w fun e w' => e = .returned (.bool true) ∧ Below w.heap.size w w' := by
  obtain ⟨hz, hnc, hcm⟩ := hz
  obtain ⟨hy, hmd, hdm⟩ := hy
  unfold maxLen at hcm hdm
  by_cases hbig : n ≤ 1000 ∧ m ≤ 1000
  · obtain ⟨hn, hm⟩ := hbig
    obtain ⟨haz, hzb⟩ := ints_bytes hatz hz hwfz
    obtain ⟨hay, hyb⟩ := ints_bytes haty hy hwfy
    clear hatz haty
    obtain ⟨L, hL⟩ : ∃ L, L = z.map Int.toNat := ⟨_, rfl⟩
    obtain ⟨M, hM⟩ : ∃ M, M = y.map Int.toNat := ⟨_, rfl⟩
    rw [← hL] at haz hzb
    rw [← hM] at hay hyb
    have hLn : L.length = n := by rw [hL, List.length_map, hz]
    have hMn : M.length = m := by rw [hM, List.length_map, hy]
    clear hL hM hz hy hwfz hwfy
    subst hLn
    subst hMn
    have hLb : ∀ x ∈ L, x < 256 := fun x hx => by
      obtain ⟨q, hq, rfl⟩ := List.mem_iff_getElem.1 hx
      have := hzb q hq
      simpa [List.getD, List.getElem?_eq_getElem hq] using this
    have hMb : ∀ x ∈ M, x < 256 := fun x hx => by
      obtain ⟨q, hq, rfl⟩ := List.mem_iff_getElem.1 hx
      have := hyb q hq
      simpa [List.getD, List.getElem?_eq_getElem hq] using this
    have hbL : Bytes w (.slice X L.length c) L := ⟨X, c, rfl, by omega, haz, hLb⟩
    have hbM : Bytes w (.slice Y M.length d) M := ⟨Y, d, rfl, by omega, hay, hMb⟩
    have HBL := Lib.hid hbL; clear hbL
    have HBM := Lib.hid hbM; clear hbM
    have HLB := Lib.hid hLb; clear hLb
    clear haz hay hzb hyb hMb
    obtain ⟨i0, hi, hz0, hz1, hz2⟩ := info_parts infoByte
    go_enter Try.func5, Try.ntmps5
    go_wp2_with fail
    have hc0 : (w.alloc (.cells #[.int .u32 0] 37)).cell? ⟨w.heap.size, 0, none⟩ = some (.int .u32 ((0 : Nat) : Int)) := by simp [go_sem]
    have hf0 : (w.alloc (.cells #[.int .u32 0] 37)).frozen? ⟨w.heap.size, 0, none⟩ = false := by simp [go_sem]
    refine (crc.add_one w.heap.size 0 _ L _ (by omega) hc0 hf0 (HBL.out.below ((Below.refl _ _).alloc (Nat.le_refl _) _))).mono ?_
    rintro e w1 ⟨rfl, hc1, hf1, hz1', hb1⟩
    clear hc0 hf0
    simp only [World.size_alloc] at hz1'
    have hbw1 : Below w.heap.size w w1 := ((Below.refl _ _).alloc (Nat.le_refl _) _).trans hb1
    clear hb1
    have HBW1 := Lib.hid hbw1; clear hbw1
    go_wp2_with fail
    refine (crc.told_any w.heap.size _ w1 hc1).mono ?_
    rintro e w' ⟨rfl, rfl⟩
    go_wp2_with fail
    refine (crc.add_one w.heap.size (crc.more 0 L) _ M w1 (crc.more_lt _ _) hc1 hf1 (HBM.out.below HBW1.out)).mono ?_
    rintro e w2 ⟨rfl, hc2, _, hz2', hb2⟩
    clear hc1 hf1
    have hbw2 : Below w.heap.size w w2 := HBW1.out.trans hb2
    clear hb2
    have HBW2 := Lib.hid hbw2; clear hbw2
    have hzz2 : w2.heap.size = w.heap.size + 1 := by omega
    clear hz1' hz2'
    have hbl2 := HBL.out.below HBW2.out
    have hbm2 := HBM.out.below HBW2.out
    have HBL2 := Lib.hid hbl2; clear hbl2
    have HBM2 := Lib.hid hbm2; clear hbm2
    have HZZ := Lib.hid hzz2; clear hzz2
    have hzl : w.heap.size < w2.heap.size := by have := HZZ.out; omega
    go_wp2_with fail
    refine (crc.sum_any _ 1 1 _ [L] _ (by omega) rfl (At.one _ _ _) (one_val (HBL2.out.below ((Below.refl _ _).alloc (Nat.le_refl _) _)))).mono ?_
    rintro e w' ⟨rfl, rfl⟩
    rw [crc.one]
    go_wp2_with fail
    refine (crc.told_any w.heap.size _ _ ((World.cell?_alloc_lt w2 _ _ hzl).trans hc2)).mono ?_
    rintro e w' ⟨rfl, rfl⟩
    go_wp2_with fail
    have hsz3 : ∀ o, (w2.alloc o).heap.size = w2.heap.size + 1 := fun o => by simp
    have hA2 : ∀ o v1 v2 t, At ((w2.alloc o).alloc (.cells #[v1, v2] t)) (some ⟨w2.heap.size + 1, 0, none⟩) 2 (fun j => #[v1, v2].getD j undef) := fun o v1 v2 t => by
      have := At.new (w2.alloc o) #[v1, v2] t (n := 2) (fr := (0, 0)) rfl
      rw [hsz3] at this; exact this
    have hbel : ∀ o o', Below w2.heap.size w2 ((w2.alloc o).alloc o') := fun o o' => ((Below.refl _ _).alloc (Nat.le_refl _) _).alloc (by simp) _
    have HA2 := Lib.hid hA2; clear hA2
    have HBEL := Lib.hid hbel; clear hbel
    clear hsz3
    refine (crc.sum_any _ 2 2 _ [L, M] _ (by omega) rfl (HA2.out _ _ _ _) (two_val (HBL2.out.below (HBEL.out _ _)) (HBM2.out.below (HBEL.out _ _)))).mono ?_
    rintro e w' ⟨rfl, rfl⟩
    rw [crc.two]
    go_wp2_with fail
    obtain ⟨W, hW⟩ : ∃ W, W = (w2.alloc (.cells #[.slice X L.length c] 23)).alloc (.cells #[.slice X L.length c, .slice Y M.length d] 23) := ⟨_, rfl⟩
    rw [← hW]
    have hb4 : Below w2.heap.size w2 W := by rw [hW]; exact HBEL.out _ _
    have hbl4 := HBL2.out.below hb4
    have hbm4 := HBM2.out.below hb4
    have hbw4 : Below w.heap.size w W := HBW2.out.trans (hb4.mono (by omega))
    have hc4 : W.cell? ⟨w.heap.size, 0, none⟩ = some (.int .u32 ((crc.more (crc.more 0 L) M : Nat) : Int)) := (hb4.cell (by exact hzl)).trans hc2
    have hz4 := hb4.size
    have HBL4 := Lib.hid hbl4; clear hbl4
    have HBM4 := Lib.hid hbm4; clear hbm4
    have HBW4 := Lib.hid hbw4; clear hbw4
    clear hW hb4 HA2 HBEL HBL2 HBM2 hc2
    have hmore : Calls Try.prog 16 #[.int .u32 ((crc.more 0 L : Nat) : Int), .slice Y M.length d] W fun e w' => e = .returned (.int .u32 ((crc.more (crc.more 0 L) M : Nat) : Int)) ∧ W = w' := by
      obtain ⟨A', c', he, h1, h2, h3⟩ := HBM4.out
      injection he with e1 _ e3
      subst e1; subst e3
      exact crc.more_any (crc.more 0 L) _ _ _ M W (crc.more_lt _ _) (by omega) rfl h2 fun j hj => getD_lt h3 j hj
    refine hmore.mono ?_
    rintro e w' ⟨rfl, rfl⟩
    clear hmore
    go_wp2_with fail
    refine (crc.told_any w.heap.size _ W hc4).mono ?_
    rintro e w' ⟨rfl, rfl⟩
    clear hc4
    obtain ⟨A', c', he, h1, h2, h3⟩ := HBL4.out
    injection he with e1 _ e3
    subst e1; subst e3
    have HAT4 := Lib.hid h2; clear h2
    clear h3 h1
    by_cases hL0 : L.length = 0
    · have hL0' : ¬ (0 : Int) < L.length := by omega
      clear hL0
      go_wp2_with fail
      refine (crc.awake_any W).mono ?_
      rintro e w5 ⟨rfl, hb5⟩
      go_wp2
      go_ret
      exact ⟨rfl, HBW4.out.trans (hb5.mono (by omega))⟩
    · have hL0' : (0 : Int) < L.length := by omega
      obtain ⟨b, off, rfl, hbb, hc⟩ := HAT4.out (by omega)
      clear hc
      go_wp2_with (at_builtin; refine wpList_app _ rfl (.tmp 48) (.tmp 49) 23 rfl W.heap.size 5 i0 _ 1 1 Try.underlying23 hi hz0 hz1 hz2 rfl (by decide) _ _ _ rfl (World.ownsRow_lit W #[] 0 (Nat.le_refl _) (by unfold maxLen; omega) rfl) (some ⟨b, off, none⟩) L.length c (byteAt L) rfl ((Nat.mul_one L.length).symm ▸ HAT4.out.alloc _) (fun _ _ => rfl) (by unfold maxLen; omega) (by omega) (by simp) ?_)
      intro v5 w5 hown5 hg5
      rw [byteAt_c _ rfl] at hown5
      have hb5 : Below W.heap.size W w5 := ((Below.refl _ _).alloc (Nat.le_refl _) _).grown hg5 (by simp) (fun k hk => by simp [Value.ownBlock] at hk; omega)
      obtain ⟨g5, cp5, rfl, hcp5, hg51, hg52⟩ := own_form hown5 (by omega)
      have HOWN5 := Lib.hid hown5; clear hown5
      have HB5 := Lib.hid hb5; clear hb5
      clear hg5
      have hw5 : W.heap.size ≤ w5.heap.size := HB5.out.size
      go_wp2_with fail
      refine (round_any at_ (8 * L.length : Int) w5 hat_ (by omega) (by omega)).mono ?_
      rintro e w' ⟨⟨r, rfl, hr⟩, rfl⟩
      have hq : r / 8 < L.length := by omega
      obtain ⟨x, hx⟩ : ∃ x, x = L.getD (r / 8) 0 := ⟨_, rfl⟩
      have hcell : w5.cell? ⟨g5, r / 8, none⟩ = some (.int .u8 (x : Int)) := by
        rw [HOWN5.out.cellAt (r / 8) (by omega)]
        have := u8s_getD L (r / 8) hq
        rw [← hx] at this
        rw [← this]
        simp [List.getD, List.getElem?_eq_getElem (show r / 8 < (u8s L).length by rw [u8s_len]; omega)]
      have hfr := HOWN5.out.frozenAt (r / 8)
      have hxb : x < 256 := by rw [hx]; exact getD_lt HLB.out _ hq
      have hi1 : (r : Int) / 8 < (L.length : Int) := by omega
      have hi0 : (0 : Int) ≤ (r : Int) / 8 := by omega
      have hm1 : (0 : Int) ≤ (r : Int) % 8 := by omega
      have hm2 : (r : Int) % 8 < 8 := by omega
      have HX := Lib.hid hx; clear hx
      go_wp2_with fail
      go_region
      obtain ⟨v, hv⟩ : ∃ v, v = x ^^^ 2 ^ (r % 8) := ⟨_, rfl⟩
      have hfe := crc.flip_eq x r hxb
      rw [← hv] at hfe
      rw [hfe]
      have hvb : v < 256 := by rw [hv]; exact crc.flip_lt x _ hxb (by omega)
      have hne : v ≠ L.getD (r / 8) 0 := by rw [hv, ← HX.out]; exact crc.flip_ne x _
      have hset := (HOWN5.out.stored (r / 8) (.int .u8 (v : Int))).1
      have hus : (u8s L).set (r / 8) (.int .u8 (v : Int)) = u8s (L.set (r / 8) v) := by unfold u8s; rw [List.map_set]
      rw [hus] at hset
      obtain ⟨A6, c6, he6, _, hl6, hat6⟩ := own_bytes hset
      injection he6 with f1 _ f3
      subst f1; subst f3
      obtain ⟨W6, hW6⟩ : ∃ W6, W6 = (w5.setCell ⟨g5, r / 8, none⟩ (.int .u8 (v : Int))).drew := ⟨_, rfl⟩
      rw [← hW6]
      have hb6 : Below W.heap.size W W6 := by rw [hW6]; exact (HB5.out.setCell hg51 _).drew
      have hat6' : At W6 (some ⟨g5, 0, none⟩) L.length (byteAt (L.set (r / 8) v)) := by rw [hW6]; exact hat6
      have hsb : ∀ q ∈ L.set (r / 8) v, q < 256 := fun q hq' => by
        rcases List.mem_or_eq_of_mem_set hq' with h' | h'
        · exact HLB.out q h'
        · omega
      have hbc6 : Bytes W6 (.slice (some ⟨g5, 0, none⟩) L.length cp5) (L.set (r / 8) v) := ⟨some ⟨g5, 0, none⟩, cp5, by rw [List.length_set], by rw [List.length_set]; omega, by rw [List.length_set]; exact hat6', hsb⟩
      have hbl6 : Bytes W6 (.slice (some ⟨b, off, none⟩) L.length c) L := HBL4.out.below hb6
      have hsum : crc.more 0 (L.set (r / 8) v) ≠ crc.more 0 L := crc.set_ne L _ v hq HLB.out hvb hne
      have hs1 := crc.more_lt 0 (L.set (r / 8) v)
      have HBC6 := Lib.hid hbc6; clear hbc6
      have HBL6 := Lib.hid hbl6; clear hbl6
      have HSUM := Lib.hid hsum; clear hsum
      have HB6 := Lib.hid hb6; clear hb6
      clear hW6 hat6 hat6' hset hus hfe hcell hfr hv hne hsb hl6
      obtain ⟨s1, hs1e⟩ : ∃ s1, s1 = crc.more 0 (L.set (r / 8) v) := ⟨_, rfl⟩
      have HS1 := Lib.hid hs1e; clear hs1e
      clear hs1
      go_wp2_with fail
      refine (crc.sum_any _ 1 1 _ [L.set (r / 8) v] _ (by omega) rfl (At.one _ _ _) (one_val (HBC6.out.below ((Below.refl _ _).alloc (Nat.le_refl _) _)))).mono ?_
      rintro e w' ⟨rfl, rfl⟩
      rw [crc.one, ← HS1.out]
      go_wp2_with fail
      have hsz3 : ∀ o, (W6.alloc o).heap.size = W6.heap.size + 1 := fun o => by simp
      have hA1 : ∀ o v1 t, At ((W6.alloc o).alloc (.cells #[v1] t)) (some ⟨W6.heap.size + 1, 0, none⟩) 1 (fun _ => v1) := fun o v1 t => by
        have := At.one (W6.alloc o) v1 t
        rw [hsz3] at this; exact this
      have hbel : ∀ o o', Below W6.heap.size W6 ((W6.alloc o).alloc o') := fun o o' => ((Below.refl _ _).alloc (Nat.le_refl _) _).alloc (by simp) _
      refine (crc.sum_any _ 1 1 _ [L] _ (by omega) rfl (hA1 _ _ _) (one_val (HBL6.out.below (hbel _ _)))).mono ?_
      rintro e w' ⟨rfl, rfl⟩
      clear hA1 hsz3
      rw [crc.one]
      have hne2 : ((s1 : Int) == ((crc.more 0 L : Nat) : Int)) = false := beq_eq_false_iff_ne.2 (by have := HSUM.out; rw [← HS1.out] at this; omega)
      have HBEL := Lib.hid hbel; clear hbel
      go_wp2_with fail
      refine (crc.awake_any _).mono ?_
      rintro e w7 ⟨rfl, hb7⟩
      have HB7 := Lib.hid hb7; clear hb7
      go_wp2
      go_ret
      have hz6 := HB6.out.size
      exact ⟨rfl, HBW4.out.trans ((HB6.out.mono (by omega)).trans (((HBEL.out _ _).mono (by omega)).trans (HB7.out.mono (by simp; omega))))⟩
  · have HBIG := Lib.hid hbig; clear hbig
    go_enter Try.func5, Try.ntmps5
    go_wp2_with (go_at_call 14; refine (crc.awake_any _).mono ?_; rintro e w' ⟨rfl, hb⟩)
    all_goals first
      | (go_ret; exact ⟨rfl, by assumption⟩)
      | (exfalso; have := HBIG.out; omega)
end Go.Proofs.Ytmkjknlhamggnaa

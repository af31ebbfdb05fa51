/- The reference's Fold (cordwainref10), walked. -/
import Derived.Deep.Cut
import Derived.Test.YtbbekgliaedigaaFoK
namespace Go.Proofs.Ytbbekgliaedigaa
open Go.RowKit Go.Maps
set_option maxRecDepth 100000

theorem fo.le_own {a b j : Nat} (h : (Value.slice (some ⟨a, b, none⟩) 0 0).ownBlock = some j) : a ≤ j := by
  have e : a = j := by simpa [Value.ownBlock] using h
  omega
theorem fo.lies_le {w5 : World} {a : Nat} {v : Value} {j : Nat} (hl : Lies w5 (.slice (some ⟨a, 0, none⟩) 0 0) v) (hs : a ≤ w5.heap.size) (h : v.ownBlock = some j) : a ≤ j := by
  rcases hl with e | e
  · rw [e] at h
    exact fo.le_own h
  · rw [e] at h
    have e1 : w5.heap.size = j := by simpa using h
    omega
/-- What the reference's Fold answers. -/
def rf.Post (rs : List Rec) (w : World) (e : Ending) (w' : World) : Prop :=
  ∃ v l, e = .returned v ∧ w'.ownsRow w.heap.size 122 3 v l.length (pf.row l) ∧ (∀ x ∈ l, PBytes w x) ∧ FoIs l rs ∧ Below w.heap.size w w'
set_option maxHeartbeats 4000000 in
theorem rf.fold_any (A : Option Addr) (n c : Nat) (rs : List Rec) (w : World) (hrv : RecsV w (.slice A n c) rs) (hn : rs.length = n) (hn1 : n ≤ 10000) (hk : ∀ r ∈ rs, r.key.length ≤ 1000000 ∧ r.val.length ≤ 1000000) :
    Calls Try.prog 34 #[.slice A n c] w (rf.Post rs w) := by
  have HRV := Lib.hid hrv; clear hrv
  have HN := Lib.hid hn; clear hn
  have HK := Lib.hid hk; clear hk
  go_enter Try.func34, Try.ntmps34
  go_wp2_with fail
  go_loopw [3, 4] (fun s3 s4 wx => ∃ (k : Nat) (v : Value) (l : List PItm), v = s3 ∧ s4 = .int .i64 (k : Int) ∧ k ≤ n ∧ wx.ownsRow w.heap.size 122 3 v l.length (pf.row l) ∧ (∀ x ∈ l, PBytes w x) ∧ FoIs l (rs.take k) ∧ Below w.heap.size w wx) (fun _ s4 _ => n - (intOf s4).toNat)
  case atStart => exact ⟨0, _, [], rfl, rfl, by omega, World.ownsRow_nil _ _ _ _, by simp, ⟨List.Pairwise.nil, by simp, fun s v h => (by cases h), by simp⟩, Below.refl _ _⟩
  case round =>
    obtain ⟨k, v, l, rfl, rfl, hkn, hown, hby, his, hbw⟩ := hrel
    have HOWN := Lib.hid hown; clear hown
    have HBY := Lib.hid hby; clear hby
    have HIS := Lib.hid his; clear his
    have HBW := Lib.hid hbw; clear hbw
    by_cases hlt : k < n
    · have hlt' : (k : Int) < n := by omega
      obtain ⟨y, hy⟩ : ∃ y, rs[k]? = some y := ⟨_, List.getElem?_eq_getElem (by rw [HN.out]; exact hlt)⟩
      obtain ⟨hyk, hyv⟩ := HK.out y (List.mem_of_getElem? hy)
      obtain ⟨pr, off, c', kv, vv, hA, -, -, hpr, d0, d1, d2, d3, d4, d5, ⟨Ak, ck, rfl, hka, -⟩, ⟨Av, cv, rfl, hva, -⟩, -, -⟩ := HRV.out.at' hy
      obtain ⟨rfl, rfl⟩ : A = some ⟨pr, off, none⟩ ∧ c = c' := by simp at hA; exact ⟨hA.1, hA.2.2⟩
      obtain ⟨nk, hnk⟩ : ∃ nk, nk = y.key.length := ⟨_, rfl⟩
      obtain ⟨nv, hnv⟩ : ∃ nv, nv = y.val.length := ⟨_, rfl⟩
      rw [← hnk] at d3 hka hyk
      rw [← hnv] at d5 hva hyv
      have hb0 := HBW.out
      have e0 := (hb0.cell (p := ⟨pr, off + k * 6, none⟩) hpr).trans d0
      have e1 := (hb0.cell (p := ⟨pr, off + k * 6 + 1, none⟩) hpr).trans d1
      have e2 := (hb0.cell (p := ⟨pr, off + k * 6 + 2, none⟩) hpr).trans d2
      have e3 := (hb0.cell (p := ⟨pr, off + k * 6 + 3, none⟩) hpr).trans d3
      have e4 := (hb0.cell (p := ⟨pr, off + k * 6 + 4, none⟩) hpr).trans d4
      have e5 := (hb0.cell (p := ⟨pr, off + k * 6 + 5, none⟩) hpr).trans d5
      have htk : rs.take (k + 1) = rs.take k ++ [y] := by
        obtain ⟨h1, h2⟩ := List.getElem?_eq_some_iff.1 hy
        rw [List.take_succ_eq_append_getElem h1, h2]
      have HTK := Lib.hid htk; clear htk
      have hx : PBytes w ⟨Ak, nk, ck, y.key, Av, nv, cv, y.val, y.off⟩ := ⟨hnk.symm, hyk, hka, hnv.symm, hyv, hva⟩
      have HX := Lib.hid hx; clear hx d0 d1 d2 d3 d4 d5 hA hb0 hy hka hva
      have HNK := Lib.hid (And.intro hnk hnv); clear hnk hnv
      have hwa : ∀ o, Below wr.heap.size wr (wr.alloc o) := fun o => (Below.refl _ _).alloc (Nat.le_refl _) _
      obtain ⟨Ar, cr, rfl, hcr, hat⟩ := own_at HOWN.out
      have hll : l.length ≤ n := by have := HIS.out.len; rw [List.length_take, HN.out] at this; omega
      have hlen := HIS.out.len
      have HAT := Lib.hid (show PAt wr Ar l from hat); clear hat
      have hrlt := HOWN.out.lt
      obtain ⟨N, hN⟩ : ∃ N, N = l.length := ⟨_, rfl⟩
      rw [← hN] at hcr hll HOWN hrlt ⊢
      have HNL := Lib.hid hN; clear hN hlen
      by_cases hhk : y.hasKey = true
      · by_cases hhv : y.hasVal = true
        · rw [hhk] at e2
          rw [hhv] at e4
          have hput := fun o => pf.put_any Ar N cr l ⟨Ak, nk, ck, y.key, Av, nv, cv, y.val, y.off⟩ (wr.alloc o) HNL.out.symm (by omega) hcr (At.below HAT.out (hwa o) (Nat.le_refl _)) (fun z hz => (HBY.out z hz).below (HBW.out.trans ((hwa o).mono HBW.out.size)) (Nat.le_refl _)) (HX.out.below (HBW.out.trans ((hwa o).mono HBW.out.size)) (Nat.le_refl _))
          unfold PItm.agg at hput
          dsimp only at hput
          have hisn := HIS.out.put (r := y) (x := ⟨Ak, nk, ck, y.key, Av, nv, cv, y.val, y.off⟩) hhk hhv rfl
          have hbyn : ∀ z ∈ pf.put l ⟨Ak, nk, ck, y.key, Av, nv, cv, y.val, y.off⟩, PBytes w z := fun z hz => by
            rcases pf.put_mem hz with rfl | hz
            · exact HX.out
            · exact HBY.out z hz
          have HPUT := Lib.hid hput; clear hput
          have HNX := Lib.hid (And.intro hisn hbyn); clear hisn hbyn
          go_wp2_with fail
          refine (HPUT.out _).mono ?_
          rintro e w4 ⟨v2, rfl, hown2, hb4⟩
          have hb14 : Below w.heap.size w w4 := HBW.out.trans (((hwa _).trans (hb4.mono (by simp))).mono HBW.out.size)
          have H4 := Lib.hid (And.intro (ownsRow_base hown2 (show w.heap.size ≤ _ by simp; have := HBW.out.size; omega)) hb14); clear hown2 hb4 hb14
          go_wp2_with fail
          go_roundw
          case rel => exact ⟨k + 1, v2, _, rfl, by go_num, by omega, H4.out.1, HNX.out.2, by rw [HTK.out]; exact HNX.out.1, H4.out.2⟩
          case measure => simp [intOf]; omega
        · have hhv : y.hasVal = false := by simpa using hhv
          rw [hhk] at e2
          rw [hhv] at e4
          have hfind := fun o => pf.find_any Ar N cr l Ak nk ck y.key (wr.alloc o) HNL.out.symm (by omega) (At.below HAT.out (hwa o) (Nat.le_refl _)) (fun z hz => (HBY.out z hz).below (HBW.out.trans ((hwa o).mono HBW.out.size)) (Nat.le_refl _)) HNK.out.1.symm (HX.out.2.2.1.below (HBW.out.trans ((hwa o).mono HBW.out.size)) (Nat.le_refl _))
          have HFIND := Lib.hid hfind; clear hfind
          cases hh : pf.has l (strOf y.key) with
          | false =>
            rw [hh] at HFIND
            have hisn := HIS.out.gone (r := y) hhk hhv hh
            have HNX := Lib.hid hisn; clear hisn hh
            go_wp2_with fail
            refine (HFIND.out _).mono ?_
            rintro e w4 ⟨rfl, q, hw4⟩
            have hb4 : Below wr.heap.size wr w4 := by rw [hw4]; exact bdrew (hwa _) q
            have H4 := Lib.hid (And.intro ((chg_of (P := fun _ => False) hb4).own HOWN.out fun _ _ h => h.elim) (HBW.out.trans (hb4.mono HBW.out.size))); clear hb4 hw4
            go_wp2_with fail
            go_roundw
            case rel => exact ⟨k + 1, .slice Ar N cr, l, rfl, by go_num, by omega, by rw [← HNL.out]; exact H4.out.1, HBY.out, by rw [HTK.out]; exact HNX.out, H4.out.2⟩
            case measure => simp [intOf]; omega
          | true =>
            rw [hh] at HFIND
            have hisn := HIS.out.cut (r := y) hhk hhv hh
            obtain ⟨z, hz⟩ := pf.has_at hh
            obtain ⟨p, hp⟩ : ∃ p, p = pf.place l (strOf y.key) := ⟨_, rfl⟩
            have hpN : p < N := by rw [hp, HNL.out]; exact (List.getElem?_eq_some_iff.1 hz).1
            rw [← hp] at HFIND
            have hcut : pf.cut l (strOf y.key) = l.take p ++ l.drop (p + 1) := by rw [hp]; rfl
            have hbyn : ∀ z ∈ pf.cut l (strOf y.key), PBytes w z := fun z hz => HBY.out z ((pf.cut_sub l _).subset hz)
            rw [hcut] at hisn hbyn
            have HNX := Lib.hid (And.intro hisn hbyn); clear hisn hbyn hh hz hcut hp
            go_wp2_with fail
            refine (HFIND.out _).mono ?_
            rintro e w4 ⟨rfl, q, hw4⟩
            have hb4 : Below wr.heap.size wr w4 := by rw [hw4]; exact bdrew (hwa _) q
            have H4 := Lib.hid (And.intro (At.below HAT.out hb4 (Nat.le_refl _) : PAt w4 Ar l) (HBW.out.trans (hb4.mono HBW.out.size))); clear hb4 hw4
            go_upto_region 11 with fail
            have hpN2 : (p : Int) < N := by omega
            have hN10 : N ≤ 10000 := by omega
            have hS0 : ∃ x : Later w4 (fun _ => False), w4.drew = x.1 := later_of (chg_of (bdrew (Below.refl _ _) 1))
            refine wp_plan (S := fun w0 => ∃ x : Later w4 (fun _ => False), w0 = x.1) (by kernel_rfl) hS0 ?_
            intro hS K5 hK5
            have HS := Lib.hid hS; clear hS hS0
            refine plan_group [false, true, true, true, false, true, true, true, true] [1, 2, 3, 5, 6, 7, 8] 4 (by dsimp only [sel]) (by rfl) rfl (by kernel_rfl) (by kernel_rfl) HS.out ?_
            go_big_quiet_step (fail)
            go_big_quiet_step (fail)
            refine pf.quiet_slice rfl (.tmp 41) none (some (.tmp 42)) rfl Ar N cr 0 p rfl (.inl ⟨rfl, rfl⟩) (.inr rfl) (by omega) (by omega) hcr ?_
            intro A1 c1 hp1 hc11 hc12
            rw [Nat.sub_zero] at hp1 hc11 ⊢
            have HP1 := Lib.hid hp1; clear hp1
            go_simp
            go_big_quiet_step (fail)
            go_big_quiet_step (fail)
            go_big_quiet_step (fail)
            refine pf.quiet_slice rfl (.tmp 45) (some (.tmp 47)) none rfl Ar N cr (p + 1) N rfl (.inr (by rw [Int.natCast_add]; rfl)) (.inl ⟨rfl, rfl⟩) (by omega) (Nat.le_refl _) hcr ?_
            intro A2 c2 hp2 hc21 hc22
            have HP2 := Lib.hid hp2; clear hp2
            go_simp
            refine wpQuiet_nil ?_
            refine plan_one [true] 0 3 (by dsimp only [sel]) (by rfl) rfl (by kernel_rfl) ?_; intro K1 hK1; go_wp2_with fail
            obtain ⟨w5, hw5⟩ : ∃ w5, w5 = (w4.alloc (.cells #[] 122)).drew := ⟨_, rfl⟩
            rw [← hw5]
            have hb45 : Below w4.heap.size w4 w5 := by rw [hw5]; exact bdrew ((Below.refl _ _).alloc (Nat.le_refl _) _) 1
            have hb5 : Below w.heap.size w w5 := H4.out.2.trans (hb45.mono H4.out.2.size)
            have hown0 : w5.ownsRow w.heap.size 122 3 (.slice (some ⟨w4.heap.size, 0, none⟩) 0 0) 0 [] := by
              rw [hw5]
              exact (chg_of (P := fun _ => False) (bdrew (Below.refl _ _) 1)).own (World.ownsRow_made w4 #[] 0 H4.out.2.size (by unfold maxLen; omega) (by simp)) fun _ _ h => h.elim
            have hs5 : w5.heap.size = w4.heap.size + 1 := by rw [hw5]; simp
            have hp5 : PAt w5 Ar l := At.below H4.out.1 hb45 (Nat.le_refl _)
            have H5 := Lib.hid (And.intro hb45 (And.intro hb5 (And.intro hown0 hp5))); clear hb45 hb5 hown0 hp5 hw5
            refine ⟨later_of (chg_of H5.out.1), ?_⟩
            obtain ⟨i0, hinf⟩ := info_parts infoPair
            have HI := Lib.hid hinf; clear hinf
            refine plan_one [false, false, false, false, true] 4 2 (by dsimp only [sel]) (by rfl) rfl (by kernel_rfl) ?_; intro K2 hK2
            go_wp2_with (at_builtin; go_loud (refine wpList_app2 _ rfl (.tmp 40) (.tmp 43) 33 rfl w.heap.size 122 i0 _ 3 56 Try.underlying33 HI.out.1 HI.out.2.1 HI.out.2.2.1 HI.out.2.2.2 rfl (by decide) _ 0 [] rfl H5.out.2.2.1 A1 p c1 (fun j => (pf.row (l.take p)).getD j undef) rfl (by have h := HP1.out w5 l HNL.out.symm H5.out.2.2.2; rw [List.drop_zero] at h; unfold PAt at h; rw [List.length_take, ← HNL.out, Nat.min_eq_left (Nat.le_of_lt hpN)] at h; exact h) (by have h := pf.row_one (l.take p); rw [List.length_take, ← HNL.out, Nat.min_eq_left (Nat.le_of_lt hpN)] at h; exact h) (by unfold maxLen; omega) (by omega) H5.out.2.1.size ?_; intro v2 w6 hown hg hl3; rw [List.nil_append, pf.row_all (l := l.take p) (n := p) (by rw [List.length_take, ← HNL.out, Nat.min_eq_left (Nat.le_of_lt hpN)]), Nat.zero_add] at hown; have hb56 : Below w4.heap.size w4 w6 := H5.out.1.grown hg (by omega) (fun j hj => fo.le_own hj); have H6 := Lib.hid (And.intro hown (And.intro hb56 (And.intro (H4.out.2.trans (hb56.mono H4.out.2.size)) (And.intro (show PAt w6 Ar l from At.below H4.out.1 hb56 (Nat.le_refl _)) (fun j (hj : v2.ownBlock = some j) => fo.lies_le hl3 (by omega) hj))))); clear hown hg hl3 hb56))
            refine ⟨later_of (chg_of H6.out.2.1), ?_⟩
            refine plan_one [false, false, false, false, false, false, false, false, false, true] 9 1 (by dsimp only [sel]) (by rfl) rfl (by kernel_rfl) ?_; intro K3 hK3
            go_wp2_with (at_builtin; go_loud (refine wpList_app2 _ rfl (.tmp 44) (.tmp 48) 33 rfl w.heap.size 122 i0 _ 3 56 Try.underlying33 HI.out.1 HI.out.2.1 HI.out.2.2.1 HI.out.2.2.2 rfl (by decide) _ p _ rfl H6.out.1 A2 (N - (p + 1)) c2 (fun j => (pf.row (l.drop (p + 1))).getD j undef) rfl (by have h := HP2.out w6 l HNL.out.symm H6.out.2.2.2.1; rw [List.take_of_length_le (by rw [List.length_drop, ← HNL.out]; exact Nat.le_refl _)] at h; unfold PAt at h; rw [List.length_drop, ← HNL.out] at h; exact h) (by have h := pf.row_one (l.drop (p + 1)); rw [List.length_drop, ← HNL.out] at h; exact h) (by unfold maxLen; omega) (by omega) H6.out.2.2.1.size ?_; intro v3 w7 hown hg hl6; rw [pf.row_all (l := l.drop (p + 1)) (n := N - (p + 1)) (by rw [List.length_drop, ← HNL.out]), ← pf.row_append] at hown; have H7 := Lib.hid (And.intro hown (H6.out.2.2.1.grown hg H6.out.2.2.1.size fun j hj => (H6.out.1.lt j hj).1)); have hb7 : Below w4.heap.size w4 w7 := H6.out.2.1.grown hg H6.out.2.1.size (fun j hj => H6.out.2.2.2.2 j hj); have HB7 := Lib.hid hb7; clear hown hl6 hg hb7))
            refine ⟨later_of (chg_of HB7.out), ?_⟩
            go_simp
            refine plan_group [false, false, false, false, false, false, false, false, false, false, true] [10] 0 (by dsimp only [sel]) (by rfl) rfl (by kernel_rfl) (by kernel_rfl) (later_of (chg_of HB7.out)) ?_
            (repeat go_big_quiet_step (fail)); refine wpQuiet_nil ?_
            refine wp_plan_end (by kernel_rfl) ?_
            go_wp2_with fail
            go_roundw
            case rel => exact ⟨k + 1, v3, l.take p ++ l.drop (p + 1), rfl, by go_num, by omega, by
              have e : (l.take p ++ l.drop (p + 1)).length = p + (N - (p + 1)) := by rw [List.length_append, List.length_take, List.length_drop, ← HNL.out, Nat.min_eq_left (Nat.le_of_lt hpN)]
              rw [e]; exact H7.out.1, HNX.out.2, by rw [HTK.out]; exact HNX.out.1, H7.out.2⟩
            case measure => simp [intOf]; omega
      · have hhk : y.hasKey = false := by simpa using hhk
        rw [hhk] at e2
        have hisn := HIS.out.nokey (r := y) hhk
        have HNX := Lib.hid hisn; clear hisn
        go_wp2_with fail
        go_roundw
        case rel => exact ⟨k + 1, .slice Ar N cr, l, rfl, by go_num, by omega, by rw [← HNL.out]; exact HOWN.out.alloc _, HBY.out, by rw [HTK.out]; exact HNX.out, HBW.out.trans ((hwa _).mono HBW.out.size)⟩
        case measure => simp [intOf]; omega
    · obtain rfl : k = n := by omega
      have his := HIS.out
      rw [List.take_of_length_le (by rw [HN.out]; exact Nat.le_refl _)] at his
      have HI := Lib.hid his; clear his
      go_wp2_with fail
      go_ret
      exact ⟨v, l, rfl, HOWN.out, HBY.out, HI.out, HBW.out⟩
end Go.Proofs.Ytbbekgliaedigaa

/- The law CleanAll (cordwainlaw14): it answers true, whatever the input. -/
import Derived.Test.YtnlfdhoabbbheaaClQ
import Derived.Test.YtnlfdhoabbbheaaClU
import Derived.Test.YtnlfdhoabbbheaaClH
import Derived.Test.YtnlfdhoabbbheaaOpR
import Derived.BigQuiet
namespace Go.Proofs.Ytnlfdhoabbbheaa
open Go.RowKit Go.Maps
set_option maxRecDepth 100000

theorem cv.bok_left : ∀ (a b : List Bat) (l : Int), kc.BOk l (a ++ b) → kc.BOk l a
  | [], _, _, _ => trivial
  | x :: a, b, _, h => ⟨h.1, cv.bok_left a b x.last h.2⟩
/-- What three cleanings of a log leave. -/
theorem cv.facts {now : Int} {ss : List (List Bat)} {n : Nat} (hn : ss.length = n) (hf : cp.Fit ss) {G : Nat × (ByteArray → Option Int) × Int} (hG : G = kb.go 0 100000 0 (fun _ => none) 0 (ss.take (n - 1)).flatten) {o : List (List Bat)} (ho : o = cl.outs (cl.stays G.2.1 G.2.2 now 5) ss n) :
    o.length = n ∧ cp.Fit o ∧ (∀ (i k : Nat) (r s : Rec), (rc.flat (o.take (n - 1)).flatten)[i]? = some r → (rc.flat (o.take (n - 1)).flatten)[k]? = some s → k < i → r.hasKey = true → s.hasKey = true → strOf r.key ≠ strOf s.key) ∧
      ∀ f2 : Int, (cl.outs (cl.stays (kb.go f2 100000 0 (fun _ => none) f2 (o.take (n - 1)).flatten).2.1 (kb.go f2 100000 0 (fun _ => none) f2 (o.take (n - 1)).flatten).2.2 now 5) o n) = o ∧ cl.gone (cl.stays (kb.go f2 100000 0 (fun _ => none) f2 (o.take (n - 1)).flatten).2.1 (kb.go f2 100000 0 (fun _ => none) f2 (o.take (n - 1)).flatten).2.2 now 5) o n = 0 := by
  subst hn
  have hfo : cp.Fit o := by rw [ho]; exact hf.outs
  have hol : o.length = ss.length := by rw [ho, cl.outs_len]
  have htake : (o.take (ss.length - 1)).flatten = ps.all (cl.stays G.2.1 G.2.2 now 5) (ss.take (ss.length - 1)).flatten := by
    rcases ck.split ss with h | ⟨init, last, h1, h2, h3⟩
    · rw [ho, h]
      rfl
    · rw [ho, h3, h2, h1, ck.outs_snoc, ← ck.all_flat]
      simp
  have hb : kc.BOk (-1) (ss.take (ss.length - 1)).flatten := by
    obtain ⟨be, ac, e1, e2, -⟩ := ck.outs_flat (fun _ => true) ss
    rw [e2]
    have h := hf.bok
    rw [e1] at h
    exact cv.bok_left be ac _ h
  have hle : ((rc.flat (ss.take (ss.length - 1)).flatten).length : Int) ≤ 100000 := by
    have h1 := (cl.flat_le (ss := ss) (ss.length - 1)).1
    have h2 := hf.recs
    omega
  obtain ⟨hm, -⟩ := ct.built (f := 0) (M := 100000) hb (by omega)
  have hu := ct.covered (f := 0) (M := 100000) hb hle
  rw [← hG] at hm hu
  refine ⟨hol, hfo, fun i k r s hr hs hki h1 h2 => ?_, fun f2 => ?_⟩
  · rw [htake] at hr hs
    exact ct.apart hb hm hu hr hs hki h1 h2
  · have hb2 : kc.BOk (-1) (o.take (ss.length - 1)).flatten := by
      rw [htake]
      have h := ct.bok (cl.stays G.2.1 G.2.2 now 5) (ss.take (ss.length - 1)).flatten [] (-1) (-1) (by simpa using hb) (Int.le_refl _)
      rwa [List.append_nil] at h
    obtain ⟨hm2, -⟩ := ct.built (f := f2) (M := 100000) hb2 (by omega)
    rw [htake] at hm2
    have hst := ct.again hb hm hu hm2
    rw [← htake] at hst
    have := ct.outs_id (F := cl.stays (kb.go f2 100000 0 (fun _ => none) f2 (o.take (ss.length - 1)).flatten).2.1 (kb.go f2 100000 0 (fun _ => none) f2 (o.take (ss.length - 1)).flatten).2.2 now 5) (ss := o) hfo.full (by rw [hol]; exact hst)
    rwa [hol] at this

set_option maxHeartbeats 16000000 in
theorem law14.cleanall (A : Option Addr) (n c : Nat) (ss : List (List Bat)) (now : Int) (w : World) (hcm : ss.length = n ∧ n ≤ c ∧ c ≤ maxLen) (hss : cl.SegsAt w A ss) :
    Calls Try.prog 7 #[.slice A n c, .int .i64 now] w fun e w' => e = .returned (.bool true) ∧ Below w.heap.size w w' := by
  obtain ⟨hn, hnc, hcm⟩ := hcm
  have HAW := Lib.hid (fun wx => law14.awake_any wx)
  have hmay := law14.may_any A n c ss w hss hn (Nat.le_trans hnc hcm)
  have HSS := Lib.hid hss; clear hss
  have HMAY := Lib.hid hmay; clear hmay
  have HN := Lib.hid hn; clear hn
  unfold maxLen at hcm
  go_enter Try.func7, Try.ntmps7
  go_wp2_with fail
  refine HMAY.out.mono ?_
  rintro e w2 ⟨⟨b, rfl, hm⟩, hb2⟩
  have HM := Lib.hid hm; clear hm HMAY
  have HB2 := Lib.hid hb2; clear hb2
  by_cases hbad : b = false ∨ (b = true ∧ now < 0) ∨ (b = true ∧ ¬ now < 0 ∧ 1125899906842624 < now) ∨ (b = true ∧ ¬ now < 0 ∧ ¬ 1125899906842624 < now ∧ (n : Int) < 2)
  · as_aux_lemma =>
      rcases hbad with rfl | ⟨rfl, h1⟩ | ⟨rfl, h1, h2⟩ | ⟨rfl, h1, h2, h3⟩
      all_goals
        go_wp2_with fail
        refine (HAW.out w2).mono ?_
        rintro e w3 ⟨rfl, hb3⟩
        have HB3 := Lib.hid (show Below w.heap.size w w3 from HB2.out.trans (hb3.mono HB2.out.size)); clear hb3
        go_wp2_with fail
        go_ret
        exact ⟨rfl, HB3.out⟩
  have hb : b = true := by
    cases b with
    | false => exact absurd (.inl rfl) hbad
    | true => rfl
  subst hb
  have h0 : ¬ now < 0 := fun h => hbad (.inr (.inl ⟨rfl, h⟩))
  have h1 : ¬ 1125899906842624 < now := fun h => hbad (.inr (.inr (.inl ⟨rfl, h0, h⟩)))
  have h2 : ¬ (n : Int) < 2 := fun h => hbad (.inr (.inr (.inr ⟨rfl, h0, h1, h⟩)))
  clear hbad
  have hM := HM.out rfl
  have hF := hM.fit
  have hn20 : n ≤ 20 := by rw [← HN.out]; exact hM.len
  have hn2 : 2 ≤ n := by omega
  have hmost : kb.Most 100000 100000 := by unfold kb.Most; omega
  have hall := fun wx (hb : Below w.heap.size w wx) => cl.all_any A n c ss 0 now 100000 100000 5 0 0 0 0 0 false false wx (HSS.out.below hb (Nat.le_refl _)) HN.out (by omega) hF.small (by have := hF.recs; omega) hF.times hmost ⟨by omega, by omega⟩ ⟨by omega, by omega⟩
  obtain ⟨G, hG⟩ : ∃ G, G = kb.go 0 100000 0 (fun _ => none) 0 (ss.take (n - 1)).flatten := ⟨_, rfl⟩
  rw [← hG] at hall
  unfold cl.AllPost at hall
  obtain ⟨o, ho⟩ : ∃ o, o = cl.outs (cl.stays G.2.1 G.2.2 now 5) ss n := ⟨_, rfl⟩
  rw [← ho] at hall
  obtain ⟨hol, hfo, hap, hag⟩ := cv.facts HN.out hF hG ho
  generalize cl.gone (cl.stays G.2.1 G.2.2 now 5) ss n = gn at *
  generalize G.2.2 = up at *
  have HALL := Lib.hid hall; clear hall
  have HO := Lib.hid (And.intro hol (And.intro hfo (And.intro hap hag))); clear hol hfo hap hag ho hG hM hF HM
  go_upto_region 4 with fail
  obtain ⟨g, hg⟩ : ∃ g, g = w2.heap.size := ⟨_, rfl⟩
  rw [← hg]
  obtain ⟨w3, hw3⟩ : ∃ w3, w3 = w2.alloc (.cells #[.int .i64 0, .int .i64 0, .int .i64 0, .int .i64 0, .int .i64 0, .bool false, .int .i64 5, .int .i64 100000, .bool false] 24) := ⟨_, rfl⟩
  rw [← hw3]
  have hk3 : Blk w3 g 24 #[.int .i64 0, .int .i64 0, .int .i64 0, .int .i64 0, .int .i64 0, .bool false, .int .i64 5, .int .i64 100000, .bool false] := by rw [hw3, hg]; exact Blk.new _ _ _
  have hb3 : Below w2.heap.size w2 w3 := by rw [hw3]; exact (Below.refl _ _).alloc (Nat.le_refl _) _
  have HB3 := Lib.hid (And.intro (HB2.out.trans (hb3.mono HB2.out.size)) hk3); clear hb3 hk3 hw3 hg HB2
  have e0 := HB3.out.2.cell 0 (v := .int .i64 0) rfl
  have e1 := HB3.out.2.cell 1 (v := .int .i64 0) rfl
  have e2 := HB3.out.2.cell 2 (v := .int .i64 0) rfl
  have e3 := HB3.out.2.cell 3 (v := .int .i64 0) rfl
  have e4 := HB3.out.2.cell 4 (v := .int .i64 0) rfl
  have e5 := HB3.out.2.cell 5 (v := .bool false) rfl
  have e6 := HB3.out.2.cell 6 (v := .int .i64 5) rfl
  have e7 := HB3.out.2.cell 7 (v := .int .i64 100000) rfl
  have e8 := HB3.out.2.cell 8 (v := .bool false) rfl
  have hgw := HB3.out.2.lt
  go_wp2_with fail
  refine (HALL.out w3 HB3.out.1).mono ?_
  rintro e w4 ⟨A4, k4, rfl, hk4, hm4, hseg, hb4⟩
  have HB4 := Lib.hid (And.intro (HB3.out.1.trans (hb4.mono HB3.out.1.size)) ((chg_of (P := fun _ => False) hb4).blk HB3.out.2 id)); clear hb4 HB3 e0 e1 e2 e3 e4 e5 e6 e7 e8 hgw HALL
  have HSEG := Lib.hid hseg; clear hseg
  unfold maxLen at hm4
  go_wp2_with fail
  have hts : (o.take (n - 1)).length = n - 1 := by rw [List.length_take, HO.out.1]; omega
  have htl := (cl.flat_le (ss := o) (n - 1)).2
  have htr := (cl.flat_le (ss := o) (n - 1)).1
  have hfo := HO.out.2.1
  have hoall := law14.all_any A4 (n - 1) k4 (o.take (n - 1)) w4 (HSEG.out.take (n - 1)) hts (by omega) (by have := hfo.size; omega)
  have hall2 : ∀ (f2 : Int) (wx : World), Below w4.heap.size w4 wx → Calls Try.prog 10 #[.slice A4 n k4, .int .i64 f2, .agg #[.int .i64 0, .int .i64 0, .int .i64 0, .int .i64 0, .int .i64 0, .bool false, .int .i64 5, .int .i64 100000, .bool false], .int .i64 now] wx fun e w' =>
      ∃ B d U, e = .returned (.tuple #[.slice B n d, .int .i64 U, .int .i64 0]) ∧ cl.SegsAt w' B o ∧ Below wx.heap.size wx w' := fun f2 wx hb =>
    (cl.all_any A4 n k4 o f2 now 100000 100000 5 0 0 0 0 0 false false wx (HSEG.out.below hb (Nat.le_refl _)) HO.out.1 (by omega) hfo.small (by have := hfo.recs; omega) hfo.times hmost ⟨by omega, by omega⟩ ⟨by omega, by omega⟩).mono fun e w' h => by
      obtain ⟨B, d, e1, -, -, e4, e5⟩ := h
      rw [(HO.out.2.2.2 f2).1] at e4
      rw [(HO.out.2.2.2 f2).2] at e1
      exact ⟨B, d, _, e1, e4, e5⟩
  have hsm := fun (B : Option Addr) (d : Nat) (wx : World) (hb : Below w4.heap.size w4 wx) (hB : cl.SegsAt wx B o) => law14.same_true B n d A4 k4 o wx HO.out.1 (by omega) (fun bs hbs => by
    have h1 := (List.sublist_flatten_of_mem hbs).length_le
    have h2 := hfo.size
    omega) hB (HSEG.out.below hb (Nat.le_refl _))
  have HALL2 := Lib.hid hall2; clear hall2
  have HSM := Lib.hid hsm; clear hsm
  have hap := HO.out.2.2.1
  have hr4 := hfo.recs
  have hs4 := hfo.size
  generalize (o.take (n - 1)).flatten = ts at *
  obtain ⟨rs, hrs⟩ : ∃ rs, rs = rc.flat ts := ⟨_, rfl⟩
  rw [← hrs] at hap htr
  have hl4 : ts.length ≤ 4000 := by omega
  have hr5 : rs.length ≤ 4000 := by omega
  have HAP := Lib.hid hap; clear hap hts htl htr hfo hr4 hs4
  have HOA := Lib.hid hoall; clear hoall
  refine HOA.out.mono ?_
  rintro e w5 ⟨A5, k5, rfl, -, -, hba5, hb5⟩
  have hrc := rc.records_any A5 ts ts.length k5 w5 hba5 rfl (by omega) (by rw [← hrs]; omega)
  unfold rc.Post at hrc
  rw [← hrs] at hrc
  have HRC := Lib.hid hrc; clear hrc hba5 hrs
  have HB5 := Lib.hid hb5; clear hb5 HOA
  go_wp2_with fail
  refine HRC.out.mono ?_
  rintro e w6 ⟨⟨A6, k6, rfl, hrv6⟩, hb6⟩
  have HB6 := Lib.hid (show Below w4.heap.size w4 w6 from HB5.out.trans (hb6.mono HB5.out.size)); clear hb6 HB5 HRC
  have HRV := Lib.hid hrv6; clear hrv6
  obtain ⟨K, hK⟩ : ∃ K, K = rs.length := ⟨_, rfl⟩
  rw [← hK] at HRV hr5 ⊢
  have HK := Lib.hid hK; clear hK
  go_wp2_with fail
  go_loopw [10] (fun s10 wx => ∃ (i q : Nat), s10 = .int .i64 (i : Int) ∧ i ≤ K ∧ wx = w6.drewN q) (fun s10 _ => K - (intOf s10).toNat)
  case atStart => exact ⟨0, 0, rfl, by omega, rfl⟩
  case round =>
    obtain ⟨i, q, rfl, hi, rfl⟩ := hrel
    by_cases hlt : i < K
    · have hlt' : (i : Int) < (K : Int) := by omega
      obtain ⟨r, hr⟩ : ∃ r, rs[i]? = some r := ⟨_, List.getElem?_eq_getElem (by rw [← HK.out]; exact hlt)⟩
      obtain ⟨pr, off, c', kv, vv, hA, -, -, hpr, -, -, a2, a3, -, -, hkk, -, -, -⟩ := HRV.out.at' hr
      rw [← HK.out] at hA
      obtain ⟨rfl, rfl⟩ : A6 = some ⟨pr, off, none⟩ ∧ k6 = c' := by simpa using hA
      clear hA
      obtain ⟨Ak, kcap, rfl, hka, hk1, hk2, -⟩ := hkk
      have hcx := fun q => conv_any (P := Try.prog) (c := kcap) Try.underlying32 Try.underlying5 Try.underlying9 r.key rfl (hka.drew q)
      have hkl : r.key.length ≤ 9223372036854775807 := by unfold maxLen at hk2; omega
      have HCX := Lib.hid hcx; clear hcx hka hk1 hk2
      have HRI := Lib.hid hr; clear hr
      go_wp2_with fail
      go_loopw [11] (fun s11 wx => ∃ (k q : Nat), s11 = .int .i64 (k : Int) ∧ k ≤ i ∧ wx = w6.drewN q) (fun s11 _ => i - (intOf s11).toNat)
      case atStart => exact ⟨0, q, rfl, by omega, rfl⟩
      case round =>
        obtain ⟨k, q2, rfl, hk, rfl⟩ := hrel
        by_cases hki : k < i
        · as_aux_lemma =>
            have hki' : (k : Int) < (i : Int) := by omega
            have hkK' : (k : Int) < (K : Int) := by omega
            obtain ⟨y, hy⟩ : ∃ y, rs[k]? = some y := ⟨_, List.getElem?_eq_getElem (by rw [← HK.out]; omega)⟩
            have hne := HAP.out i k r y HRI.out hy hki
            obtain ⟨p2, o2, c2, kv2, vv2, hA2, -, -, -, -, -, d2, d3, -, -, hkk2, -, -, -⟩ := HRV.out.at' hy
            rw [← HK.out] at hA2
            obtain ⟨⟨rfl, rfl⟩, rfl⟩ : (pr = p2 ∧ off = o2) ∧ k6 = c2 := by simpa using hA2
            clear hA2
            obtain ⟨Ar, cr, rfl, hra, hr1, hr2, -⟩ := hkk2
            have hcr := fun q => conv_any (P := Try.prog) (c := cr) Try.underlying32 Try.underlying5 Try.underlying9 y.key rfl (hra.drew q)
            have hcx := HCX.out
            have hkr : y.key.length ≤ 9223372036854775807 := by unfold maxLen at hr2; omega
            clear hy hra hr1 hr2
            have b2 : (w6.drewN q2).cell? ⟨pr, off + i * 6 + 2, none⟩ = some (.bool r.hasKey) := a2
            have b3 : (w6.drewN q2).cell? ⟨pr, off + i * 6 + 3, none⟩ = some (.slice Ak r.key.length kcap) := a3
            have d2' : (w6.drewN q2).cell? ⟨pr, off + k * 6 + 2, none⟩ = some (.bool y.hasKey) := d2
            have d3' : (w6.drewN q2).cell? ⟨pr, off + k * 6 + 3, none⟩ = some (.slice Ar y.key.length cr) := d3
            generalize hlr : y.key.length = lr at *
            generalize hlx : r.key.length = lx at *
            have hcases : r.hasKey = false ∨ (r.hasKey = true ∧ y.hasKey = false) ∨ (r.hasKey = true ∧ y.hasKey = true ∧ strOf r.key ≠ strOf y.key) := by
              cases h1 : r.hasKey with
              | false => exact .inl rfl
              | true =>
                cases h2 : y.hasKey with
                | false => exact .inr (.inl ⟨rfl, rfl⟩)
                | true => exact .inr (.inr ⟨rfl, rfl, hne h1 h2⟩)
            clear hne
            rcases hcases with e1 | ⟨e1, e2⟩ | ⟨e1, e2, e3⟩
            · rw [e1] at a2 b2
              go_wp2_with fail
              go_quiet (fail)
              go_wp2_with fail
              go_roundw
              case rel => exact ⟨k + 1, _, by go_num, by omega, rfl⟩
              case measure => simp [intOf]; omega
            · rw [e1] at a2 b2
              rw [e2] at d2 d2'
              go_wp2_with fail
              go_quiet (fail)
              go_wp2_with fail
              go_roundw
              case rel => exact ⟨k + 1, _, by go_num, by omega, rfl⟩
              case measure => simp [intOf]; omega
            · rw [e1] at a2 b2
              rw [e2] at d2 d2'
              have h5 : ((strOf r.key).toList == (strOf y.key).toList) = false := text_ne5 e3
              clear e3
              go_wp2_with fail
              go_quiet (fail)
              go_wp2_with fail
              go_roundw
              case rel => exact ⟨k + 1, _, by go_num, by omega, rfl⟩
              case measure => simp [intOf]; omega
        · obtain rfl : k = i := by omega
          go_wp2_with fail
          go_roundw
          case rel => exact ⟨k + 1, _, by go_num, by omega, rfl⟩
          case measure => simp [intOf]; omega
    · obtain rfl : i = K := by omega
      obtain ⟨w7, hw7⟩ : ∃ w7, w7 = w6.drewN q := ⟨_, rfl⟩
      have hb7 : Below w4.heap.size w4 w7 := by rw [hw7]; exact bdrew HB6.out q
      rw [← hw7]
      have HB7 := Lib.hid (And.intro hb7 ((chg_of (P := fun _ => False) hb7).blk HB4.out.2 id)); clear hb7 hw7 HB6 HRV HAP HK
      have e0 := HB7.out.2.cell 0 (v := .int .i64 0) rfl
      have e1 := HB7.out.2.cell 1 (v := .int .i64 0) rfl
      have e2 := HB7.out.2.cell 2 (v := .int .i64 0) rfl
      have e3 := HB7.out.2.cell 3 (v := .int .i64 0) rfl
      have e4 := HB7.out.2.cell 4 (v := .int .i64 0) rfl
      have e5 := HB7.out.2.cell 5 (v := .bool false) rfl
      have e6 := HB7.out.2.cell 6 (v := .int .i64 5) rfl
      have e7 := HB7.out.2.cell 7 (v := .int .i64 100000) rfl
      have e8 := HB7.out.2.cell 8 (v := .bool false) rfl
      have hgw := HB7.out.2.lt
      go_wp2_with fail
      refine (HALL2.out 0 w7 HB7.out.1).mono ?_
      rintro e w8 ⟨A8, k8, U8, rfl, hseg8, hb8⟩
      have hb48 := HB7.out.1.trans (hb8.mono HB7.out.1.size)
      have HB8 := Lib.hid (And.intro hb48 (And.intro ((chg_of (P := fun _ => False) hb48).blk HB4.out.2 id) hseg8)); clear hb8 hb48 hseg8 e0 e1 e2 e3 e4 e5 e6 e7 e8 hgw HB7
      have e0 := HB8.out.2.1.cell 0 (v := .int .i64 0) rfl
      have e1 := HB8.out.2.1.cell 1 (v := .int .i64 0) rfl
      have e2 := HB8.out.2.1.cell 2 (v := .int .i64 0) rfl
      have e3 := HB8.out.2.1.cell 3 (v := .int .i64 0) rfl
      have e4 := HB8.out.2.1.cell 4 (v := .int .i64 0) rfl
      have e5 := HB8.out.2.1.cell 5 (v := .bool false) rfl
      have e6 := HB8.out.2.1.cell 6 (v := .int .i64 5) rfl
      have e7 := HB8.out.2.1.cell 7 (v := .int .i64 100000) rfl
      have e8 := HB8.out.2.1.cell 8 (v := .bool false) rfl
      have hgw := HB8.out.2.1.lt
      go_wp2_with fail
      refine (HALL2.out up w8 HB8.out.1).mono ?_
      rintro e w9 ⟨A9, k9, U9, rfl, hseg9, hb9⟩
      have hb49 := HB8.out.1.trans (hb9.mono HB8.out.1.size)
      have HB9 := Lib.hid (And.intro hb49 (And.intro (HB8.out.2.2.below hb9 (Nat.le_refl _)) hseg9)); clear hb9 hb49 hseg9 e0 e1 e2 e3 e4 e5 e6 e7 e8 hgw HB8
      go_wp2_with fail
      refine (HSM.out A8 k8 w9 HB9.out.1 HB9.out.2.1).mono ?_
      rintro e w10 ⟨rfl, hb10⟩
      have hb410 := HB9.out.1.trans (hb10.mono HB9.out.1.size)
      have HB10 := Lib.hid (And.intro hb410 (HB9.out.2.2.below hb10 (Nat.le_refl _))); clear hb10 hb410 HB9
      go_wp2_with fail
      refine (HSM.out A9 k9 w10 HB10.out.1 HB10.out.2).mono ?_
      rintro e w11 ⟨rfl, hb11⟩
      have hb411 := HB10.out.1.trans (hb11.mono HB10.out.1.size)
      have HB11 := Lib.hid (HB4.out.1.trans (hb411.mono HB4.out.1.size)); clear hb11 hb411 HB10
      go_wp2_with fail
      refine (HAW.out w11).mono ?_
      rintro e w12 ⟨rfl, hb12⟩
      have HB12 := Lib.hid (show Below w.heap.size w w12 from HB11.out.trans (hb12.mono HB11.out.size)); clear hb12
      go_wp2_with fail
      go_ret
      exact ⟨rfl, HB12.out⟩
end Go.Proofs.Ytnlfdhoabbbheaa

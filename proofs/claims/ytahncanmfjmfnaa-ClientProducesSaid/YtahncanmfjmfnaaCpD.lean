/- The walk of the law ClientProduces. -/
import Derived.Test.YtahncanmfjmfnaaCpE
import Derived.Deep.CutBlock
namespace Go.Proofs.Ytahncanmfjmfnaa
open Go.RowKit Go.Maps
set_option maxRecDepth 100000

theorem cp.at_two (w : World) (a b : Int) (t : TypeId) : At (w.alloc (.cells #[.int .i64 a, .int .i64 b] t)) (some ⟨w.heap.size, 0, none⟩) 2 (fun j => .int .i64 ([a, b].getD j 0)) :=
  (At.new w #[.int .i64 a, .int .i64 b] t (fr := (0, 0)) (n := 2) rfl).congr fun j hj => by
    have hj' : j = 0 ∨ j = 1 := by omega
    rcases hj' with rfl | rfl <;> rfl
set_option maxHeartbeats 8000000 in
theorem law24.produces (id epoch : Int) (A : Option Addr) (n c : Nat) (xs : List CStep) (w : World) (hx : xs.length = n ∧ n ≤ c ∧ c ≤ maxLen) (hat : CSteps w A xs) (hid : intOk id) (hep : intOk epoch) :
    Calls Try.prog 3 #[.int .i64 id, .int .i64 epoch, .slice A n c] w fun e w' => e = .returned (.bool true) ∧ Below w.heap.size w w' := by
  obtain ⟨hx1, hx2, hx3⟩ := hx
  have haw : ∀ wx, Below w.heap.size w wx → Calls Try.prog 9 #[] wx fun a w' => a = .returned (.bool true) ∧ Below w.heap.size w w' := fun wx h => by
    refine (law24.awake wx).mono ?_
    rintro a w' ⟨h1, h2⟩
    exact ⟨h1, h.trans (h2.mono h.size)⟩
  have HAX := Lib.hid haw; clear haw
  have HX := Lib.hid (And.intro hat hx1); clear hat hx1
  unfold maxLen at hx3
  unfold intOk at hid hep
  go_enter Try.func3, Try.ntmps3
  go_wp2_with fail
  go_loopw [7, 8] (fun s i wx => ∃ (k : Nat) (t : Int), k ≤ n ∧ i = .int .i64 (k : Int) ∧ s = .int .i64 t ∧ 0 ≤ t ∧ t ≤ 1099511627776 ∧ Below w.heap.size w wx) (fun _ i _ => n - (intOf i).toNat)
  case atStart => exact ⟨0, 0, by omega, rfl, rfl, by omega, by omega, Below.refl _ _⟩
  case round =>
    obtain ⟨k, t, hk, rfl, rfl, ht0, ht1, hb⟩ := hrel
    have HB := Lib.hid hb; clear hb
    by_cases hgo : k < n ∧ t ≤ 1000
    · as_aux_lemma =>
      obtain ⟨hlt, ht2⟩ := hgo
      have hlt' : (k : Int) < (n : Int) := by omega
      have dt : decide (t ≤ 1000) = true := decide_eq_true ht2
      obtain ⟨x, hxx⟩ : ∃ x, xs[k]? = some x := ⟨_, List.getElem?_eq_getElem (by have := HX.out.2; omega)⟩
      obtain ⟨b, off, rfl, hbb, -, c1, -⟩ := (HX.out.1.below HB.out (Nat.le_refl _)).at' k hxx
      obtain ⟨sk, hsk⟩ : ∃ sk, sk = x.key.s := ⟨_, rfl⟩
      have hss : sk.size ≤ 9223372036854775807 := by have := x.key.hs; rw [hsk]; unfold maxLen at this; omega
      rw [← hsk] at c1
      clear hxx hsk
      have hsum : ∀ (wz : World), Calls Try.prog 8 #[.int .i64 t, .slice (some ⟨wz.heap.size, 0, none⟩) 2 2] (wz.alloc (.cells #[.int .i64 (sk.size : Int), .int .i64 1] 3)) fun e w' => ∃ t2, e = .returned (.int .i64 t2) ∧ 0 ≤ t2 ∧ t2 ≤ 1099511627776 ∧ wz.alloc (.cells #[.int .i64 (sk.size : Int), .int .i64 1] 3) = w' := fun wz => by
        refine (alike.sum_any t _ 2 2 [(sk.size : Int), 1] _ ht0 ht1 (by omega) rfl (cp.at_two wz _ _ _) (fun y hy => by simp at hy; omega)).mono ?_
        rintro a w' ⟨rfl, h⟩
        refine ⟨_, rfl, ?_, ?_, h⟩
        · unfold alike.sum; simp; omega
        · unfold alike.sum; simp; omega
      have HSUM := Lib.hid hsum; clear hsum
      go_wp2_with (go_at_call 8; refine (HSUM.out wr).mono ?_; rintro a w' ⟨t2, rfl, h1, h2, h3⟩; subst h3)
      exact ⟨⟨k + 1, t2, by omega, by go_num, rfl, h1, h2, HB.out.alloc HB.out.size _⟩, by simp [intOf]; omega⟩
    · by_cases ht : 1000 < t
      · as_aux_lemma =>
        have dt : decide (t ≤ 1000) = false := decide_eq_false (by omega)
        have dt2 : decide (1000 < t) = true := decide_eq_true ht
        by_cases hlt : k < n
        · have hlt' : (k : Int) < (n : Int) := by omega
          go_wp2_with (go_at_call 9; refine (HAX.out wr HB.out).mono ?_; rintro a w9 ⟨rfl, hb⟩; have HB9 := Lib.hid hb; clear hb)
          go_ret
          exact ⟨rfl, HB9.out⟩
        · obtain rfl : k = n := by omega
          go_wp2_with (go_at_call 9; refine (HAX.out wr HB.out).mono ?_; rintro a w9 ⟨rfl, hb⟩; have HB9 := Lib.hid hb; clear hb)
          go_ret
          exact ⟨rfl, HB9.out⟩
      obtain rfl : n = k := by omega
      have dt2 : decide (1000 < t) = false := decide_eq_false ht
      have dt : decide (t ≤ 1000) = true := decide_eq_true (by omega)
      clear hgo
      by_cases h60 : 60 < n
      · have d60 : decide (60 < (n : Int)) = true := decide_eq_true (by omega)
        go_wp2_with (go_at_call 9; refine (HAX.out wr HB.out).mono ?_; rintro a w9 ⟨rfl, hb⟩; have HB9 := Lib.hid hb; clear hb)
        go_ret
        exact ⟨rfl, HB9.out⟩
      have d60 : decide (60 < (n : Int)) = false := decide_eq_false (by omega)
      by_cases hok : (1 ≤ id ∧ id ≤ 1099511627776) ∧ (0 ≤ epoch ∧ epoch ≤ 32767)
      case neg =>
        have hbad := cn.new_bad id epoch wr hok
        have HBAD := Lib.hid hbad; clear hbad
        have hcase : (decide (1 ≤ id) = false) ∨ (decide (1 ≤ id) = true ∧ decide (id ≤ 1099511627776) = false) ∨ (decide (1 ≤ id) = true ∧ decide (id ≤ 1099511627776) = true ∧ decide (0 ≤ epoch) = false) ∨ (decide (1 ≤ id) = true ∧ decide (id ≤ 1099511627776) = true ∧ decide (0 ≤ epoch) = true ∧ decide (epoch ≤ 32767) = false) := by
          simp only [decide_eq_false_iff_not, decide_eq_true_eq]
          omega
        clear hok
        rcases hcase with e1 | ⟨e1, e2⟩ | ⟨e1, e2, e3⟩ | ⟨e1, e2, e3, e4⟩
        all_goals
          go_wp2_with (first
            | (go_at_call 9; refine (HAX.out wr HB.out).mono ?_; rintro a w9 ⟨rfl, hb⟩; have HB9 := Lib.hid hb; clear hb)
            | (go_at_call 10; refine HBAD.out.mono ?_; rintro e w2 ⟨rfl, h1⟩; subst h1))
          go_ret
          exact ⟨rfl, HB9.out⟩
      have e1 : decide (1 ≤ id) = true := decide_eq_true hok.1.1
      have e2 : decide (id ≤ 1099511627776) = true := decide_eq_true hok.1.2
      have e3 : decide (0 ≤ epoch) = true := decide_eq_true hok.2.1
      have e4 : decide (epoch ≤ 32767) = true := decide_eq_true hok.2.2
      have hnew := cn.new_ok id epoch wr hok.1 hok.2
      have HN := Lib.hid hnew; clear hnew hok
      go_upto_region 15 with (go_at_call 10; refine HN.out.mono ?_; rintro e w2 ⟨p, rfl, h1, h2⟩; have H2 := Lib.hid (And.intro h1 h2); clear h1 h2)
      clear e1 e2 e3 e4 dt dt2 d60 HN
      obtain ⟨b13, hb13⟩ : ∃ b13, b13 = w2.heap.size := ⟨_, rfl⟩
      obtain ⟨w3, hw3⟩ : ∃ w3, w3 = w2.alloc (.cells cn.zero 35) := ⟨_, rfl⟩
      have hk3 : Blk w3 b13 35 cn.zero := by rw [hw3, hb13]; exact Blk.new _ _ _
      have hb23 : Below w2.heap.size w2 w3 := by rw [hw3]; exact (Below.refl _ _).alloc (Nat.le_refl _) _
      have hst : cp.St w w3 p id epoch b13 (.slice none 0 0) none (fun _ => 0) (cn.fresh wr w2) [] 0 0 0 :=
        ⟨H2.out.1.below hb23, PL.nil, PlAt.nil _ _, Nat.le_refl _, ⟨Int.le_refl _, Int.le_refl _⟩, fun _ => ⟨Int.le_refl _, by omega⟩, ⟨_, rfl, hk3⟩, fun q => by have := q.2; omega, fun g hg => by simp [Value.ownBlock] at hg,
          fun g hg => Nat.le_trans HB.out.size hg.1, by rw [hb13]; exact Nat.le_trans HB.out.size H2.out.2.size, (HB.out.trans (H2.out.2.mono HB.out.size)).trans (hb23.mono (Nat.le_trans HB.out.size H2.out.2.size))⟩
      go_upto_region 16 with fail
      unfold cn.zero at hw3
      rw [← hw3, ← hb13]
      have HST := Lib.hid hst; clear hst hk3 hb23 hw3 hb13 H2 HB
      clear ht0 ht1 hk ht
      go_wp2_with fail
      go_loopw [12, 14, 15, 16, 17] (fun dn way cc ct i wx => ∃ (j : Nat) (u : Option CSent) (D : SlotK → Int) (F : Nat → Prop) (P : List (SlotK × Int)) (C Ct : Int), j ≤ n ∧ i = .int .i64 (j : Int) ∧ way = .bool u.isSome ∧ cc = .int .i64 C ∧ ct = .int .i64 Ct ∧ cp.St w wx p id epoch b13 dn u D F P C Ct j) (fun _ _ _ _ i _ => n - (intOf i).toNat)
      case atStart => exact ⟨0, none, _, _, [], 0, 0, by omega, rfl, rfl, rfl, rfl, HST.out⟩
      case round => as_aux_lemma =>
        obtain ⟨j, u, D, F, P, C, Ct, hj, rfl, rfl, rfl, rfl, hst⟩ := hrel
        have HS := Lib.hid hst; clear hst HST
        obtain ⟨Ad, cd, rfl⟩ := HS.out.row.slice
        have hCj : 0 ≤ C ∧ C ≤ 60 := by have := HS.out.corr; omega
        have hP60 : P.length ≤ 60 := by have := HS.out.len; omega
        by_cases hlt : j < n
        · have hlt' : (j : Int) < (n : Int) := by omega
          obtain ⟨x, hxx⟩ : ∃ x, xs[j]? = some x := ⟨_, List.getElem?_eq_getElem (by have := HX.out.2; omega)⟩
          obtain ⟨bA, off, rfl, hbA, c0, c1, c2, c3, c4, i0, i3, i4⟩ := (HX.out.1.below HS.out.below (Nat.le_refl _)).at' j hxx
          obtain ⟨kd, hkd⟩ : ∃ kd, kd = x.kind := ⟨_, rfl⟩
          obtain ⟨sz, hsz⟩ : ∃ sz, sz = x.n := ⟨_, rfl⟩
          obtain ⟨code, hcode⟩ : ∃ code, code = x.code := ⟨_, rfl⟩
          obtain ⟨key, hkey⟩ : ∃ key, key = x.key := ⟨_, rfl⟩
          rw [← hkd] at c0 i0
          rw [← hkey] at c1 c2
          rw [← hsz] at c3 i3
          rw [← hcode] at c4 i4
          unfold intOk at i0 i3 i4
          clear hkd hsz hcode hkey hxx
          go_upto_region 22 with fail
          obtain ⟨b18, hb18⟩ : ∃ b, b = wr.heap.size := ⟨_, rfl⟩
          obtain ⟨w1, hw1⟩ : ∃ w1, w1 = wr.alloc (.cells #[.int .i64 kd, .string key.s, .int .i64 key.p, .int .i64 sz, .int .i64 code] 25) := ⟨_, rfl⟩
          rw [← hw1, ← hb18]
          have hk18 : Blk w1 b18 25 #[.int .i64 kd, .string key.s, .int .i64 key.p, .int .i64 sz, .int .i64 code] := by rw [hw1, hb18]; exact Blk.new _ _ _
          have hc1 : Chg wr w1 (fun _ => False) := by rw [hw1]; exact Chg.alloc _ _ _
          have hst1 := HS.out.keep hc1
          have hF18 : ¬ F b18 := fun q => by have := HS.out.cn.lt.2 _ q; omega
          have hb1813 : b18 ≠ b13 := by obtain ⟨cs, -, h⟩ := HS.out.now.blk; have := h.lt; omega
          have hapd : (Value.slice Ad P.length cd).ownBlock ≠ some b18 := fun e => by have := (HS.out.row.lt e).2; omega
          have hold : w.heap.size ≤ b18 := by have := HS.out.below.size; omega
          clear c0 c1 c2 c3 c4 hbA
          have H1 := Lib.hid (And.intro hk18 (And.intro hst1 (And.intro hF18 (And.intro hb1813 (And.intro hapd hold))))); clear hk18 hst1 hF18 hb1813 hapd hold hc1 hw1 hb18
          clear HS
          go_wp2_with fail
          go_loopw [19, 20] (fun kk i wx => ∃ (q : Nat) (K : Int), q ≤ P.length ∧ i = .int .i64 (q : Int) ∧ kk = .int .i64 K ∧ pl.Found P key q K ∧ Chg w1 wx (fun _ => False)) (fun _ i _ => P.length - (intOf i).toNat)
          case atStart => exact ⟨0, -1, by omega, rfl, rfl, pl.found_zero _ _, Chg.refl _ _⟩
          case round => as_aux_lemma =>
            obtain ⟨q, K, hq, rfl, rfl, hfd⟩ := hrel
            have hrow1 := (H1.out.2.1.keep hfd.2).row
            have hkb := hfd.2.blk H1.out.1 fun q => q
            by_cases hlq : q < P.length
            · have hlq' : (q : Int) < (P.length : Int) := by omega
              obtain ⟨k, hk⟩ : ∃ k, P[q]? = some k := ⟨_, List.getElem?_eq_getElem hlq⟩
              obtain ⟨gd, rfl, -, hgl, d0, d1, -, -⟩ := hrow1.at' hk
              have s1 := hkb.cell 1 (v := .string key.s) rfl
              have s2 := hkb.cell 2 (v := .int .i64 key.p) rfl
              have sl := hkb.lt
              have HK := Lib.hid (And.intro hk hfd); clear hk hfd hrow1 hkb
              by_cases e1 : k.1.s = key.s
              · by_cases e2 : k.1.p = key.p
                · as_aux_lemma =>
                  have HKE := Lib.hid (slot_ext e1 e2)
                  rw [e1] at d0
                  rw [e2] at d1
                  clear e1 e2
                  go_wp2_with fail
                  go_quiet (fail)
                  go_wp2_with fail
                  exact ⟨⟨q + 1, (q : Int), by omega, by go_num, rfl, pl.found_yes HK.out.1 HKE.out, HK.out.2.2.drewN _⟩, by simp [intOf]; omega⟩
                · as_aux_lemma =>
                  have HKE := Lib.hid (fun e : k.1 = key => e2 (by rw [e]))
                  rw [e1] at d0
                  have b1 : (k.1.p == key.p) = false := by simp [e2]
                  have b2 : decide (k.1.p = key.p) = false := by simp [e2]
                  clear e1 e2
                  go_wp2_with fail
                  go_quiet (fail)
                  go_wp2_with fail
                  exact ⟨⟨q + 1, K, by omega, by go_num, rfl, pl.found_no HK.out.2.1 HK.out.1 HKE.out, HK.out.2.2.drewN _⟩, by simp [intOf]; omega⟩
              · as_aux_lemma =>
                have HKE := Lib.hid (fun e : k.1 = key => e1 (by rw [e]))
                have b1 : (k.1.s.toList == key.s.toList) = false := text_ne5 e1
                clear e1
                go_wp2_with fail
                go_quiet (fail)
                go_wp2_with fail
                exact ⟨⟨q + 1, K, by omega, by go_num, rfl, pl.found_no HK.out.2.1 HK.out.1 HKE.out, HK.out.2.2.drewN _⟩, by simp [intOf]; omega⟩
            · as_aux_lemma =>
              obtain rfl : q = P.length := by omega
              obtain ⟨ws, hws⟩ : ∃ x : World, x = wr := ⟨_, rfl⟩
              subst hws
              have hst2 := H1.out.2.1.keep hfd.2
              have hseq := pl.found_seq hst2.pl hfd.1
              have s0 := hkb.cell 0 (v := .int .i64 kd) rfl
              have s3 := hkb.cell 3 (v := .int .i64 sz) rfl
              have sl := hkb.lt
              have hD9 : ∀ y, 0 ≤ D y ∧ D y ≤ 60000 := fun y => by have := hst2.many y; omega
              have H2 := Lib.hid (And.intro hkb (And.intro hst2 (And.intro hseq (And.intro hD9 H1.out.2.2)))); clear hkb hst2 hseq hfd hlq hrow1 H1 hD9
              go_upto_block 6 with fail
              go_cut [12, 14, 15, 16] from 141 to 355 (fun s12 s14 s15 s16 wx => ∃ (u' : Option CSent) (D' : SlotK → Int) (F' : Nat → Prop) (P' : List (SlotK × Int)) (C' Ct' : Int), s14 = .bool u'.isSome ∧ s15 = .int .i64 C' ∧ s16 = .int .i64 Ct' ∧ cp.St w wx p id epoch b13 s12 u' D' F' P' C' Ct' (j + 1))
              case first => as_aux_lemma =>
                by_cases hk1 : kd = 1
                · as_aux_lemma =>
                  subst hk1
                  obtain ⟨nr, hnr, hnr3⟩ : ∃ nr : Nat, cn.round sz 104 = (nr : Int) ∧ nr ≤ 103 := ⟨(cn.round sz 104).toNat, by have := cn.round_bd sz (n := 104) (by omega); omega, by have := cn.round_bd sz (n := 104) (by omega); omega⟩
                  have hrd : ∀ wx, Calls Try.prog 11 #[.int .i64 sz, .int .i64 104] wx fun e w' => e = .returned (.int .i64 (nr : Int)) ∧ wx = w' := fun wx => by
                    rw [← hnr]
                    exact cn.round_any sz 104 i3 (by omega) (by omega) wx
                  have HRD := Lib.hid hrd; clear hrd
                  obtain ⟨rs, hrs⟩ : ∃ rs, rs = cn.recs nr sz := ⟨_, rfl⟩
                  have hrl : rs.length = nr := by rw [hrs, cn.recs_len]
                  have hrec : ∀ wx, Calls Try.prog 12 #[.int .i64 (nr : Int), .int .i64 sz] wx fun e w' => ∃ A2 c2, e = .returned (.slice A2 nr c2) ∧ RowR w' wx.heap.size (.slice A2 nr c2) rs ∧ Below wx.heap.size wx w' := fun wx => by
                    refine (cn.records_any nr sz wx (by omega)).mono ?_
                    rintro e w' ⟨v, rfl, h1, h2⟩
                    rw [← hrs] at h1
                    obtain ⟨A2, c2, rfl, -⟩ := h1.recsV
                    rw [hrl] at h1
                    exact ⟨A2, c2, by rw [hrl], h1, h2⟩
                  have HREC := Lib.hid (And.intro hrec (And.intro hrs hrl)); clear hrec hrs hrl hnr
                  go_upto_if 149 with (go_at_call 11; refine (HRD.out ws).mono ?_; rintro e wr' ⟨rfl, h3⟩; subst h3)
                  go_cut [22] from 148 to 154 (fun s22 wx => s22 = .int .i64 (D key) ∧ ws = wx)
                  case first => as_aux_lemma =>
                    rcases H2.out.2.2.1 with ⟨hK, hD⟩ | ⟨i, k, hi, hK, hk, hD⟩
                    · subst hK
                      have HD := Lib.hid hD; clear hD
                      go_wp2_with fail
                      go_meet
                      case rel => exact ⟨by rw [HD.out], rfl⟩
                    · subst hK
                      obtain ⟨gd, rfl, -, hgl, -, -, d2, -⟩ := H2.out.2.1.row.at' hk
                      have hi' : (i : Int) < (P.length : Int) := by omega
                      have d0 : decide (0 ≤ (i : Int)) = true := decide_eq_true (by omega)
                      have HD := Lib.hid (And.intro hD hi); clear hD hk
                      go_wp2_with fail
                      go_meet
                      case rel => exact ⟨by rw [HD.out.1], rfl⟩
                  case rest => as_aux_lemma =>
                    obtain ⟨rfl, rfl⟩ := hcut
                    obtain ⟨La, hLa⟩ : ∃ La : Int, La = max ((nr : Int) - 1) 0 := ⟨_, rfl⟩
                    have hm1 : max ((nr : Int) - 1) 0 = La := hLa.symm
                    have hm2 : (if (nr : Int) - 1 < 0 then (0 : Int) else (nr : Int) - 1) = La := by rw [hLa]; split <;> omega
                    have HLA := Lib.hid hLa; clear hLa
                    obtain ⟨Dk, hDk⟩ : ∃ Dk, Dk = D key := ⟨_, rfl⟩
                    rw [← hDk]
                    have HDK := Lib.hid hDk; clear hDk
                    go_upto_region 35 with (go_at_call 12; refine (HREC.out.1 ws).mono ?_; rintro e w2 ⟨A2, c2, rfl, h1, h2⟩; have H3 := Lib.hid (And.intro h1 h2); clear h1 h2)
                    go_upto_region 36 with fail
                    clear hm1 hm2 s0 s3
                    obtain ⟨b24, hb24⟩ : ∃ b, b = w2.heap.size := ⟨_, rfl⟩
                    obtain ⟨wa, hwa⟩ : ∃ wa, wa = w2.alloc (.cells #[.int .i64 0, .int .i64 La, .int .i64 id, .int .i64 epoch, .int .i64 Dk, .slice none 0 0] 42) := ⟨_, rfl⟩
                    rw [← hwa, ← hb24]
                    have hk24 : Blk wa b24 42 #[.int .i64 0, .int .i64 La, .int .i64 id, .int .i64 epoch, .int .i64 Dk, .slice none 0 0] := by rw [hwa, hb24]; exact Blk.new _ _ _
                    have hc2a : Chg w2 wa (fun _ => False) := by rw [hwa]; exact Chg.alloc _ _ _
                    have hrowa : RowR wa ws.heap.size (.slice A2 nr c2) rs := H3.out.1.chg hc2a fun _ _ _ q => q
                    have hne24 : (Value.slice A2 nr c2).ownBlock ≠ some b24 := fun e => by obtain ⟨xs, h1, -⟩ := H3.out.1; have := (h1.lt b24 e).2; omega
                    have hold2 : ws.heap.size ≤ b24 := by have := H3.out.2.size; omega
                    have hba : Below ws.heap.size ws wa := H3.out.2.trans (hc2a.below H3.out.2.size fun _ q => q.elim)
                    have H4 := Lib.hid (And.intro hk24 (And.intro hrowa (And.intro hne24 (And.intro hold2 hba)))); clear hk24 hrowa hne24 hold2 hba hc2a hwa hb24 H3
                    go_wp2_with fail
                    go_loopw [25] (fun i wx => ∃ (jj : Nat), jj ≤ nr ∧ i = .int .i64 (jj : Int) ∧ RowR wx ws.heap.size (.slice A2 nr c2) (cp.mix rs jj) ∧ Chg wa wx (fun g => (Value.slice A2 nr c2).ownBlock = some g)) (fun i _ => nr - (intOf i).toNat)
                    case atStart => exact ⟨0, by omega, rfl, by rw [cp.mix_zero]; exact H4.out.2.1, Chg.refl _ _⟩
                    case round => as_aux_lemma =>
                      obtain ⟨jj, hjj, rfl, hrw, hcw⟩ := hrel
                      by_cases hlj : jj < nr
                      · as_aux_lemma =>
                        have hlj' : (jj : Int) < (nr : Int) := by omega
                        have hml : (cp.mix rs jj).length = nr := by rw [cp.mix_len]; exact HREC.out.2.2
                        obtain ⟨r, hr⟩ : ∃ r, (cp.mix rs jj)[jj]? = some r := ⟨_, List.getElem?_eq_getElem (by omega)⟩
                        obtain ⟨g, rfl, hgB, hgl, hfr⟩ := hrw.block (by omega)
                        have hf0 := hfr (jj * 6)
                        obtain ⟨cv, hcv⟩ := hrw.at0 hr
                        have hset := cp.set_off hrw hr (jj : Int) (by unfold i64ok; omega)
                        rw [cp.mix_succ hr] at hset
                        have hcs : Chg wa (wr.setCell ⟨g, jj * 6, none⟩ (.int .i64 (jj : Int))) (fun g' => (Value.slice (some ⟨g, 0, none⟩) nr c2).ownBlock = some g') := hcw.trans (Chg.setCell _ _ _ _) fun k _ hk => by rw [show k = g from hk]; rfl
                        have HSET := Lib.hid (And.intro hset hcs); clear hset hcs hrw hcw hr hml hfr hgB
                        go_wp2_with fail
                        exact ⟨⟨jj + 1, by omega, by go_num, HSET.out.1, HSET.out.2⟩, by simp [intOf]; omega⟩
                      · as_aux_lemma =>
                        obtain rfl : nr = jj := by omega
                        have hmix : cp.mix rs nr = cn.numbered rs := by have := cp.mix_all rs; rw [HREC.out.2.2] at this; exact this
                        rw [hmix] at hrw
                        have hk24 := hcw.blk H4.out.1 H4.out.2.2.1
                        have y5 := hk24.frozen 5
                        have y5c := hk24.cell 5 (v := .slice none 0 0) rfl
                        have yl := hk24.lt
                        have hbw : Below ws.heap.size ws wr := by
                          obtain ⟨xs, h1, -⟩ := H4.out.2.1
                          exact H4.out.2.2.2.2.trans (hcw.below H4.out.2.2.2.2.size fun k hk => (h1.lt k hk).1)
                        obtain ⟨w5, hw5⟩ : ∃ w5, w5 = wr.setCell ⟨b24, 5, none⟩ (.slice A2 nr c2) := ⟨_, rfl⟩
                        have hc5 : Chg wr w5 (fun k => k = b24) := by rw [hw5]; exact Chg.setCell _ _ _ _
                        have hk5 : Blk w5 b24 42 #[.int .i64 0, .int .i64 La, .int .i64 id, .int .i64 epoch, .int .i64 Dk, .slice A2 nr c2] := by rw [hw5]; exact hk24.set 5 _
                        have hrw5 : RowR w5 ws.heap.size (.slice A2 nr c2) (cn.numbered rs) := hrw.other hc5 hk24 (by decide) fun i v hi k e => by
                          subst e
                          have hi6 : i < 6 := by have := (Array.getElem?_eq_some_iff.1 hi).1; simpa using this
                          have : i = 0 ∨ i = 1 ∨ i = 2 ∨ i = 3 ∨ i = 4 ∨ i = 5 := by omega
                          rcases this with rfl | rfl | rfl | rfl | rfl | rfl <;> simp at hi
                        have hb5 : Below ws.heap.size ws w5 := hbw.trans (hc5.below hbw.size fun k hk => by rw [show k = b24 from hk]; exact H4.out.2.2.2.1)
                        have hcs5 := chg_of (P := fun _ => False) hb5
                        have hst5 := H2.out.2.1.keep hcs5
                        have hk18 := hcs5.blk H2.out.1 fun q => q
                        have H5 := Lib.hid (And.intro hk5 (And.intro hrw5 (And.intro hst5 (And.intro hk18 hb5)))); clear hk5 hrw5 hst5 hk18 hb5 hcs5 hc5 hbw hk24 hmix hrw hcw hlj
                        go_upto_region 41 with fail
                        rw [← hw5]
                        clear hw5 y5 y5c yl sl
                        have hFs : ∀ q, F q → q < ws.heap.size := H2.out.2.1.cn.lt.2
                        have hF18 : ¬ F b18 := H2.out.2.2.2.2.1
                        have hF24 : ¬ F b24 := fun q => by have := hFs _ q; have := H4.out.2.2.2.1; omega
                        have hs5 := H5.out.2.2.2.2.size
                        obtain ⟨bb, hbb⟩ : ∃ bb, bb = cn.bat id epoch (D key) rs := ⟨_, rfl⟩
                        obtain ⟨ck, hck⟩ : ∃ ck, ck = bb.check := ⟨_, rfl⟩
                        obtain ⟨L, hL⟩ : ∃ L, L = bb.bytes := ⟨_, rfl⟩
                        have hLs : ck = 0 → L.length ≤ 65536 := fun h => by rw [hL, hbb]; exact cn.bat_len (by rw [← hbb, ← hck]; exact h)
                        have hmk : ∀ wx A3 c3, Chg w5 wx (fun _ => False) → RecsV wx (.slice A3 nr c3) rs → Calls Try.prog 13 #[.pointer (some ⟨p, 0, none⟩), .string key.s, .int .i64 key.p, .slice A3 nr c3] wx fun e w' => ∃ z f, e = .returned (.tuple #[.agg z, .int .i64 f]) ∧ (z.size = 13 ∧ z.all (fun v => v.oneCell') = true) ∧ cp.Raw p id epoch u D F C key L nr ck j wx w' z f := fun wx A3 c3 hc hv => by
                          have hrl := HREC.out.2.2
                          have := cp.raw_any p id epoch u D F C j key rs A3 c3 wx (H5.out.2.2.1.cn.keep hc fun _ _ q => q) (by rw [hrl]; exact hv) (by omega) (by omega)
                          rw [← hbb, ← hck, ← hL, hrl] at this
                          exact this
                        have hrecs : ∀ wx, Calls Try.prog 12 #[.int .i64 (nr : Int), .int .i64 sz] wx fun e w' => ∃ A3 c3, e = .returned (.slice A3 nr c3) ∧ RecsV w' (.slice A3 nr c3) rs ∧ Below wx.heap.size wx w' := fun wx => by
                          refine (HREC.out.1 wx).mono ?_
                          rintro e w' ⟨A3, c3, rfl, h1, h2⟩
                          obtain ⟨A9, c9, e9, h3⟩ := h1.recsV
                          rw [HREC.out.2.2] at e9 h3
                          obtain ⟨rfl, rfl⟩ : A3 = A9 ∧ c3 = c9 := by injection e9 with e1 e2 e3; exact ⟨e1, e3⟩
                          exact ⟨A3, c3, rfl, h3, h2⟩
                        have HB := Lib.hid (And.intro hbb (And.intro hck (And.intro hL hLs))); clear hbb hck hL hLs
                        have HMK := Lib.hid (And.intro hmk hrecs); clear hmk hrecs
                        have HFF := Lib.hid (And.intro hFs (And.intro hF18 (And.intro hF24 hs5))); clear hFs hF18 hF24 hs5
                        go_cut [26, 27] from 178 to 190 (fun s26 s27 wx => ∃ (b26 : Nat) (z : Array Value) (f : Int), s26 = .pointer (some ⟨b26, 0, none⟩) ∧ s27 = .int .i64 f ∧ Blk wx b26 35 z ∧ cp.Made w p id epoch b13 (.slice Ad P.length cd) u D F P C Ct j key L nr ck wx z f ∧ Chg w5 wx F)
                        case first => as_aux_lemma =>
                          have e1 : ∀ x : Later w5 F, x.1.cell? ⟨b18, 1, none⟩ = some (.string key.s) := fun x => (x.2.blk H5.out.2.2.2.1 HFF.out.2.1).cell 1 rfl
                          have e2 : ∀ x : Later w5 F, x.1.cell? ⟨b18, 2, none⟩ = some (.int .i64 key.p) := fun x => (x.2.blk H5.out.2.2.2.1 HFF.out.2.1).cell 2 rfl
                          have e3 : ∀ x : Later w5 F, x.1.cell? ⟨b18, 3, none⟩ = some (.int .i64 sz) := fun x => (x.2.blk H5.out.2.2.2.1 HFF.out.2.1).cell 3 rfl
                          have hS0 : later w5 F w5.drew := later_of ((Chg.refl _ _).drew)
                          refine wp_plan (S := fun w0 => ∃ x : Later w5 F, w0 = x.1) (by kernel_rfl) hS0 ?_
                          intro hS' K5 hK5
                          have HS := Lib.hid hS'; clear hS' hS0
                          have hc0 : Chg w5 w5.drew (fun _ => False) := (Chg.refl _ _).drew
                          have HC0 := Lib.hid hc0; clear hc0
                          refine plan_group [true, true, true, true, true, true, true, true] [0, 1, 2, 3, 4, 5, 6, 7] 8 (by dsimp only [sel]) (by rfl) rfl (by kernel_rfl) (by kernel_rfl) HS.out ?_
                          (repeat go_big_quiet_step (fail)); refine wpQuiet_nil ?_
                          clear e1 e2 e3
                          refine plan_two [false, false, false, false, false, false, false, false, true] [false, false, false, false, false, false, false, false, false, false, false, false, false, true] 8 13 7 (by dsimp only [sel]) (by dsimp only [sel]) (by rfl) (by rfl) rfl (by kernel_rfl) ?_ ?_
                          · as_aux_lemma =>
                            intro K1 hK1
                            go_wp2_with (go_at_call 12; refine (HMK.out.2 _).mono ?_; rintro e wb ⟨A3, c3, rfl, h1, h2⟩; have H6 := Lib.hid (And.intro h1 h2); clear h1 h2)
                            have hcb : Chg w5 wb (fun _ => False) := HC0.out.trans (chg_of (P := fun _ => False) H6.out.2) fun _ _ q => q
                            have HCB := Lib.hid hcb; clear hcb
                            have HSB := Lib.hid (later_of (HCB.out.mono (Q := F) fun _ _ q => q.elim))
                            refine ⟨by first | exact HSB.out | exact fun _ => HSB.out, ?_⟩
                            refine plan_two [false, false, false, false, false, false, false, false, false, true] [false, false, false, false, false, false, false, false, false, false, false, false, false, true] 9 13 6 (by dsimp only [sel]) (by dsimp only [sel]) (by rfl) (by rfl) rfl (by kernel_rfl) ?_ ?_
                            · as_aux_lemma =>
                              intro K2 hK2
                              go_wp2_with (go_at_call 13; refine (HMK.out.1 _ A3 c3 HCB.out H6.out.1).mono ?_; rintro e wy ⟨z, f, rfl, h1, h2⟩; have H7 := Lib.hid (And.intro h1 h2); clear h1 h2)
                              have hcy : Chg w5 wy F := (HCB.out.mono (Q := F) fun _ _ q => q.elim).trans H7.out.2.chg fun _ _ q => q
                              have HCY := Lib.hid hcy; clear hcy
                              have HSY := Lib.hid (later_of HCY.out)
                              refine ⟨by first | exact HSY.out | exact fun _ => HSY.out, ?_⟩
                              refine plan_group [false, false, false, false, false, false, false, false, false, false, true, true, true] [10, 11, 12] 3 (by dsimp only [sel]) (by rfl) rfl (by kernel_rfl) (by kernel_rfl) HSY.out ?_
                              (repeat go_big_quiet_step (fail)); refine wpQuiet_nil ?_
                              refine plan_one [false, false, false, false, false, false, false, false, false, false, false, false, false, true] 13 2 (by dsimp only [sel]) (by rfl) rfl (by kernel_rfl) ?_; intro K3 hK3; go_wp2_with fail
                              obtain ⟨bg, hbg⟩ : ∃ b, b = wy.heap.size := ⟨_, rfl⟩
                              obtain ⟨wg, hwg⟩ : ∃ wg, wg = wy.alloc (.cells #[.int .i64 0, .int .i64 0, .string (ByteArray.mk #[]), .string (ByteArray.mk #[]), .int .i64 0, .int .i64 0, .int .i64 0, .int .i64 0, .string (ByteArray.mk #[]), .string (ByteArray.mk #[]), .int .i64 0, .slice none 0 0, .slice none 0 0] 35) := ⟨_, rfl⟩
                              rw [← hwg, ← hbg]
                              have hkg : Blk wg bg 35 cn.zero := by rw [hwg, hbg]; exact Blk.new _ _ _
                              have hcg : Chg wy wg (fun _ => False) := by rw [hwg]; exact Chg.alloc _ _ _
                              have HG := Lib.hid (And.intro hkg (And.intro hcg hbg)); clear hkg hcg hbg hwg
                              have HSG := Lib.hid (later_of (HCY.out.trans HG.out.2.1 fun _ _ q => q.elim))
                              refine ⟨by first | exact HSG.out | exact fun _ => HSG.out, ?_⟩
                              refine plan_one [false, false, false, false, false, false, false, false, false, false, false, false, false, false, true] 14 1 (by dsimp only [sel]) (by rfl) rfl (by kernel_rfl) ?_; intro K4 hK4
                              go_wp2_with (show Go.wpList _ _ _ (⟨_, .store _ (.tmp 26) (.tmp 189), _, _, _, _⟩ :: _) _ _; go_loud (refine wpList_store_row rfl 35 (.tmp 26) (.tmp 189) rfl bg z rfl rfl 35 cn.zero HG.out.1 (by rw [H7.out.1.1]; exact cn.infoReq) (by rw [H7.out.1.1]; rfl) H7.out.1.2 ?_))
                              obtain ⟨wz, hwz⟩ : ∃ wz, wz = wg.setRow bg z := ⟨_, rfl⟩
                              rw [← hwz]
                              have hkz : Blk wz bg 35 z := by rw [hwz]; exact cn.blk_row HG.out.1 z
                              have hcz : Chg wy wz (fun k => k = bg) := by rw [hwz]; exact (HG.out.2.1.mono fun _ _ q => q.elim).trans (cn.chg_row _ _ _) fun _ _ q => q
                              have hfin := cp.fin H5.out.2.2.1 HCB.out H7.out.2 hcz (by have h1 := HCY.out.size; have h2 := HG.out.2.2; omega) (.inr (by rw [HG.out.2.2]; exact Nat.le_refl _)) (by omega) HB.out.2.2.2
                              have HFIN := Lib.hid (And.intro hkz hfin); clear hkz hcz hfin hwz
                              have HSZ := Lib.hid (later_of HFIN.out.2.2)
                              refine ⟨by first | exact HSZ.out | exact fun _ => HSZ.out, ?_⟩
                              go_simp
                              refine plan_group [false, false, false, false, false, false, false, false, false, false, false, false, false, false, false, true] [15] 0 (by dsimp only [sel]) (by rfl) rfl (by kernel_rfl) (by kernel_rfl) HSZ.out ?_
                              (repeat go_big_quiet_step (fail)); refine wpQuiet_nil ?_
                              refine wp_plan_end (by kernel_rfl) ?_
                              refine hK5 _ _ ?_
                              go_wp2_with fail
                              go_meet
                              case rel => exact ⟨bg, z, f, rfl, rfl, HFIN.out.1, HFIN.out.2.1, HFIN.out.2.2⟩
                            · as_aux_lemma =>
                              intro K2 hK2
                              go_wp2_with fail
                              obtain ⟨bg, hbg⟩ : ∃ b, b = wb.heap.size := ⟨_, rfl⟩
                              obtain ⟨wg, hwg⟩ : ∃ wg, wg = wb.alloc (.cells #[.int .i64 0, .int .i64 0, .string (ByteArray.mk #[]), .string (ByteArray.mk #[]), .int .i64 0, .int .i64 0, .int .i64 0, .int .i64 0, .string (ByteArray.mk #[]), .string (ByteArray.mk #[]), .int .i64 0, .slice none 0 0, .slice none 0 0] 35) := ⟨_, rfl⟩
                              rw [← hwg, ← hbg]
                              have hkg : Blk wg bg 35 cn.zero := by rw [hwg, hbg]; exact Blk.new _ _ _
                              have hcg : Chg w5 wg (fun _ => False) := HCB.out.trans (by rw [hwg]; exact Chg.alloc _ _ _) fun _ _ q => q
                              have hvg : RecsV wg (.slice A3 nr c3) rs := H6.out.1.below (by rw [hwg]; exact (Below.refl wb.heap.size wb).alloc (Nat.le_refl _) _) (Nat.le_refl _)
                              have hlg : bg < wg.heap.size := hkg.lt
                              have h5g : w5.heap.size ≤ bg := by have := HCB.out.size; omega
                              have HG := Lib.hid (And.intro hkg (And.intro hvg (And.intro hlg h5g))); clear hkg hvg hlg h5g hbg hwg
                              have HCG := Lib.hid hcg; clear hcg
                              have HSG := Lib.hid (later_of (HCG.out.mono (Q := F) fun _ _ q => q.elim))
                              refine ⟨by first | exact HSG.out | exact fun _ => HSG.out, ?_⟩
                              refine plan_one [false, false, false, false, false, false, false, false, false, true] 9 5 (by dsimp only [sel]) (by rfl) rfl (by kernel_rfl) ?_; intro K3 hK3
                              go_wp2_with (go_at_call 13; refine (HMK.out.1 _ A3 c3 HCG.out HG.out.2.1).mono ?_; rintro e wy ⟨z, f, rfl, h1, h2⟩; have H7 := Lib.hid (And.intro h1 h2); clear h1 h2)
                              have hcy : Chg w5 wy F := (HCG.out.mono (Q := F) fun _ _ q => q.elim).trans H7.out.2.chg fun _ _ q => q
                              have HCY := Lib.hid hcy; clear hcy
                              have HSY := Lib.hid (later_of HCY.out)
                              have hkg : Blk wy bg 35 cn.zero := H7.out.2.chg.blk HG.out.1 fun q => by have h1 := HFF.out.1 _ q; have h2 := HFF.out.2.2.2; have h3 := HG.out.2.2.2; omega
                              have HKG := Lib.hid hkg; clear hkg
                              refine ⟨by first | exact HSY.out | exact fun _ => HSY.out, ?_⟩
                              refine plan_group [false, false, false, false, false, false, false, false, false, false, true, true, true] [10, 11, 12] 2 (by dsimp only [sel]) (by rfl) rfl (by kernel_rfl) (by kernel_rfl) HSY.out ?_
                              (repeat go_big_quiet_step (fail)); refine wpQuiet_nil ?_
                              refine plan_one [false, false, false, false, false, false, false, false, false, false, false, false, false, false, true] 14 1 (by dsimp only [sel]) (by rfl) rfl (by kernel_rfl) ?_; intro K4 hK4
                              go_wp2_with (show Go.wpList _ _ _ (⟨_, .store _ (.tmp 26) (.tmp 189), _, _, _, _⟩ :: _) _ _; go_loud (refine wpList_store_row rfl 35 (.tmp 26) (.tmp 189) rfl bg z rfl rfl 35 cn.zero HKG.out (by rw [H7.out.1.1]; exact cn.infoReq) (by rw [H7.out.1.1]; rfl) H7.out.1.2 ?_))
                              obtain ⟨wz, hwz⟩ : ∃ wz, wz = wy.setRow bg z := ⟨_, rfl⟩
                              rw [← hwz]
                              have hkz : Blk wz bg 35 z := by rw [hwz]; exact cn.blk_row HKG.out z
                              have hcz : Chg wy wz (fun k => k = bg) := by rw [hwz]; exact cn.chg_row _ _ _
                              have hfin := cp.fin H5.out.2.2.1 HCG.out H7.out.2 hcz HG.out.2.2.2 (.inl HG.out.2.2.1) (by omega) HB.out.2.2.2
                              have HFIN := Lib.hid (And.intro hkz hfin); clear hkz hcz hfin hwz
                              have HSZ := Lib.hid (later_of HFIN.out.2.2)
                              refine ⟨by first | exact HSZ.out | exact fun _ => HSZ.out, ?_⟩
                              go_simp
                              refine plan_group [false, false, false, false, false, false, false, false, false, false, false, false, false, false, false, true] [15] 0 (by dsimp only [sel]) (by rfl) rfl (by kernel_rfl) (by kernel_rfl) HSZ.out ?_
                              (repeat go_big_quiet_step (fail)); refine wpQuiet_nil ?_
                              refine wp_plan_end (by kernel_rfl) ?_
                              refine hK5 _ _ ?_
                              go_wp2_with fail
                              go_meet
                              case rel => exact ⟨bg, z, f, rfl, rfl, HFIN.out.1, HFIN.out.2.1, HFIN.out.2.2⟩
                          · as_aux_lemma =>
                            intro K1 hK1
                            go_wp2_with fail
                            obtain ⟨bg, hbg⟩ : ∃ b, b = w5.heap.size := ⟨_, rfl⟩
                            obtain ⟨wg, hwg⟩ : ∃ wg, wg = (w5.alloc (.cells #[.int .i64 0, .int .i64 0, .string (ByteArray.mk #[]), .string (ByteArray.mk #[]), .int .i64 0, .int .i64 0, .int .i64 0, .int .i64 0, .string (ByteArray.mk #[]), .string (ByteArray.mk #[]), .int .i64 0, .slice none 0 0, .slice none 0 0] 35)).drew := ⟨_, rfl⟩
                            rw [← hwg, ← hbg]
                            have hkg : Blk wg bg 35 cn.zero := by rw [hwg, hbg]; exact (Blk.new w5 _ _).drew 1
                            have hcg : Chg w5 wg (fun _ => False) := by rw [hwg]; exact (Chg.alloc _ _ _).drew
                            have hlg : bg < wg.heap.size := hkg.lt
                            have h5g : w5.heap.size ≤ bg := Nat.le_of_eq hbg.symm
                            have HG := Lib.hid (And.intro hkg (And.intro hlg h5g)); clear hkg hlg h5g hbg hwg
                            have HCG := Lib.hid hcg; clear hcg
                            have HSG := Lib.hid (later_of (HCG.out.mono (Q := F) fun _ _ q => q.elim))
                            refine ⟨by first | exact HSG.out | exact fun _ => HSG.out, ?_⟩
                            refine plan_one [false, false, false, false, false, false, false, false, true] 8 6 (by dsimp only [sel]) (by rfl) rfl (by kernel_rfl) ?_; intro K2 hK2
                            go_wp2_with (go_at_call 12; refine (HMK.out.2 _).mono ?_; rintro e wb ⟨A3, c3, rfl, h1, h2⟩; have H6 := Lib.hid (And.intro h1 h2); clear h1 h2)
                            have hcb : Chg w5 wb (fun _ => False) := HCG.out.trans (chg_of (P := fun _ => False) H6.out.2) fun _ _ q => q
                            have HCB := Lib.hid hcb; clear hcb
                            have HSB := Lib.hid (later_of (HCB.out.mono (Q := F) fun _ _ q => q.elim))
                            have hkb : Blk wb bg 35 cn.zero := (chg_of (P := fun _ => False) H6.out.2).blk HG.out.1 fun q => q
                            have HKB := Lib.hid hkb; clear hkb
                            refine ⟨by first | exact HSB.out | exact fun _ => HSB.out, ?_⟩
                            refine plan_one [false, false, false, false, false, false, false, false, false, true] 9 5 (by dsimp only [sel]) (by rfl) rfl (by kernel_rfl) ?_; intro K3 hK3
                            go_wp2_with (go_at_call 13; refine (HMK.out.1 _ A3 c3 HCB.out H6.out.1).mono ?_; rintro e wy ⟨z, f, rfl, h1, h2⟩; have H7 := Lib.hid (And.intro h1 h2); clear h1 h2)
                            have hcy : Chg w5 wy F := (HCB.out.mono (Q := F) fun _ _ q => q.elim).trans H7.out.2.chg fun _ _ q => q
                            have HCY := Lib.hid hcy; clear hcy
                            have HSY := Lib.hid (later_of HCY.out)
                            have hkg : Blk wy bg 35 cn.zero := H7.out.2.chg.blk HKB.out fun q => by have h1 := HFF.out.1 _ q; have h2 := HFF.out.2.2.2; have h3 := HG.out.2.2; omega
                            have HKG := Lib.hid hkg; clear hkg
                            refine ⟨by first | exact HSY.out | exact fun _ => HSY.out, ?_⟩
                            refine plan_group [false, false, false, false, false, false, false, false, false, false, true, true, true] [10, 11, 12] 2 (by dsimp only [sel]) (by rfl) rfl (by kernel_rfl) (by kernel_rfl) HSY.out ?_
                            (repeat go_big_quiet_step (fail)); refine wpQuiet_nil ?_
                            refine plan_one [false, false, false, false, false, false, false, false, false, false, false, false, false, false, true] 14 1 (by dsimp only [sel]) (by rfl) rfl (by kernel_rfl) ?_; intro K4 hK4
                            go_wp2_with (show Go.wpList _ _ _ (⟨_, .store _ (.tmp 26) (.tmp 189), _, _, _, _⟩ :: _) _ _; go_loud (refine wpList_store_row rfl 35 (.tmp 26) (.tmp 189) rfl bg z rfl rfl 35 cn.zero HKG.out (by rw [H7.out.1.1]; exact cn.infoReq) (by rw [H7.out.1.1]; rfl) H7.out.1.2 ?_))
                            obtain ⟨wz, hwz⟩ : ∃ wz, wz = wy.setRow bg z := ⟨_, rfl⟩
                            rw [← hwz]
                            have hkz : Blk wz bg 35 z := by rw [hwz]; exact cn.blk_row HKG.out z
                            have hcz : Chg wy wz (fun k => k = bg) := by rw [hwz]; exact cn.chg_row _ _ _
                            have hfin := cp.fin H5.out.2.2.1 HCB.out H7.out.2 hcz HG.out.2.2 (.inl (by have h1 := HG.out.2.1; have h2 := H6.out.2.size; omega)) (by omega) HB.out.2.2.2
                            have HFIN := Lib.hid (And.intro hkz hfin); clear hkz hcz hfin hwz
                            have HSZ := Lib.hid (later_of HFIN.out.2.2)
                            refine ⟨by first | exact HSZ.out | exact fun _ => HSZ.out, ?_⟩
                            go_simp
                            refine plan_group [false, false, false, false, false, false, false, false, false, false, false, false, false, false, false, true] [15] 0 (by dsimp only [sel]) (by rfl) rfl (by kernel_rfl) (by kernel_rfl) HSZ.out ?_
                            (repeat go_big_quiet_step (fail)); refine wpQuiet_nil ?_
                            refine wp_plan_end (by kernel_rfl) ?_
                            refine hK5 _ _ ?_
                            go_wp2_with fail
                            go_meet
                            case rel => exact ⟨bg, z, f, rfl, rfl, HFIN.out.1, HFIN.out.2.1, HFIN.out.2.2⟩
                        case rest => as_aux_lemma =>
                          obtain ⟨b26, z, f, rfl, rfl, hk26, hmade, hc59⟩ := hcut
                          have hk24 := hc59.blk H5.out.1 HFF.out.2.2.1
                          have hrw9 : RowR wc ws.heap.size (.slice A2 nr c2) (cn.numbered rs) := H5.out.2.1.chg hc59 fun g h1 _ q => by have := HFF.out.1 g q; omega
                          have hbl : bb.recs = cn.numbered rs := by rw [HB.out.1]; rfl
                          have hbln : bb.recs.length = nr := by rw [hbl, cn.numbered_len]; exact HREC.out.2.2
                          have hve : RecsV wc (.slice A2 nr c2) bb.recs := by
                            rw [hbl]
                            obtain ⟨A9, c9, e9, h3⟩ := hrw9.recsV
                            rw [cn.numbered_len, HREC.out.2.2] at e9 h3
                            obtain ⟨rfl, rfl⟩ : A2 = A9 ∧ c2 = c9 := by injection e9 with e1 e2 e3; exact ⟨e1, e3⟩
                            exact h3
                          have henc := cp.enc_any bb nr hbln A2 c2 wc hve
                          have hhv : bb.hval A2 nr c2 = .agg #[.int .i64 0, .int .i64 La, .int .i64 id, .int .i64 epoch, .int .i64 Dk, .slice A2 nr c2] := by
                            rw [HB.out.1, HLA.out, HDK.out, ← HREC.out.2.2]
                            rfl
                          rw [hhv, ← HB.out.2.1, ← HB.out.2.2.1] at henc
                          have y0 := hk24.cell 0 (v := .int .i64 0) rfl
                          have y1 := hk24.cell 1 (v := .int .i64 La) rfl
                          have y2 := hk24.cell 2 (v := .int .i64 id) rfl
                          have y3 := hk24.cell 3 (v := .int .i64 epoch) rfl
                          have y4 := hk24.cell 4 (v := .int .i64 Dk) rfl
                          have y5 := hk24.cell 5 (v := .slice A2 nr c2) rfl
                          have yl := hk24.lt
                          have hk18 := hc59.blk H5.out.2.2.2.1 HFF.out.2.1
                          have hbx : ∃ cs : Array Value, cs.size = 13 ∧ Blk wc b13 35 cs := by
                            obtain ⟨cs, hs, h⟩ := H5.out.2.2.1.now.blk
                            exact ⟨cs, hs, hc59.blk h H5.out.2.2.1.box⟩
                          have HENC := Lib.hid (And.intro henc (And.intro hmade (And.intro hk26 (And.intro hk18 hbx)))); clear henc hmade hk26 hk18 hbx hhv hve hbl hbln hrw9 hk24 hc59
                          go_upto_block 9 with (go_at_call 14; refine HENC.out.1.mono ?_; rintro e w10 ⟨⟨Ad2, m2, cd2, rfl, h1, h2⟩, h3⟩; have H10 := Lib.hid (And.intro h1 (And.intro h2 h3)); clear h1 h2 h3)
                          clear y0 y1 y2 y3 y4 y5 yl
                          rcases HENC.out.2.1 with ⟨⟨hu, hf⟩ | ⟨hu, hbad, hf⟩, hst⟩ | ⟨hu, hn0, hc0, hf, A6, c6, F6, hz, hcap, hat, hnew⟩
                          · as_aux_lemma =>
                            subst hf
                            have HST := Lib.hid ((hst.keep (chg_of H10.out.2.2)).next); clear hst
                            obtain ⟨s, rfl⟩ := Option.isSome_iff_exists.1 hu
                            clear hu
                            go_wp2_with fail
                            go_meet
                            case rel => exact ⟨some s, D, F, P, C, Ct, rfl, rfl, rfl, HST.out⟩
                          · as_aux_lemma =>
                            subst hf
                            have HST := Lib.hid ((hst.keep (chg_of H10.out.2.2)).next); clear hst
                            obtain rfl : u = none := by cases u with | none => rfl | some s => cases hu
                            clear hu
                            by_cases hn0 : nr = 0
                            · have b0 : ((nr : Int) == 0) = true := by simp [hn0]
                              have b1 : decide ((nr : Int) = 0) = true := by simp [hn0]
                              have b2 : (nr == 0) = true := by simp [hn0]
                              clear hn0 hbad
                              go_wp2_with fail
                              go_meet
                              case rel => exact ⟨none, D, F, P, C, Ct, rfl, rfl, rfl, HST.out⟩
                            · have b0 : ((nr : Int) == 0) = false := by simp [hn0]
                              have b1 : decide ((nr : Int) = 0) = false := by simp [hn0]
                              have b2 : (nr == 0) = false := by simp [hn0]
                              have hck := hbad.resolve_left hn0
                              have b3 : (ck != 0) = true := by simp [hck]
                              have b4 : (ck == 0) = false := by simp [hck]
                              clear hn0 hbad hck
                              go_wp2_with fail
                              go_meet
                              case rel => exact ⟨none, D, F, P, C, Ct, rfl, rfl, rfl, HST.out⟩
                          · as_aux_lemma =>
                            subst hf hc0 hz
                            obtain rfl : u = none := by cases u with | none => rfl | some s => cases hu
                            clear hu
                            have hn1 : nr ≠ 0 := by omega
                            have b0 : ((nr : Int) == 0) = false := by simp [hn1]
                            have b1 : decide ((nr : Int) = 0) = false := by simp [hn1]
                            have b2 : (nr == 0) = false := by simp [hn1]
                            clear hn1 hn0
                            have hb10 := H10.out.2.2
                            obtain ⟨hm2, hat2⟩ := H10.out.2.1 rfl
                            subst hm2
                            have hc10 := chg_of (P := fun _ => False) hb10
                            have hk10 := hc10.blk HENC.out.2.2.1 fun q => q
                            have x0 := hk10.cell 0 (v := .int .i64 4) rfl
                            have x1 := hk10.cell 1 (v := .int .i64 (C + 1)) rfl
                            have x2 := hk10.cell 2 (v := .string (ByteArray.mk #[])) rfl
                            have x3 := hk10.cell 3 (v := .string key.s) rfl
                            have x4 := hk10.cell 4 (v := .int .i64 key.p) rfl
                            have x5 := hk10.cell 5 (v := .int .i64 0) rfl
                            have x6 := hk10.cell 6 (v := .int .i64 0) rfl
                            have x7 := hk10.cell 7 (v := .int .i64 0) rfl
                            have x8 := hk10.cell 8 (v := .string (ByteArray.mk #[])) rfl
                            have x9 := hk10.cell 9 (v := .string (ByteArray.mk #[])) rfl
                            have x10 := hk10.cell 10 (v := .int .i64 0) rfl
                            have x11 := hk10.cell 11 (v := .slice none 0 0) rfl
                            have x12 := hk10.cell 12 (v := .slice A6 L.length c6) rfl
                            have xl := hk10.lt
                            have hk18 := hc10.blk HENC.out.2.2.2.1 fun q => q
                            have z1 := hk18.cell 1 (v := .string key.s) rfl
                            have z2 := hk18.cell 2 (v := .int .i64 key.p) rfl
                            have zl := hk18.lt
                            have cv1 := conv_any (P := Try.prog) Try.underlying33 Try.underlying5 Try.underlying9 (c := c6) L rfl (hat.below hb10 (Nat.le_refl _))
                            have cv2 := conv_any (P := Try.prog) Try.underlying33 Try.underlying5 Try.underlying9 (c := cd2) L rfl hat2
                            obtain ⟨str, hstr⟩ : ∃ str, str = strOf L := ⟨_, rfl⟩
                            rw [← hstr] at cv1 cv2
                            clear hstr hat2
                            obtain ⟨cs, hcs, hb13⟩ := HENC.out.2.2.2.2
                            have hb13' := hc10.blk hb13 fun q => q
                            have HN := Lib.hid (And.intro hnew (And.intro hb13' (And.intro hcs hc10))); clear hnew hb13 hb13' hcs hc10 hb10 hat hcap hk10 hk18
                            go_upto_region 46 with fail
                            clear z1 z2 zl cv1 cv2 b0 b1 b2
                            go_wp2_with (show Go.wpList _ _ _ (⟨_, .store _ (.tmp 13) (.tmp 233), _, _, _, _⟩ :: _) _ _; go_loud (refine wpList_store_row rfl 35 (.tmp 13) (.tmp 233) rfl b13 (cn.req (C + 1) key.s key.p (.slice A6 L.length c6)) rfl rfl 35 cs HN.out.2.1 cn.infoReq HN.out.2.2.1 (by simp [cn.req, Value.oneCell']) ?_))
                            have HST := Lib.hid (HN.out.1 (w10.setRow b13 (cn.req (C + 1) key.s key.p (.slice A6 L.length c6))) ((HN.out.2.2.2.mono fun _ _ q => q.elim).trans (cn.chg_row _ _ _) fun _ _ q => q) (cn.blk_row HN.out.2.1 _))
                            go_meet
                            case rel => exact ⟨_, D, F6, P, _, _, rfl, rfl, rfl, HST.out⟩
                · by_cases hk3 : kd = 3
                  · as_aux_lemma =>
                    subst hk3
                    obtain ⟨r2, hr2, hr0, hr1⟩ : ∃ r2 : Int, cn.round sz 2 = r2 ∧ 0 ≤ r2 ∧ r2 < 2 := ⟨_, rfl, cn.round_bd sz (by omega)⟩
                    have hrd : ∀ wx, Calls Try.prog 11 #[.int .i64 sz, .int .i64 2] wx fun e w' => e = .returned (.int .i64 r2) ∧ wx = w' := fun wx => by
                      rw [← hr2]
                      exact cn.round_any sz 2 i3 (by omega) (by omega) wx
                    have hdn : ∀ wx, Chg ws wx (fun _ => False) → Calls Try.prog 15 #[.pointer (some ⟨p, 0, none⟩), .agg (cn.resp (C - r2) code 5 (.slice none 0 0))] wx fun e w' => ∃ n f, e = .returned (.tuple #[.int .i64 n, .int .i64 f]) ∧ Chg wx w' F ∧ cp.Did w p id epoch b13 (.slice Ad P.length cd) u D F P C Ct j r2 code w' n f := fun wx hc => cp.did_any r2 code (H2.out.2.1.keep hc) (by omega)
                    unfold cn.resp at hdn
                    have HRD := Lib.hid (And.intro hrd hdn); clear hrd hdn hr2
                    have hF18 : ¬ F b18 := H2.out.2.2.2.2.1
                    have e3 : ∀ x : Later ws F, x.1.cell? ⟨b18, 3, none⟩ = some (.int .i64 sz) := fun x => (x.2.blk H2.out.1 hF18).cell 3 rfl
                    have e4 : ∀ x : Later ws F, x.1.cell? ⟨b18, 4, none⟩ = some (.int .i64 code) := fun x => (x.2.blk H2.out.1 hF18).cell 4 rfl
                    clear s0 s3
                    go_upto_region 54 with fail
                    have hS0 : later ws F ws.drew := later_of ((Chg.refl _ _).drew)
                    refine wp_plan (S := fun w0 => ∃ x : Later ws F, w0 = x.1) (by kernel_rfl) hS0 ?_
                    intro hS' K5 hK5
                    have HS := Lib.hid hS'; clear hS' hS0
                    refine plan_group [true, true, true, true, false, false, true, true] [0, 1, 2, 3, 6, 7] 9 (by dsimp only [sel]) (by rfl) rfl (by kernel_rfl) (by kernel_rfl) HS.out ?_
                    (repeat go_big_quiet_step (fail)); refine wpQuiet_nil ?_
                    clear e3 e4
                    refine plan_one [false, false, false, false, true] 4 8 (by dsimp only [sel]) (by rfl) rfl (by kernel_rfl) ?_; intro K1 hK1
                    go_wp2_with (go_at_call 11; refine (HRD.out.1 _).mono ?_; rintro e wq ⟨rfl, h3⟩; subst h3)
                    refine ⟨by first | exact HS.out | exact fun _ => HS.out, ?_⟩
                    refine plan_group [false, false, false, false, false, true, false, false, true] [5, 8] 6 (by dsimp only [sel]) (by rfl) rfl (by kernel_rfl) (by kernel_rfl) HS.out ?_
                    (repeat go_big_quiet_step (fail)); refine wpQuiet_nil ?_
                    refine plan_one [false, false, false, false, false, false, false, false, false, true] 9 5 (by dsimp only [sel]) (by rfl) rfl (by kernel_rfl) ?_; intro K2 hK2
                    go_wp2_with (go_at_call 15; refine (HRD.out.2 _ ((Chg.refl _ _).drew)).mono ?_; rintro e w9 ⟨n9, f9, rfl, h1, h2⟩; have H9 := Lib.hid (And.intro h1 h2); clear h1 h2)
                    have hc9 : Chg ws w9 F := ((Chg.refl ws F).drew).trans H9.out.1 fun _ _ q => q
                    have hk18 := hc9.blk H2.out.1 hF18
                    have HC9 := Lib.hid (And.intro hc9 hk18); clear hc9 hk18 hF18
                    have HS9 := Lib.hid (later_of HC9.out.1)
                    refine ⟨by first | exact HS9.out | exact fun _ => HS9.out, ?_⟩
                    refine plan_group [false, false, false, false, false, false, false, false, false, false, true, true, true, true, true] [10, 11, 12, 13, 14] 0 (by dsimp only [sel]) (by rfl) rfl (by kernel_rfl) (by kernel_rfl) HS9.out ?_
                    (repeat go_big_quiet_step (fail)); refine wpQuiet_nil ?_
                    refine wp_plan_end (by kernel_rfl) ?_
                    refine hK5 _ _ ?_
                    clear HS HS9
                    have s3 := HC9.out.2.cell 3 (v := .int .i64 sz) rfl
                    have s4 := HC9.out.2.cell 4 (v := .int .i64 code) rfl
                    have sl9 := HC9.out.2.lt
                    rcases H9.out.2 with ⟨hor, hn9, hf9, hst⟩ | ⟨hu, hr, hcd, hn9, hf9, hrest⟩ | ⟨hu, hr, hcd, hn9, hf9, hst⟩ | ⟨hu, hr, hna, hcd, hn9, hf9, hst⟩
                    · as_aux_lemma =>
                      subst hn9 hf9
                      have HST := Lib.hid hst; clear hst
                      cases u with
                      | none =>
                        clear hor
                        go_wp2_with fail
                        go_meet
                        case rel => exact ⟨none, D, F, P, C, Ct, rfl, rfl, rfl, HST.out⟩
                      | some s =>
                        have hr : r2 ≠ 0 := hor.resolve_left (by simp)
                        have b2 : (r2 != 0) = true := by simp [hr]
                        have b3 : (r2 == 0) = false := by simp [hr]
                        clear hor hr
                        go_wp2_with (go_at_call 11; refine (HRD.out.1 _).mono ?_; rintro e wq ⟨rfl, h3⟩; subst h3)
                        go_meet
                        case rel => exact ⟨some s, D, F, P, C, Ct, rfl, rfl, rfl, HST.out⟩
                    · as_aux_lemma =>
                      subst hr hcd hn9 hf9
                      cases u with
                      | none => cases hu
                      | some s =>
                        clear hu
                        obtain ⟨x2, Aq, mq, cq, hblk, hct, hcn⟩ := hrest
                        have hstd := H2.out.2.1.keep ((Chg.refl ws (fun _ => False)).drew)
                        have hrow9 : PlAt w9 w.heap.size (.slice Ad P.length cd) P := hstd.row.chg H9.out.1 hstd.rowF
                        have hap := hstd.apart
                        have H10 := Lib.hid (And.intro hblk (And.intro hcn (And.intro hstd (And.intro hrow9 hap)))); clear hblk hcn hstd hrow9 hap
                        go_upto_region 66 with (go_at_call 11; refine (HRD.out.1 _).mono ?_; rintro e wq ⟨rfl, h3⟩; subst h3)
                        clear s3 s4 sl9
                        go_wp2_with fail
                        go_loopw [32, 33] (fun mt i wx => ∃ (q : Nat) (m : Bool), q ≤ P.length ∧ i = .int .i64 (q : Int) ∧ mt = .bool m ∧ pl.Met P x2 q m ∧ PlAt wx w.heap.size (.slice Ad P.length cd) (pl.bump P x2 Ct q) ∧ Chg w9 wx (fun g => (Value.slice Ad P.length cd).ownBlock = some g)) (fun _ i _ => P.length - (intOf i).toNat)
                        case atStart => exact ⟨0, false, by omega, rfl, rfl, pl.met_zero _ _, by rw [pl.bump_zero]; exact H10.out.2.2.2.1, Chg.refl _ _⟩
                        case round => as_aux_lemma =>
                          obtain ⟨q, m, hq, rfl, rfl, hmet, hrw, hcw⟩ := hrel
                          have hkq := hcw.blk H10.out.1 H10.out.2.2.2.2
                          have t3 := hkq.cell 3 (v := .string x2.s) rfl
                          have t4 := hkq.cell 4 (v := .int .i64 x2.p) rfl
                          have tl := hkq.lt
                          by_cases hlq : q < P.length
                          · as_aux_lemma =>
                            have hlq' : (q : Int) < (P.length : Int) := by omega
                            obtain ⟨k, hk⟩ : ∃ k, P[q]? = some k := ⟨_, List.getElem?_eq_getElem hlq⟩
                            obtain ⟨gd, rfl, hgB, hgl, d0, d1, d2, dfr⟩ := hrw.at' (pl.bump_at x2 Ct hk)
                            have hk2 : 0 ≤ k.2 ∧ k.2 ≤ 60000 := by rw [← H10.out.2.2.1.pl.1 k (List.mem_of_getElem? hk)]; exact H2.out.2.2.2.1 k.1
                            by_cases e1 : k.1.s = x2.s
                            · by_cases e2 : k.1.p = x2.p
                              · as_aux_lemma =>
                                have hke : k.1 = x2 := slot_ext e1 e2
                                have HK := Lib.hid (And.intro hk (And.intro hmet (And.intro hrw (And.intro hcw (And.intro dfr hke))))); clear hk hmet hrw hcw dfr hke hkq
                                rw [e1] at d0
                                rw [e2] at d1
                                clear e1 e2
                                go_wp2_with fail
                                go_quiet (fail)
                                go_upto_region 70 with fail
                                obtain ⟨wq, hwq⟩ : ∃ wq, wq = wr.drewN nq := ⟨_, rfl⟩
                                rw [← hwq]
                                have hcq : Chg wr wq (fun _ => False) := by rw [hwq]; exact (Chg.refl _ _).drewN _
                                have e0 : wq.cell? ⟨gd, q * 3 + 2, none⟩ = some (.int .i64 k.2) := by rw [hwq]; exact d2
                                have e1 : wq.frozen? ⟨gd, q * 3 + 2, none⟩ = false := by rw [hwq]; exact HK.out.2.2.2.2.1 _
                                have el : gd < wq.heap.size := by rw [hwq]; exact hgl
                                have hset := (HK.out.2.2.1.chg hcq fun _ _ q => q).set (pl.bump_at x2 Ct HK.out.1) (k.2 + Ct)
                                rw [pl.bump_yes Ct HK.out.1 HK.out.2.2.2.2.2] at hset
                                have hcs : Chg w9 (wq.setCell ⟨gd, q * 3 + 2, none⟩ (.int .i64 (k.2 + Ct))) (fun g => (Value.slice (some ⟨gd, 0, none⟩) P.length cd).ownBlock = some g) := (HK.out.2.2.2.1.trans hcq fun _ _ q => q.elim).trans (Chg.setCell _ _ _ _) fun k _ hk => by rw [show k = gd from hk]; rfl
                                have HSET := Lib.hid (And.intro hset hcs); clear hset hcs hcq hwq d0 d1 d2 hgl
                                go_wp2_with fail
                                exact ⟨⟨q + 1, true, by omega, by go_num, rfl, pl.met_yes HK.out.1 HK.out.2.2.2.2.2, HSET.out.1, HSET.out.2⟩, by simp [intOf]; omega⟩
                              · as_aux_lemma =>
                                have HKE := Lib.hid (fun e : k.1 = x2 => e2 (by rw [e]))
                                rw [e1] at d0
                                have b1 : (k.1.p == x2.p) = false := by simp [e2]
                                have b2 : decide (k.1.p = x2.p) = false := by simp [e2]
                                have HK := Lib.hid (And.intro hk (And.intro hmet (And.intro hrw hcw))); clear hk hmet hrw hcw dfr hkq
                                clear e1 e2
                                go_wp2_with fail
                                go_quiet (fail)
                                go_wp2_with fail
                                exact ⟨⟨q + 1, m, by omega, by go_num, rfl, pl.met_no HK.out.2.1 HK.out.1 HKE.out, by rw [← pl.bump_no Ct HK.out.1 HKE.out]; exact HK.out.2.2.1.chg ((Chg.refl wr (fun _ => False)).drewN _) fun _ _ q => q, HK.out.2.2.2.drewN _⟩, by simp [intOf]; omega⟩
                            · as_aux_lemma =>
                              have HKE := Lib.hid (fun e : k.1 = x2 => e1 (by rw [e]))
                              have b1 : (k.1.s.toList == x2.s.toList) = false := text_ne5 e1
                              have HK := Lib.hid (And.intro hk (And.intro hmet (And.intro hrw hcw))); clear hk hmet hrw hcw dfr hkq
                              clear e1
                              go_wp2_with fail
                              go_quiet (fail)
                              go_wp2_with fail
                              exact ⟨⟨q + 1, m, by omega, by go_num, rfl, pl.met_no HK.out.2.1 HK.out.1 HKE.out, by rw [← pl.bump_no Ct HK.out.1 HKE.out]; exact HK.out.2.2.1.chg ((Chg.refl wr (fun _ => False)).drewN _) fun _ _ q => q, HK.out.2.2.2.drewN _⟩, by simp [intOf]; omega⟩
                          · as_aux_lemma =>
                            obtain rfl : q = P.length := by omega
                            clear hlq
                            have hQF : ∀ g, (Value.slice Ad P.length cd).ownBlock = some g → ¬ F g ∧ g ≠ b13 ∧ w.heap.size ≤ g := fun g hg => ⟨H10.out.2.2.1.rowF g hg, fun e => H10.out.2.2.2.2 (by rw [hg, e]), (H10.out.2.2.1.row.lt hg).1⟩
                            rcases pl.met_all hmet with ⟨hm, hno⟩ | ⟨hm, hyes⟩
                            · as_aux_lemma =>
                              subst hm
                              rw [pl.bump_none hno] at hrw
                              obtain ⟨V, hown, hV⟩ := hrw
                              obtain ⟨i0, hi0, hz0, hz1, hz2⟩ := info_parts cp.infoPlace
                              have HI := Lib.hid (And.intro hi0 (And.intro hz0 (And.intro hz1 hz2))); clear hi0 hz0 hz1 hz2
                              obtain ⟨wa, hwa⟩ : ∃ wa, wa = wr.alloc (.cells #[.string x2.s, .int .i64 x2.p, .int .i64 Ct] 37) := ⟨_, rfl⟩
                              have hba : Below wr.heap.size wr wa := by rw [hwa]; exact (Below.refl _ _).alloc (Nat.le_refl _) _
                              have hsa : wa.heap.size = wr.heap.size + 1 := by rw [hwa]; exact World.size_alloc _ _
                              have howna := (chg_of (P := fun _ => False) hba).own hown fun _ _ q => q
                              have hcell := cn.cells_new wr [.string x2.s, .int .i64 x2.p, .int .i64 Ct] 37 wr.heap.size rfl
                              have hsz : ws.drew.heap.size ≤ wr.heap.size := Nat.le_trans H9.out.1.size hcw.size
                              have hwz : w.heap.size ≤ wa.heap.size := by have h1 := H10.out.2.2.1.below.size; omega
                              have happ : ∀ v2 wz, wz.ownsRow w.heap.size 37 3 v2 (P.length + 1) (cellsOf (P.length * 3) V ++ [.string x2.s, .int .i64 x2.p, .int .i64 Ct]) → wa.grownBy wz (Value.slice Ad P.length cd).ownBlock → (v2.ownBlock = (Value.slice Ad P.length cd).ownBlock ∨ v2.ownBlock = some wa.heap.size) →
                                  cp.St w wz p id epoch b13 v2 none (cn.upd D x2 (D x2 + Ct)) F (P ++ [(x2, Ct)]) C Ct (j + 1) := fun v2 wz h1 h2 h3 => by
                                have hcz : Chg w9 wz (fun g => (Value.slice Ad P.length cd).ownBlock = some g) := (hcw.trans (chg_of (P := fun _ => False) hba) fun _ _ q => q.elim).trans (Chg.grown h2) fun k _ hk => hk
                                refine H10.out.2.2.1.done (Q := fun g => (Value.slice Ad P.length cd).ownBlock = some g) x2 hct H10.out.2.1 H9.out.1 hcz hQF (H10.out.2.2.1.pl.add x2 Ct hno) (PlAt.append hV x2 Ct h1) (by have := H10.out.2.2.1.len; simp; omega) fun g hg q => ?_
                                rcases h3 with h3 | h3
                                · exact (hQF g (by rw [← h3]; exact hg)).1 q
                                · have e : wa.heap.size = g := by rw [h3] at hg; exact Option.some.inj hg
                                  have := H10.out.2.2.1.cn.lt.2 g q
                                  omega
                              have HAPP := Lib.hid (And.intro happ (And.intro howna (And.intro hcell (And.intro hwa hwz)))); clear happ howna hcell hwa hown hV hba hsa hsz hwz hcw hQF hmet hno hkq
                              go_wp2_with (at_builtin; rw [← HAPP.out.2.2.2.1]; refine wpList_append_own_at _ rfl (.tmp 347) (.tmp 354) 31 rfl w.heap.size 37 i0 _ 3 32 Try.underlying31 HI.out.1 HI.out.2.1 HI.out.2.2.1 HI.out.2.2.2 rfl (by decide) (.slice Ad P.length cd) P.length (cellsOf (P.length * 3) V) rfl HAPP.out.2.1 ⟨wr.heap.size, 0, none⟩ 1 1 [.string x2.s, .int .i64 x2.p, .int .i64 Ct] rfl rfl (by rw [HAPP.out.2.2.2.1]; exact HAPP.out.2.2.1) (by simp [Value.oneCell']) (by unfold maxLen; omega) (by omega) HAPP.out.2.2.2.2 ?_; intro v2 w11 h1 h2 _ h3; have HST := Lib.hid (HAPP.out.1 v2 w11 h1 h2 h3); clear h1 h2 h3)
                              go_meet
                              case rel => exact ⟨none, _, F, _, C, Ct, rfl, rfl, rfl, HST.out⟩
                            · as_aux_lemma =>
                              subst hm
                              have hst := H10.out.2.2.1.done (Q := fun g => (Value.slice Ad P.length cd).ownBlock = some g) x2 hct H10.out.2.1 H9.out.1 hcw hQF (H10.out.2.2.1.pl.bump x2 Ct hyes) hrw (by rw [pl.bump_len]; have := H10.out.2.2.1.len; omega) H10.out.2.2.1.rowF
                              have HST := Lib.hid hst; clear hst hmet hrw hcw hkq hQF hyes
                              clear t3 t4 tl
                              go_wp2_with fail
                              go_meet
                              case rel => exact ⟨none, _, F, _, C, Ct, rfl, rfl, rfl, HST.out⟩
                    · as_aux_lemma =>
                      subst hr hn9
                      have HST := Lib.hid hst; clear hst
                      cases u with
                      | none => cases hu
                      | some s =>
                        clear hu
                        rcases hcd with rfl | rfl | rfl
                        all_goals
                          subst hf9
                          go_wp2_with (go_at_call 11; refine (HRD.out.1 _).mono ?_; rintro e wq ⟨rfl, h3⟩; subst h3)
                          go_meet
                          case rel => exact ⟨some s, D, F, P, C, Ct, rfl, rfl, rfl, HST.out⟩
                    · as_aux_lemma =>
                      subst hr hn9
                      have HST := Lib.hid hst; clear hst
                      have d0 : (code == 0) = false := by simp [hcd]
                      have d7 : (code == 7) = false := by have : code ≠ 7 := fun e => hna (.inl e); simp [this]
                      have d15 : (code == 15) = false := by have : code ≠ 15 := fun e => hna (.inr (.inl e)); simp [this]
                      have d4 : (code == 4) = false := by have : code ≠ 4 := fun e => hna (.inr (.inr e)); simp [this]
                      clear hna hcd
                      cases u with
                      | none => cases hu
                      | some s =>
                        clear hu
                        subst hf9
                        go_wp2_with (go_at_call 11; refine (HRD.out.1 _).mono ?_; rintro e wq ⟨rfl, h3⟩; subst h3)
                        go_meet
                        case rel => exact ⟨none, D, F, P, C, Ct, rfl, rfl, rfl, HST.out⟩
                  · as_aux_lemma =>
                    have b1 : (kd == 1) = false := by simp [hk1]
                    have b3 : (kd == 3) = false := by simp [hk3]
                    have HN := Lib.hid H2.out.2.1.next
                    clear hk1 hk3 s0 s3
                    go_wp2_with fail
                    go_meet
                    case rel => exact ⟨u, D, F, P, C, Ct, rfl, rfl, rfl, HN.out⟩
              case rest => as_aux_lemma =>
                obtain ⟨u', D', F', P', C', Ct', rfl, rfl, rfl, hst⟩ := hcut
                obtain ⟨A5, c5, rfl⟩ := hst.row.slice
                have hret := cp.retry_any hst
                have hP60' : P'.length ≤ 60 := by have := hst.len; omega
                have HR := Lib.hid (And.intro hst hret); clear hst hret H2 s0 s3
                go_upto_region 76 with (first
                  | (show Go.wpList _ _ _ (⟨_, .store _ (.tmp 35) (.tmp 359), _, _, _, _⟩ :: _) _ _; go_loud (refine wpList_store_row rfl 35 (.tmp 35) (.tmp 359) rfl wx.heap.size z rfl rfl 35 cn.zero (Blk.new wx 35 cn.zero) (by rw [HZ.out.1.1]; exact cn.infoReq) (by rw [HZ.out.1.1]; rfl) HZ.out.1.2 ?_))
                  | (go_at_call 16; refine HR.out.2.mono ?_; rintro e wx ⟨z, rfl, h1, h2, h3⟩; have HZ := Lib.hid (And.intro h1 (And.intro h2 h3)); clear h1 h2 h3))
                obtain ⟨b35, hb35⟩ : ∃ b, b = wx.heap.size := ⟨_, rfl⟩
                obtain ⟨wy, hwy⟩ : ∃ wy, wy = (wx.alloc (.cells #[.int .i64 0, .int .i64 0, .string (ByteArray.mk #[]), .string (ByteArray.mk #[]), .int .i64 0, .int .i64 0, .int .i64 0, .int .i64 0, .string (ByteArray.mk #[]), .string (ByteArray.mk #[]), .int .i64 0, .slice none 0 0, .slice none 0 0] 35)).setRow wx.heap.size z := ⟨_, rfl⟩
                rw [← hwy, ← hb35]
                have hk35 : Blk wy b35 35 z := by rw [hwy, hb35]; exact cn.blk_row (Blk.new wx 35 cn.zero) z
                have hcy : Chg wx wy (fun _ => False) := by
                  rw [hwy]
                  exact (Chg.alloc wx _ (fun _ => False)).trans (cn.chg_row _ _ _) fun k hk q => absurd hk (by rw [show k = wx.heap.size from q]; exact Nat.lt_irrefl _)
                have hsty := HR.out.1.keep ((chg_of (P := fun _ => False) HZ.out.2.1).trans hcy fun _ _ q => q)
                have HY := Lib.hid (And.intro hk35 (And.intro hsty hcy)); clear hk35 hsty hcy hwy hb35 HR
                go_cut [396] from 361 to 396 (fun s396 wx => s396 = .bool false ∧ wy = wx)
                case first => as_aux_lemma =>
                  cases u' with
                  | none =>
                    go_wp2_with fail
                    go_meet
                    case rel => exact ⟨rfl, rfl⟩
                  | some s =>
                    obtain ⟨A7, c7, hz, hcap, hat⟩ := HZ.out.2.2 s rfl
                    subst hz
                    obtain ⟨-, -, -, -, -, A8, c8, hb8, ho8, -⟩ := HY.out.2.1.now
                    have hk35 := HY.out.1
                    have y1 := hk35.cell 1 (v := .int .i64 C') rfl
                    have y3 := hk35.cell 3 (v := .string s.topic) rfl
                    have y4 := hk35.cell 4 (v := .int .i64 s.part) rfl
                    have y12 := hk35.cell 12 (v := .slice A7 s.data.length c7) rfl
                    have yl := hk35.lt
                    have z1 := hb8.cell 1 (v := .int .i64 C') rfl
                    have z3 := hb8.cell 3 (v := .string s.topic) rfl
                    have z4 := hb8.cell 4 (v := .int .i64 s.part) rfl
                    have z12 := hb8.cell 12 (v := .slice A8 s.data.length c8) rfl
                    have zl := hb8.lt
                    obtain ⟨A9, c9, e9, -, -, hat8⟩ := own_bytes ho8
                    obtain ⟨rfl, rfl⟩ : A8 = A9 ∧ c8 = c9 := by injection e9 with e1 e2 e3; exact ⟨e1, e3⟩
                    have cv1 := conv_any (P := Try.prog) Try.underlying33 Try.underlying5 Try.underlying9 (c := c7) s.data rfl (HY.out.2.2.at' hat fun _ _ _ _ q => q)
                    have cv2 := conv_any (P := Try.prog) Try.underlying33 Try.underlying5 Try.underlying9 (c := c8) s.data rfl hat8
                    obtain ⟨str, hstr⟩ : ∃ str, str = strOf s.data := ⟨_, rfl⟩
                    rw [← hstr] at cv1 cv2
                    clear hstr hat hat8 ho8 hb8 hk35 e9 hcap
                    go_wp2_with fail
                    go_meet
                    case rel => exact ⟨rfl, rfl⟩
                case rest => as_aux_lemma =>
                  obtain ⟨rfl, rfl⟩ := hcut
                  go_wp2_with fail
                  go_loopw [37] (fun i wx => ∃ (q : Nat), q ≤ P'.length ∧ i = .int .i64 (q : Int) ∧ Chg wy wx (fun _ => False)) (fun i _ => P'.length - (intOf i).toNat)
                  case atStart => exact ⟨0, by omega, rfl, Chg.refl _ _⟩
                  case round => as_aux_lemma =>
                    obtain ⟨q, hq, rfl, hcw⟩ := hrel
                    have hstr := HY.out.2.1.keep hcw
                    by_cases hlq : q < P'.length
                    · as_aux_lemma =>
                      have hlq' : (q : Int) < (P'.length : Int) := by omega
                      obtain ⟨k, hk⟩ : ∃ k, P'[q]? = some k := ⟨_, List.getElem?_eq_getElem hlq⟩
                      obtain ⟨gd, rfl, -, hgl, d0, d1, d2, -⟩ := hstr.row.at' hk
                      have hsq : ∀ nq, Calls Try.prog 17 #[.pointer (some ⟨p, 0, none⟩), .string k.1.s, .int .i64 k.1.p] (wr.drewN nq) fun e w' => e = .returned (.int .i64 k.2) ∧ w' = wr.drewN nq := fun nq => by
                        refine (cn.seq_any k.1 p id epoch C' u' D' F' (j + 1) (wr.drewN nq) (hstr.cn.keep ((Chg.refl wr (fun _ => False)).drewN nq) fun _ _ q => q)).mono ?_
                        rintro e w' ⟨rfl, h⟩
                        exact ⟨by rw [hstr.pl.1 k (List.mem_of_getElem? hk)], h.symm⟩
                      have HSQ := Lib.hid (And.intro hsq hcw); clear hsq hcw hstr hk
                      go_wp2_with fail
                      go_quiet (first | (go_at_call 17; with_reducible exact Calls.quiet_of_same (HSQ.out.1 _)))
                      go_wp2_with fail
                      exact ⟨⟨q + 1, by omega, by go_num, HSQ.out.2.drewN _⟩, by simp [intOf]; omega⟩
                    · as_aux_lemma =>
                      obtain rfl : q = P'.length := by omega
                      have HST := Lib.hid hstr; clear hstr hcw hlq
                      go_wp2_with fail
                      go_roundw
                      case rel => exact ⟨j + 1, u', D', F', P', C', Ct', by omega, by go_num, rfl, rfl, rfl, HST.out⟩
                      case measure => simp [intOf]; omega
        · as_aux_lemma =>
          obtain rfl : n = j := by omega
          clear hlt
          have hb := HS.out.below
          have HBE := Lib.hid hb; clear hb HS
          go_wp2_with (go_at_call 9; refine (HAX.out wr HBE.out).mono ?_; rintro a w9 ⟨rfl, hb⟩; have HB9 := Lib.hid hb; clear hb)
          go_ret
          exact ⟨rfl, HB9.out⟩
end Go.Proofs.Ytahncanmfjmfnaa

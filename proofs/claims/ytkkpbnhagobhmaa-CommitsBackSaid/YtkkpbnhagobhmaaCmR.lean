/- commits: the law's awake, CommitsRecords' law (chapter 18). -/
import Derived.BigQuiet
import Derived.Test.YtkkpbnhagobhmaaCmY
import Derived.Test.YtkkpbnhagobhmaaCmX
import Derived.Test.YtkkpbnhagobhmaaSmR
import Derived.Test.YtkkpbnhagobhmaaAlikeB
namespace Go.Proofs.Ytkkpbnhagobhmaa
open Go.RowKit Go.Maps
set_option maxRecDepth 100000
def cm.E0 : CEnt := ⟨⟨#[103]⟩, ⟨#[116]⟩, 1, 7⟩
def cm.E1 : CEnt := ⟨⟨#[71]⟩, ⟨#[116]⟩, 0, 0⟩
theorem cm.e0_ok : cm.E0.ok = true := by decide +kernel
theorem cm.e0_may : cm.E0.may 3 = true := by decide +kernel
theorem cm.e1_no : cm.E1.ok = false := by decide +kernel
theorem cm.small_fit {e : CEnt} (h1 : e.grp.size ≤ 1000) (h2 : e.top.size ≤ 1000) : e.fit := ⟨by unfold maxLen; omega, by unfold maxLen; omega⟩
theorem CTab.put_off (T : CTab) (x : PlK) (n : Int) : (T.put x n).off x = some n := by unfold CTab.put; exact if_pos rfl
theorem CTab.put_other (T : CTab) {x y : PlK} (n : Int) (h : y ≠ x) : (T.put x n).off y = T.off y := by unfold CTab.put; exact if_neg h
theorem cm.RecV.shown {w : World} {v : Value} {X : Rec} (h : cm.RecV w v X) : ∃ xo xt xk xv Ak nk ck Au nu cu, v = .agg #[.int .i64 xo, .int .i64 xt, .bool xk, .slice Ak nk ck, .bool xv, .slice Au nu cu] ∧ xo = X.off ∧ xt = X.time ∧ xk = X.hasKey ∧ xv = X.hasVal := by
  obtain ⟨k, u, rfl, ⟨A, c, rfl, -⟩, ⟨B, d, rfl, -⟩⟩ := h
  exact ⟨_, _, _, _, A, _, c, B, _, d, rfl, rfl, rfl, rfl, rfl⟩
set_option maxHeartbeats 4000000 in
theorem law18.awake_any (w : World) : Calls Try.prog 9 #[] w fun e w' => e = .returned (.bool true) ∧ Below w.heap.size w w' := by
  have hrec := fun wx => cm.record_any cm.E0 3 wx (cm.small_fit (by decide) (by decide))
  simp only [if_pos cm.e0_may] at hrec
  have hbad := fun p wx => cm.put_bad cm.E1 p wx (cm.small_fit (by decide) (by decide)) cm.e1_no
  have hex : ∃ x : PlK, x.g = cm.E0.grp ∧ x.t = cm.E0.top ∧ x.p = cm.E0.part := ⟨cm.mk _ _ 1 (by decide) (by decide) (by decide) (by decide), rfl, rfl, rfl⟩
  obtain ⟨x, hx1, hx2, hx3⟩ := hex
  have happ : CTab.zero.app (cm.act (cm.E0.told 3)) = CTab.zero.put x 7 := by rw [cm.act_told 3 cm.e0_ok, CTab.app_put _ hx1 hx2 hx3]; rfl
  have hcode : cm.code (cm.act (cm.E0.told 3)) = 0 := by rw [cm.act_told 3 cm.e0_ok]; rfl
  have happly := fun v wx p mo mf (hv : cm.RecV wx v (cm.E0.told 3)) (ht : TabAt wx p mo mf CTab.zero 0) => cm.apply_any v _ p mo mf CTab.zero 0 wx hv ht (by decide)
  simp only [happ, hcode] at happly
  have hget := fun wx p mo mf (ht : TabAt wx p mo mf (CTab.zero.put x 7) 1) => cm.get_any x p mo mf _ 1 wx ht
  rw [hx1, hx2, hx3] at hget
  simp only [CTab.put_off] at hget
  have HR := Lib.hid (And.intro hrec (And.intro hbad (And.intro happly hget))); clear hrec hbad happly hget happ hcode hx1 hx2 hx3
  go_enter Try.func9, Try.ntmps9
  go_wp2_with fail
  refine (cm.new_any w).mono ?_
  rintro en w1 ⟨rfl, ht1, hb1⟩
  obtain ⟨p, hp⟩ : ∃ p, p = w.heap.size + 2 := ⟨_, rfl⟩
  obtain ⟨mo, hmo⟩ : ∃ p, p = w.heap.size := ⟨_, rfl⟩
  obtain ⟨mf, hmf⟩ : ∃ p, p = w.heap.size + 1 := ⟨_, rfl⟩
  rw [← hp, ← hmf, ← hmo] at ht1
  rw [← hp]
  have H1 := Lib.hid (And.intro ht1 (And.intro hb1 (And.intro hp (And.intro hmo hmf)))); clear ht1 hb1 hp hmo hmf
  go_wp2_with fail
  refine (HR.out.1 w1).mono ?_
  rintro en w2 ⟨⟨v, rfl, hv, -⟩, hb2⟩
  have ht2 := H1.out.1.below hb2
  have hbw2 := H1.out.2.1.trans (hb2.mono H1.out.2.1.size)
  obtain ⟨xo, xt, xk, xv, Ak, nk, ck, Au, nu, cu, rfl, -, hxt, -, -⟩ := hv.shown
  obtain rfl : xt = 3 := hxt
  have H2 := Lib.hid (And.intro hv (And.intro ht2 hbw2)); clear hv ht2 hbw2 hb2
  go_upto_region 5 with fail
  obtain ⟨b2, hb2⟩ : ∃ p, p = w2.heap.size := ⟨_, rfl⟩
  obtain ⟨w3, hw3⟩ : ∃ w3, w3 = w2.alloc (.cells #[.int .i64 xo, .int .i64 3, .bool xk, .slice Ak nk ck, .bool xv, .slice Au nu cu] 37) := ⟨_, rfl⟩
  have hbb : Below w2.heap.size w2 w3 := by rw [hw3]; exact (Below.refl _ _).alloc (Nat.le_refl _) _
  have hk3 : Blk w3 b2 37 #[.int .i64 xo, .int .i64 3, .bool xk, .slice Ak nk ck, .bool xv, .slice Au nu cu] := by rw [hw3, hb2]; exact Blk.new _ _ _
  have hapl := HR.out.2.2.1 _ w3 p mo mf (H2.out.1.below hbb (Nat.le_refl _)) (H2.out.2.1.below hbb)
  have hlt : p < b2 ∧ mo < b2 ∧ mf < b2 := by have := H2.out.2.1.lt; omega
  have H3 := Lib.hid (And.intro hapl (And.intro hk3 (And.intro hlt (H2.out.2.2.trans (hbb.mono H2.out.2.2.size))))); clear hapl hbb hlt
  rw [← hw3, ← hb2]
  clear hw3 hb2
  have d0 := hk3.cell 0 (v := .int .i64 xo) rfl
  have d1 := hk3.cell 1 (v := .int .i64 3) rfl
  have d2 := hk3.cell 2 (v := .bool xk) rfl
  have d3 := hk3.cell 3 (v := .slice Ak nk ck) rfl
  have d4 := hk3.cell 4 (v := .bool xv) rfl
  have d5 := hk3.cell 5 (v := .slice Au nu cu) rfl
  have dl := hk3.lt
  clear hk3
  go_wp2_with fail
  refine H3.out.1.mono ?_
  rintro en w4 ⟨rfl, ht4, hc4⟩
  have hlt := H3.out.2.2.1
  have hk4 := hc4.blk H3.out.2.1 (fun q => by have q : b2 = mo ∨ b2 = mf := q; omega)
  have hb4 : Below w.heap.size w w4 := H3.out.2.2.2.trans (hc4.below H3.out.2.2.2.size fun k q => by have q : k = mo ∨ k = mf := q; have := H1.out.2.2.2; omega)
  clear d0 d1 d2 d3 d4 d5 dl hlt
  have H4 := Lib.hid (And.intro (HR.out.2.2.2 w4 p mo mf ht4) (And.intro hk4 hb4)); clear ht4 hc4 hk4 hb4
  go_wp2_with fail
  refine H4.out.1.mono ?_
  rintro en w5 ⟨rfl, h5⟩
  subst h5
  go_wp2_with fail
  refine (HR.out.2.1 p w4).mono ?_
  rintro en w5 ⟨rfl, hb5⟩
  have hk5 := (chg_of (P := fun _ => False) hb5).blk H4.out.2.1 fun q => q
  have e1 := hk5.cell 1 (v := .int .i64 3) rfl
  have el := hk5.lt
  have H5 := Lib.hid (H4.out.2.2.trans (hb5.mono H4.out.2.2.size)); clear hb5 hk5
  go_wp2_with fail
  go_ret
  exact ⟨rfl, H5.out⟩
end Go.Proofs.Ytkkpbnhagobhmaa

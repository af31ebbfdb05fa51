/- commits: CommitsRecords' law (chapter 18). -/
import Derived.BigQuiet
import Derived.Test.YtkkpbnhagobhmaaCmR
import Derived.Test.YtkkpbnhagobhmaaSumA
import Derived.Test.YtkkpbnhagobhmaaOpenG
namespace Go.Proofs.Ytkkpbnhagobhmaa
open Go.ChangeShapes Go.WideShapes Go.ChangeAt Go.RowKit Go.Maps
set_option maxRecDepth 100000
def CEnt.bd (e : CEnt) : Prop := (-9223372036854775808 ≤ e.part ∧ e.part ≤ 9223372036854775807) ∧ (-9223372036854775808 ≤ e.off ∧ e.off ≤ 9223372036854775807)
theorem open_ent {H : Type} {enc : TypeId × Value → H} {W : World} {base : Nat} {v : Value} {d : DataW H} {p : List MemPlace}
    (hv : Value.okWide Try.prog W .any base 24 v) (h : DataW.Trod enc Try.prog W 0 (fun _ => true) true 24 v d p) (hlt : ∀ x ∈ p, x.block < W.heap.size) :
    ∃ e : CEnt, v = .agg e.cells ∧ e.fit ∧ e.bd := by
  obtain ⟨cs, rfl, hsz⟩ := okWide_struct Try.underlying24 hv
  obtain ⟨fuel, h⟩ := h
  have hc : Value.cells (.agg cs) = cs := rfl
  rw [hc] at h
  have hl2 : cs.toList.length = 4 := (trod_field Try.underlying24 h hlt).1.trans (by kernel_rfl)
  have hm : (Try.prog.cellsOf 24) = 4 := by kernel_rfl
  have hi : (Try.prog.cellsOf 3) = 1 := by kernel_rfl
  have hs : (Try.prog.cellsOf 9) = 1 := by kernel_rfl
  obtain ⟨a0, g0, w0⟩ := field_str Try.underlying24 h hlt 0 0 _ rfl rfl hs (by rw [hm]; omega) Try.underlying9
  obtain ⟨a1, g1, w1⟩ := field_str Try.underlying24 h hlt 1 1 _ rfl rfl hs (by rw [hm]; omega) Try.underlying9
  obtain ⟨a2, g2, w2⟩ := field_int Try.underlying24 h hlt .i64 2 2 _ rfl rfl hi (by rw [hm]; omega) Try.underlying3
  obtain ⟨a3, g3, w3⟩ := field_int Try.underlying24 h hlt .i64 3 3 _ rfl rfl hi (by rw [hm]; omega) Try.underlying3
  refine ⟨⟨a0, a1, a2, a3⟩, ?_, ⟨w0, w1⟩, ⟨wf_bd w2, wf_bd w3⟩⟩
  refine congrArg Value.agg (Array.ext' (List.ext_getElem? fun j => ?_))
  rcases (by omega : j = 0 ∨ j = 1 ∨ j = 2 ∨ j = 3 ∨ 4 ≤ j) with rfl | rfl | rfl | rfl | hj
  · exact g0
  · exact g1
  · exact g2
  · exact g3
  · rw [List.getElem?_eq_none (by omega), List.getElem?_eq_none (by simpa [CEnt.cells] using hj)]
theorem cm.samerec_any {w : World} {v u : Value} {X : Rec} (hv : cm.RecV w v X) (hu : cm.RecV w u X) : Calls Try.prog 27 #[v, u] w fun e w' => e = .returned (.bool true) ∧ Below w.heap.size w w' := by
  obtain ⟨_, _, rfl, ⟨A, c, rfl, h1, -⟩, ⟨B, d, rfl, h2, -⟩⟩ := hv
  obtain ⟨_, _, rfl, ⟨A', c', rfl, h3, -⟩, ⟨B', d', rfl, h4, -⟩⟩ := hu
  have h := ref.samerec_any X X A c B d A' c' B' d' w h1 h2 h3 h4
  rw [decide_eq_true (show X.Same X from ⟨rfl, rfl, rfl, rfl, rfl, rfl⟩)] at h
  exact h
set_option maxHeartbeats 4000000 in
theorem law18.records (e : CEnt) (gen now : Int) (w : World) (hf : e.fit) (_hb : e.bd) :
    Calls Try.prog 4 #[.agg e.cells, .int .i64 gen, .int .i64 now] w fun en w' => en = .returned (.bool true) ∧ Below w.heap.size w w' := by
  have haw := fun wx => law18.awake_any wx
  have hmd := fun wx => cm.made_any e wx
  have hr1 := fun wx => cm.record_any e now wx hf
  have hr2 := fun wx => cm.rrecord_any e now wx hf
  have hg1 := fun wx => cm.genrec_any e.grp gen now wx hf.1
  have hg2 := fun wx => cm.rgenrec_any e.grp gen now wx hf.1
  unfold cm.recPostN at hr1 hg1
  unfold cm.recPost at hr2 hg2
  obtain ⟨X, hX⟩ : ∃ X, X = (if e.may now = true then e.told now else cm.zero) := ⟨_, rfl⟩
  obtain ⟨c, hc⟩ : ∃ c : Int, c = (if e.may now = true then 0 else 1) := ⟨_, rfl⟩
  obtain ⟨Y, hY⟩ : ∃ X, X = (if cm.gmay e.grp gen now = true then cm.grec e.grp gen now else cm.zero) := ⟨_, rfl⟩
  obtain ⟨d, hd⟩ : ∃ c : Int, c = (if cm.gmay e.grp gen now = true then 0 else 1) := ⟨_, rfl⟩
  rw [← hX, ← hc] at hr1 hr2
  rw [← hY, ← hd] at hg1 hg2
  clear hX hc hY hd
  obtain ⟨g, t, p, o⟩ := e
  simp only [CEnt.cells, CEnt.fit] at hmd hr1 hr2 hg1 hg2 hf ⊢
  have hgs := hf.1
  have hts := hf.2
  have hsum := fun wx : World => alike.sum_all (g.size : Int) (some ⟨wx.heap.size, 0, none⟩) 1 1 [(t.size : Int)] (wx.alloc (.cells #[.int .i64 (t.size : Int)] 3)) (by omega) (by omega) (by omega) rfl (alike.at_ints wx [(t.size : Int)] 3) (fun x hx => by simp only [List.mem_cons, List.not_mem_nil, or_false] at hx; unfold maxLen at hts; omega)
  obtain ⟨S, hS⟩ : ∃ S, S = alike.sum (g.size : Int) [(t.size : Int)] := ⟨_, rfl⟩
  rw [← hS] at hsum
  clear hS hf
  have H := Lib.hid (And.intro haw (And.intro hmd (And.intro hr1 (And.intro hr2 (And.intro hg1 (And.intro hg2 hsum)))))); clear haw hmd hr1 hr2 hg1 hg2 hsum
  obtain ⟨b0, hb0⟩ : ∃ b, b = w.heap.size := ⟨_, rfl⟩
  obtain ⟨w1, hw1⟩ : ∃ w1, w1 = w.alloc (.cells #[.string g, .string t, .int .i64 p, .int .i64 o] 24) := ⟨_, rfl⟩
  have hk1 : Blk w1 b0 24 #[.string g, .string t, .int .i64 p, .int .i64 o] := by rw [hw1, hb0]; exact Blk.new _ _ _
  have hb1 : Below w.heap.size w w1 := by rw [hw1]; exact (Below.refl _ _).alloc (Nat.le_refl _) _
  go_enter Try.func4, Try.ntmps4
  go_upto_region 1 with fail
  rw [← hw1, ← hb0]
  clear hw1 hb0
  have c0 := hk1.cell 0 (v := .string g) rfl
  have c1 := hk1.cell 1 (v := .string t) rfl
  have cl := hk1.lt
  unfold maxLen at hgs hts
  by_cases hS : 300 < S
  · have dS : decide (300 < S) = true := decide_eq_true hS
    go_wp2_with (go_at_call 8; refine (H.out.2.2.2.2.2.2 _).mono ?_; rintro a w' ⟨rfl, h3⟩; subst h3)
    refine (H.out.1 _).mono ?_
    rintro en w2 ⟨rfl, h2⟩
    have HB := Lib.hid ((hb1.alloc hb1.size (.cells #[.int .i64 (t.size : Int)] 3)).trans (h2.mono (Nat.le_trans hb1.size (by simp)))); clear h2
    go_wp2_with fail
    go_ret
    exact ⟨rfl, HB.out⟩
  have dS : decide (300 < S) = false := decide_eq_false hS
  go_upto_region 3 with (go_at_call 8; refine (H.out.2.2.2.2.2.2 _).mono ?_; rintro a w' ⟨rfl, h3⟩; subst h3)
  obtain ⟨w2, hw2⟩ : ∃ w2, w2 = w1.alloc (.cells #[.int .i64 (t.size : Int)] 3) := ⟨_, rfl⟩
  have hb2 : Below w.heap.size w w2 := by rw [hw2]; exact hb1.alloc hb1.size _
  have hk2 : Blk w2 b0 24 #[.string g, .string t, .int .i64 p, .int .i64 o] := by rw [hw2]; exact (Chg.alloc w1 _ (fun _ => False)).blk hk1 fun q => q
  rw [← hw2]
  clear hw2 c0 c1 cl hb1 hk1 dS hS hgs hts
  have G2 := Lib.hid (And.intro hb2 hk2); clear hb2 hk2
  have c0 := G2.out.2.cell 0 (v := .string g) rfl
  have c1 := G2.out.2.cell 1 (v := .string t) rfl
  have c2 := G2.out.2.cell 2 (v := .int .i64 p) rfl
  have c3 := G2.out.2.cell 3 (v := .int .i64 o) rfl
  have cl := G2.out.2.lt
  go_wp2_with fail
  clear c0 c1 c2 c3 cl
  refine (H.out.2.1 w2).mono ?_
  rintro en w3 ⟨rfl, h3⟩
  have G3 := Lib.hid (And.intro (G2.out.1.trans (h3.mono G2.out.1.size)) ((chg_of (P := fun _ => False) h3).blk G2.out.2 fun q => q)); clear h3
  go_wp2_with fail
  refine (H.out.2.2.1 w3).mono ?_
  rintro en w4 ⟨⟨v0, rfl, hv, -⟩, h3⟩
  obtain ⟨xo0, xt0, xk0, xv0, Ak0, nk0, ck0, Au0, nu0, cu0, rfl, -, -, -, -⟩ := hv.shown
  have G4 := Lib.hid (And.intro (G3.out.1.trans (h3.mono G3.out.1.size)) ((chg_of (P := fun _ => False) h3).blk G3.out.2 fun q => q)); clear h3
  have V := Lib.hid hv; clear hv
  go_upto_region 4 with fail
  obtain ⟨b1', hb'⟩ : ∃ b, b = w4.heap.size := ⟨_, rfl⟩
  obtain ⟨w5, hw'⟩ : ∃ w', w' = w4.alloc (.cells #[.int .i64 xo0, .int .i64 xt0, .bool xk0, .slice Ak0 nk0 ck0, .bool xv0, .slice Au0 nu0 cu0] 37) := ⟨_, rfl⟩
  have h3 : Below w4.heap.size w4 w5 := by rw [hw']; exact (Below.refl _ _).alloc (Nat.le_refl _) _
  have hkk : Blk w5 b1' 37 #[.int .i64 xo0, .int .i64 xt0, .bool xk0, .slice Ak0 nk0 ck0, .bool xv0, .slice Au0 nu0 cu0] := by rw [hw', hb']; exact Blk.new _ _ _
  rw [← hw', ← hb']
  clear hw' hb'
  have R0 := Lib.hid (And.intro hkk (V.out.below h3 (Nat.le_refl _))); clear hkk V
  have G5 := Lib.hid (And.intro (G4.out.1.trans (h3.mono G4.out.1.size)) ((chg_of (P := fun _ => False) h3).blk G4.out.2 fun q => q)); clear h3
  have c0 := G5.out.2.cell 0 (v := .string g) rfl
  have c1 := G5.out.2.cell 1 (v := .string t) rfl
  have c2 := G5.out.2.cell 2 (v := .int .i64 p) rfl
  have c3 := G5.out.2.cell 3 (v := .int .i64 o) rfl
  have cl := G5.out.2.lt
  go_wp2_with fail
  clear c0 c1 c2 c3 cl
  refine (H.out.2.2.2.1 w5).mono ?_
  rintro en w6 ⟨⟨v1, rfl, hv⟩, h3⟩
  obtain ⟨xo1, xt1, xk1, xv1, Ak1, nk1, ck1, Au1, nu1, cu1, rfl, -, -, -, -⟩ := hv.shown
  have R := R0.out
  have R0' := Lib.hid (And.intro ((chg_of (P := fun _ => False) h3).blk R.1 fun q => q) (R.2.below h3 (Nat.le_refl _))); clear R R0
  have R0 := R0'; clear R0'
  have G6 := Lib.hid (And.intro (G5.out.1.trans (h3.mono G5.out.1.size)) ((chg_of (P := fun _ => False) h3).blk G5.out.2 fun q => q)); clear h3
  have V := Lib.hid hv; clear hv
  go_upto_region 5 with fail
  obtain ⟨b2', hb'⟩ : ∃ b, b = w6.heap.size := ⟨_, rfl⟩
  obtain ⟨w7, hw'⟩ : ∃ w', w' = w6.alloc (.cells #[.int .i64 xo1, .int .i64 xt1, .bool xk1, .slice Ak1 nk1 ck1, .bool xv1, .slice Au1 nu1 cu1] 37) := ⟨_, rfl⟩
  have h3 : Below w6.heap.size w6 w7 := by rw [hw']; exact (Below.refl _ _).alloc (Nat.le_refl _) _
  have hkk : Blk w7 b2' 37 #[.int .i64 xo1, .int .i64 xt1, .bool xk1, .slice Ak1 nk1 ck1, .bool xv1, .slice Au1 nu1 cu1] := by rw [hw', hb']; exact Blk.new _ _ _
  rw [← hw', ← hb']
  clear hw' hb'
  have R := R0.out
  have R0' := Lib.hid (And.intro ((chg_of (P := fun _ => False) h3).blk R.1 fun q => q) (R.2.below h3 (Nat.le_refl _))); clear R R0
  have R0 := R0'; clear R0'
  have R1 := Lib.hid (And.intro hkk (V.out.below h3 (Nat.le_refl _))); clear hkk V
  have G7 := Lib.hid (And.intro (G6.out.1.trans (h3.mono G6.out.1.size)) ((chg_of (P := fun _ => False) h3).blk G6.out.2 fun q => q)); clear h3
  have c0 := G7.out.2.cell 0 (v := .string g) rfl
  have c1 := G7.out.2.cell 1 (v := .string t) rfl
  have c2 := G7.out.2.cell 2 (v := .int .i64 p) rfl
  have c3 := G7.out.2.cell 3 (v := .int .i64 o) rfl
  have cl := G7.out.2.lt
  go_wp2_with fail
  clear c0 c1 c2 c3 cl
  refine (H.out.2.2.2.2.1 w7).mono ?_
  rintro en w8 ⟨⟨v2, rfl, hv, -⟩, h3⟩
  obtain ⟨xo2, xt2, xk2, xv2, Ak2, nk2, ck2, Au2, nu2, cu2, rfl, -, -, -, -⟩ := hv.shown
  have R := R0.out
  have R0' := Lib.hid (And.intro ((chg_of (P := fun _ => False) h3).blk R.1 fun q => q) (R.2.below h3 (Nat.le_refl _))); clear R R0
  have R0 := R0'; clear R0'
  have R := R1.out
  have R1' := Lib.hid (And.intro ((chg_of (P := fun _ => False) h3).blk R.1 fun q => q) (R.2.below h3 (Nat.le_refl _))); clear R R1
  have R1 := R1'; clear R1'
  have G8 := Lib.hid (And.intro (G7.out.1.trans (h3.mono G7.out.1.size)) ((chg_of (P := fun _ => False) h3).blk G7.out.2 fun q => q)); clear h3
  have V := Lib.hid hv; clear hv
  go_upto_region 6 with fail
  obtain ⟨b3', hb'⟩ : ∃ b, b = w8.heap.size := ⟨_, rfl⟩
  obtain ⟨w9, hw'⟩ : ∃ w', w' = w8.alloc (.cells #[.int .i64 xo2, .int .i64 xt2, .bool xk2, .slice Ak2 nk2 ck2, .bool xv2, .slice Au2 nu2 cu2] 37) := ⟨_, rfl⟩
  have h3 : Below w8.heap.size w8 w9 := by rw [hw']; exact (Below.refl _ _).alloc (Nat.le_refl _) _
  have hkk : Blk w9 b3' 37 #[.int .i64 xo2, .int .i64 xt2, .bool xk2, .slice Ak2 nk2 ck2, .bool xv2, .slice Au2 nu2 cu2] := by rw [hw', hb']; exact Blk.new _ _ _
  rw [← hw', ← hb']
  clear hw' hb'
  have R := R0.out
  have R0' := Lib.hid (And.intro ((chg_of (P := fun _ => False) h3).blk R.1 fun q => q) (R.2.below h3 (Nat.le_refl _))); clear R R0
  have R0 := R0'; clear R0'
  have R := R1.out
  have R1' := Lib.hid (And.intro ((chg_of (P := fun _ => False) h3).blk R.1 fun q => q) (R.2.below h3 (Nat.le_refl _))); clear R R1
  have R1 := R1'; clear R1'
  have R2 := Lib.hid (And.intro hkk (V.out.below h3 (Nat.le_refl _))); clear hkk V
  have G9 := Lib.hid (And.intro (G8.out.1.trans (h3.mono G8.out.1.size)) ((chg_of (P := fun _ => False) h3).blk G8.out.2 fun q => q)); clear h3
  have c0 := G9.out.2.cell 0 (v := .string g) rfl
  have c1 := G9.out.2.cell 1 (v := .string t) rfl
  have c2 := G9.out.2.cell 2 (v := .int .i64 p) rfl
  have c3 := G9.out.2.cell 3 (v := .int .i64 o) rfl
  have cl := G9.out.2.lt
  go_wp2_with fail
  clear c0 c1 c2 c3 cl
  refine (H.out.2.2.2.2.2.1 w9).mono ?_
  rintro en w10 ⟨⟨v3, rfl, hv⟩, h3⟩
  obtain ⟨xo3, xt3, xk3, xv3, Ak3, nk3, ck3, Au3, nu3, cu3, rfl, -, -, -, -⟩ := hv.shown
  have R := R0.out
  have R0' := Lib.hid (And.intro ((chg_of (P := fun _ => False) h3).blk R.1 fun q => q) (R.2.below h3 (Nat.le_refl _))); clear R R0
  have R0 := R0'; clear R0'
  have R := R1.out
  have R1' := Lib.hid (And.intro ((chg_of (P := fun _ => False) h3).blk R.1 fun q => q) (R.2.below h3 (Nat.le_refl _))); clear R R1
  have R1 := R1'; clear R1'
  have R := R2.out
  have R2' := Lib.hid (And.intro ((chg_of (P := fun _ => False) h3).blk R.1 fun q => q) (R.2.below h3 (Nat.le_refl _))); clear R R2
  have R2 := R2'; clear R2'
  have G10 := Lib.hid (And.intro (G9.out.1.trans (h3.mono G9.out.1.size)) ((chg_of (P := fun _ => False) h3).blk G9.out.2 fun q => q)); clear h3
  have V := Lib.hid hv; clear hv
  go_upto_region 7 with fail
  obtain ⟨b4', hb'⟩ : ∃ b, b = w10.heap.size := ⟨_, rfl⟩
  obtain ⟨w11, hw'⟩ : ∃ w', w' = w10.alloc (.cells #[.int .i64 xo3, .int .i64 xt3, .bool xk3, .slice Ak3 nk3 ck3, .bool xv3, .slice Au3 nu3 cu3] 37) := ⟨_, rfl⟩
  have h3 : Below w10.heap.size w10 w11 := by rw [hw']; exact (Below.refl _ _).alloc (Nat.le_refl _) _
  have hkk : Blk w11 b4' 37 #[.int .i64 xo3, .int .i64 xt3, .bool xk3, .slice Ak3 nk3 ck3, .bool xv3, .slice Au3 nu3 cu3] := by rw [hw', hb']; exact Blk.new _ _ _
  rw [← hw', ← hb']
  clear hw' hb'
  have R := R0.out
  have R0' := Lib.hid (And.intro ((chg_of (P := fun _ => False) h3).blk R.1 fun q => q) (R.2.below h3 (Nat.le_refl _))); clear R R0
  have R0 := R0'; clear R0'
  have R := R1.out
  have R1' := Lib.hid (And.intro ((chg_of (P := fun _ => False) h3).blk R.1 fun q => q) (R.2.below h3 (Nat.le_refl _))); clear R R1
  have R1 := R1'; clear R1'
  have R := R2.out
  have R2' := Lib.hid (And.intro ((chg_of (P := fun _ => False) h3).blk R.1 fun q => q) (R.2.below h3 (Nat.le_refl _))); clear R R2
  have R2 := R2'; clear R2'
  have R3 := Lib.hid (And.intro hkk (V.out.below h3 (Nat.le_refl _))); clear hkk V
  have G11 := Lib.hid (And.intro (G10.out.1.trans (h3.mono G10.out.1.size)) ((chg_of (P := fun _ => False) h3).blk G10.out.2 fun q => q)); clear h3
  have d0 := R0.out.1.cell 0 (v := .int .i64 xo0) rfl
  have d1 := R0.out.1.cell 1 (v := .int .i64 xt0) rfl
  have d2 := R0.out.1.cell 2 (v := .bool xk0) rfl
  have d3 := R0.out.1.cell 3 (v := .slice Ak0 nk0 ck0) rfl
  have d4 := R0.out.1.cell 4 (v := .bool xv0) rfl
  have d5 := R0.out.1.cell 5 (v := .slice Au0 nu0 cu0) rfl
  have dl := R0.out.1.lt
  have e0 := R1.out.1.cell 0 (v := .int .i64 xo1) rfl
  have e1 := R1.out.1.cell 1 (v := .int .i64 xt1) rfl
  have e2 := R1.out.1.cell 2 (v := .bool xk1) rfl
  have e3 := R1.out.1.cell 3 (v := .slice Ak1 nk1 ck1) rfl
  have e4 := R1.out.1.cell 4 (v := .bool xv1) rfl
  have e5 := R1.out.1.cell 5 (v := .slice Au1 nu1 cu1) rfl
  have el := R1.out.1.lt
  go_wp2_with fail
  clear d0 d1 d2 d3 d4 d5 dl e0 e1 e2 e3 e4 e5 el
  refine (cm.samerec_any R0.out.2 R1.out.2).mono ?_
  rintro en w12 ⟨rfl, h3⟩
  have R := R2.out
  have R2' := Lib.hid (And.intro ((chg_of (P := fun _ => False) h3).blk R.1 fun q => q) (R.2.below h3 (Nat.le_refl _))); clear R R2
  have R2 := R2'; clear R2'
  have R := R3.out
  have R3' := Lib.hid (And.intro ((chg_of (P := fun _ => False) h3).blk R.1 fun q => q) (R.2.below h3 (Nat.le_refl _))); clear R R3
  have R3 := R3'; clear R3'
  have G12 := Lib.hid (G11.out.1.trans (h3.mono G11.out.1.size)); clear h3
  have d0 := R2.out.1.cell 0 (v := .int .i64 xo2) rfl
  have d1 := R2.out.1.cell 1 (v := .int .i64 xt2) rfl
  have d2 := R2.out.1.cell 2 (v := .bool xk2) rfl
  have d3 := R2.out.1.cell 3 (v := .slice Ak2 nk2 ck2) rfl
  have d4 := R2.out.1.cell 4 (v := .bool xv2) rfl
  have d5 := R2.out.1.cell 5 (v := .slice Au2 nu2 cu2) rfl
  have dl := R2.out.1.lt
  have e0 := R3.out.1.cell 0 (v := .int .i64 xo3) rfl
  have e1 := R3.out.1.cell 1 (v := .int .i64 xt3) rfl
  have e2 := R3.out.1.cell 2 (v := .bool xk3) rfl
  have e3 := R3.out.1.cell 3 (v := .slice Ak3 nk3 ck3) rfl
  have e4 := R3.out.1.cell 4 (v := .bool xv3) rfl
  have e5 := R3.out.1.cell 5 (v := .slice Au3 nu3 cu3) rfl
  have el := R3.out.1.lt
  have dc : (c == c) = true := by simp
  have dd : (d == d) = true := by simp
  go_wp2_with fail
  clear d0 d1 d2 d3 d4 d5 dl e0 e1 e2 e3 e4 e5 el
  refine (cm.samerec_any R2.out.2 R3.out.2).mono ?_
  rintro en w13 ⟨rfl, h3⟩
  have G13 := Lib.hid (G12.out.trans (h3.mono G12.out.size)); clear h3
  go_wp2_with fail
  refine (H.out.1 _).mono ?_
  rintro en w14 ⟨rfl, h3⟩
  have G14 := Lib.hid (G13.out.trans (h3.mono G13.out.size)); clear h3
  go_wp2_with fail
  go_ret
  exact ⟨rfl, G14.out⟩
end Go.Proofs.Ytkkpbnhagobhmaa

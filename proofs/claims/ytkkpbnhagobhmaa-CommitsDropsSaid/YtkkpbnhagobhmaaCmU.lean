/- commits: CommitsDrops' law, its walk (chapter 18). -/
import Derived.BigQuiet
import Derived.Test.YtkkpbnhagobhmaaCmT
import Derived.Deep.Cut
import Derived.Deep.CutRange
import Derived.Deep.CutBlock
namespace Go.Proofs.Ytkkpbnhagobhmaa
open Go.RowKit Go.Maps
set_option maxRecDepth 100000
/-- Behind the first region: both entries are put, the floor is raised, their places are two. -/
def cm.Mid (w wx : World) (b0 : Nat) (e f : CEnt) (gen : Int) (p mo mf : Nat) : Prop :=
  ∃ x y : PlK, x.g = e.grp ∧ x.t = e.top ∧ x.p = e.part ∧ y.g = f.grp ∧ y.t = f.top ∧ y.p = f.part ∧ y ≠ x ∧ e.ok = true ∧ cm.gen e.grp gen = true ∧ DSt w wx b0 (b0 + 1) e f p mo mf (((CTab.zero.put x e.off).put y f.off).raise e.grp gen) 3
set_option maxHeartbeats 8000000 in
theorem law18.drops (e f : CEnt) (gen : Int) (w : World) (hfe : e.fit) (hff : f.fit) (_hbe : e.bd) (_hbf : f.bd) :
    Calls Try.prog 6 #[.agg e.cells, .agg f.cells, .int .i64 gen] w fun en w' => en = .returned (.bool true) ∧ Below w.heap.size w w' := by
  have haw := fun wx => law18.awake_any wx
  have hme := fun wx => cm.made_any e wx
  have hmf := fun wx => cm.made_any f wx
  have hpe := fun p wx (h : e.ok = false) => cm.put_bad e p wx hfe h
  have hpf := fun p wx (h : f.ok = false) => cm.put_bad f p wx hff h
  have hqe := cm.puts e
  have hqf := cm.puts f
  have hgb := fun p wx (h : cm.gen e.grp gen = false) => cm.tgen_bad e.grp gen p wx hfe.1 h
  have hgo := fun p mo mf T n wx ht (h : cm.gen e.grp gen = true) hn => cm.tgen_ok e.grp gen p mo mf T n wx ht h hn
  have hrec := fun wx (h : e.ok = true) => cm.record_any e 0 wx hfe
  have hgrec := fun wx (h : cm.gen e.grp gen = true) => cm.genrec_any e.grp gen 0 wx hfe.1
  have htop := fun wx => cm.reftopic_any e.grp wx hfe.1
  have hfl := fun p mo mf T n wx ht => cm.floor_any e.grp hfe.1 p mo mf T n wx ht
  obtain ⟨g, t, q, o⟩ := e
  obtain ⟨g2, t2, q2, o2⟩ := f
  simp only [CEnt.fit] at hfe hff
  have hgs := hfe.1
  have hts := hfe.2
  have hgs2 := hff.1
  have hts2 := hff.2
  have hsum := fun wx : World => alike.sum_all (g.size : Int) (some ⟨wx.heap.size, 0, none⟩) 3 3 [(t.size : Int), (g2.size : Int), (t2.size : Int)] (wx.alloc (.cells #[.int .i64 (t.size : Int), .int .i64 (g2.size : Int), .int .i64 (t2.size : Int)] 3)) (by omega) (by omega) (by omega) rfl (alike.at_ints wx [(t.size : Int), (g2.size : Int), (t2.size : Int)] 3) (fun x hx => by simp only [List.mem_cons, List.not_mem_nil, or_false] at hx; unfold maxLen at hts hgs2 hts2; omega)
  obtain ⟨S, hS⟩ : ∃ S, S = alike.sum (g.size : Int) [(t.size : Int), (g2.size : Int), (t2.size : Int)] := ⟨_, rfl⟩
  rw [← hS] at hsum
  clear hS hfe hff
  obtain ⟨b0, hb0⟩ : ∃ b, b = w.heap.size := ⟨_, rfl⟩
  obtain ⟨w1, hw1⟩ : ∃ w1, w1 = w.alloc (.cells #[.string g, .string t, .int .i64 q, .int .i64 o] 24) := ⟨_, rfl⟩
  have hk1 : Blk w1 b0 24 #[.string g, .string t, .int .i64 q, .int .i64 o] := by rw [hw1, hb0]; exact Blk.new _ _ _
  have hb1 : Below w.heap.size w w1 := by rw [hw1]; exact (Below.refl _ _).alloc (Nat.le_refl _) _
  have hs1 : w1.heap.size = b0 + 1 := by rw [hw1, hb0]; simp
  obtain ⟨w2, hw2⟩ : ∃ w2, w2 = w1.alloc (.cells #[.string g2, .string t2, .int .i64 q2, .int .i64 o2] 24) := ⟨_, rfl⟩
  have hk2 : Blk w2 b0 24 #[.string g, .string t, .int .i64 q, .int .i64 o] := by rw [hw2]; exact (Chg.alloc w1 _ (fun _ => False)).blk hk1 fun q => q
  have hz2 : Blk w2 (b0 + 1) 24 #[.string g2, .string t2, .int .i64 q2, .int .i64 o2] := by rw [hw2, ← hs1]; exact Blk.new _ _ _
  have hb2 : Below w.heap.size w w2 := by rw [hw2]; exact hb1.alloc hb1.size _
  have hs2 : w2.heap.size = b0 + 2 := by rw [hw2]; simp [hs1]
  simp only [CEnt.cells] at hme hmf hpe hpf hqe hqf hgb hgo hrec hgrec htop hfl ⊢
  have H := Lib.hid (And.intro haw (And.intro hme (And.intro hmf (And.intro hpe (And.intro hpf (And.intro hqe (And.intro hqf (And.intro hgb (And.intro hgo (And.intro hrec (And.intro hgrec (And.intro htop (And.intro hfl hsum)))))))))))))
  clear haw hme hmf hpe hpf hqe hqf hgb hgo hrec hgrec htop hfl hsum
  go_enter Try.func6, Try.ntmps6
  go_upto_region 1 with fail
  rw [show w.heap.size + 1 = b0 + 1 by rw [hb0], ← hb0, ← hw1, ← hw2]
  have HW2 := Lib.hid (And.intro hb2 (And.intro hk2 (And.intro hz2 (And.intro hs2 hb0)))); clear hb2 hs2 hb0 hw1 hw2 hs1 hb1 hk1
  have c0 := hk2.cell 0 (v := .string g) rfl
  have c1 := hk2.cell 1 (v := .string t) rfl
  have e0 := hz2.cell 0 (v := .string g2) rfl
  have e1 := hz2.cell 1 (v := .string t2) rfl
  have cl := hk2.lt
  have el := hz2.lt
  unfold maxLen at hgs hts hgs2 hts2
  by_cases hS : 300 < S
  · have dS : decide (300 < S) = true := decide_eq_true hS
    go_wp2_with (go_at_call 8; refine (H.out.2.2.2.2.2.2.2.2.2.2.2.2.2 _).mono ?_; rintro a w' ⟨rfl, h3⟩; subst h3)
    refine (H.out.1 _).mono ?_
    rintro en w3 ⟨rfl, h2⟩
    have HB := Lib.hid ((HW2.out.1.alloc HW2.out.1.size (.cells #[.int .i64 (t.size : Int), .int .i64 (g2.size : Int), .int .i64 (t2.size : Int)] 3)).trans (h2.mono (Nat.le_trans HW2.out.1.size (by simp)))); clear h2
    go_wp2_with fail
    go_ret
    exact ⟨rfl, HB.out⟩
  have dS : decide (300 < S) = false := decide_eq_false hS
  go_upto_region 3 with (go_at_call 8; refine (H.out.2.2.2.2.2.2.2.2.2.2.2.2.2 _).mono ?_; rintro a w' ⟨rfl, h3⟩; subst h3)
  obtain ⟨w3, hw3⟩ : ∃ w2', w2' = w2.alloc (.cells #[.int .i64 (t.size : Int), .int .i64 (g2.size : Int), .int .i64 (t2.size : Int)] 3) := ⟨_, rfl⟩
  have hb3 : Below w2.heap.size w2 w3 := by rw [hw3]; exact (Below.refl _ _).alloc (Nat.le_refl _) _
  have hs3 : w2.heap.size ≤ w3.heap.size := hb3.size
  rw [← hw3]
  clear hw3 c0 c1 cl e0 e1 el dS hS hgs hts hgs2 hts2
  go_wp2_with fail
  refine (cm.new_any w3).mono ?_
  rintro en w4 ⟨rfl, ht4, hb4⟩
  have hD4 : DSt w w4 b0 (b0 + 1) ⟨g, t, q, o⟩ ⟨g2, t2, q2, o2⟩ (w3.heap.size + 2) w3.heap.size (w3.heap.size + 1) CTab.zero 0 := by
    have hbb := hb3.trans (hb4.mono hb3.size)
    have h1 := HW2.out.2.2.2
    exact ⟨(chg_of (P := fun _ => False) hbb).blk HW2.out.2.1 fun q => q, (chg_of (P := fun _ => False) hbb).blk HW2.out.2.2.1 fun q => q, ht4, HW2.out.1.trans (hbb.mono HW2.out.1.size), by omega⟩
  have hpw : w.heap.size ≤ w3.heap.size := by have h1 := HW2.out.2.2.2; omega
  obtain ⟨p, hp⟩ : ∃ p, p = w3.heap.size + 2 := ⟨_, rfl⟩
  obtain ⟨mf, hmf⟩ : ∃ p, p = w3.heap.size + 1 := ⟨_, rfl⟩
  obtain ⟨mo, hmo⟩ : ∃ p, p = w3.heap.size := ⟨_, rfl⟩
  rw [← hp, ← hmf, ← hmo] at hD4
  rw [← hp]
  have hordp : b0 + 1 < p ∧ mo < p ∧ mf < p := by have h1 := hD4.ord; omega
  clear hp hmf hmo hpw ht4 hb4 hb3 hs3 hk2 hz2
  have D4 := Lib.hid (And.intro hD4 hordp); clear hD4 hordp HW2
  have k0 := D4.out.1.be.cell 0 (v := .string g) rfl
  have k1 := D4.out.1.be.cell 1 (v := .string t) rfl
  have k2 := D4.out.1.be.cell 2 (v := .int .i64 q) rfl
  have k3 := D4.out.1.be.cell 3 (v := .int .i64 o) rfl
  have kl := D4.out.1.be.lt
  go_upto_region 4 with fail
  go_cut [77] from 33 (fun s77 wx => (s77 = .bool true ∧ Below w.heap.size w wx) ∨ (s77 = .bool false ∧ cm.Mid w wx b0 ⟨g, t, q, o⟩ ⟨g2, t2, q2, o2⟩ gen p mo mf))
  case first =>
    go_wp2_with fail
    clear k0 k1 k2 k3 kl
    refine (H.out.2.1 w4).mono ?_
    rintro en w5 ⟨rfl, h5⟩
    have D5 := Lib.hid (D4.out.1.below h5); clear h5
    cases hoe : (⟨g, t, q, o⟩ : CEnt).ok with
    | false =>
      have HP := Lib.hid (H.out.2.2.2.1 p w5 hoe)
      go_wp2_with fail
      refine HP.out.mono ?_
      rintro en w6 ⟨rfl, h6⟩
      have D6 := Lib.hid (D5.out.below h6); clear h6
      go_wp2_with fail
      go_meet
      case rel => exact .inl ⟨rfl, D6.out.bel⟩
    | true =>
    obtain ⟨x, hx1, hx2, hx3, hputx⟩ := H.out.2.2.2.2.2.1 hoe
    have HPX := Lib.hid (And.intro hx1 (And.intro hx2 (And.intro hx3 hputx))); clear hx1 hx2 hx3 hputx
    have HOE := Lib.hid hoe; clear hoe
    go_wp2_with fail
    refine (HPX.out.2.2.2 w5 p mo mf CTab.zero 0 D5.out.tab (by decide)).mono ?_
    rintro en w6 ⟨rfl, ht6, hc6⟩
    have D6 := Lib.hid (D5.out.does ht6 hc6); clear ht6 hc6
    have k0 := D6.out.bf.cell 0 (v := .string g2) rfl
    have k1 := D6.out.bf.cell 1 (v := .string t2) rfl
    have k2 := D6.out.bf.cell 2 (v := .int .i64 q2) rfl
    have k3 := D6.out.bf.cell 3 (v := .int .i64 o2) rfl
    have kl := D6.out.bf.lt
    go_wp2_with fail
    clear k0 k1 k2 k3 kl
    refine (H.out.2.2.1 w6).mono ?_
    rintro en w7 ⟨rfl, h5⟩
    have D7 := Lib.hid (D6.out.below h5); clear h5
    cases hof : (⟨g2, t2, q2, o2⟩ : CEnt).ok with
    | false =>
      have HP := Lib.hid (H.out.2.2.2.2.1 p w7 hof)
      go_wp2_with fail
      refine HP.out.mono ?_
      rintro en w8 ⟨rfl, h6⟩
      have D8 := Lib.hid (D7.out.below h6); clear h6
      go_wp2_with fail
      go_meet
      case rel => exact .inl ⟨rfl, D8.out.bel⟩
    | true =>
    obtain ⟨y, hy1, hy2, hy3, hputy⟩ := H.out.2.2.2.2.2.2.1 hof
    have HPY := Lib.hid (And.intro hy1 (And.intro hy2 (And.intro hy3 hputy))); clear hy1 hy2 hy3 hputy
    clear hof
    go_wp2_with fail
    refine (HPY.out.2.2.2 w7 p mo mf _ _ D7.out.tab (by decide)).mono ?_
    rintro en w8 ⟨rfl, ht8, hc8⟩
    have D8 := Lib.hid (D7.out.does ht8 hc8); clear ht8 hc8
    have k0 := D8.out.be.cell 0 (v := .string g) rfl
    have kl := D8.out.be.lt
    cases hog : cm.gen g gen with
    | false =>
      have HP := Lib.hid (H.out.2.2.2.2.2.2.2.1 p w8 hog)
      go_wp2_with fail
      refine HP.out.mono ?_
      rintro en w9 ⟨rfl, h6⟩
      subst h6
      go_wp2_with fail
      go_meet
      case rel => exact .inl ⟨rfl, D8.out.bel⟩
    | true =>
    go_wp2_with fail
    clear k0 kl
    refine (H.out.2.2.2.2.2.2.2.2.1 p mo mf _ _ w8 D8.out.tab hog (by decide)).mono ?_
    rintro en w9 ⟨rfl, ht9, hc9⟩
    have D9 := Lib.hid (D8.out.does ht9 hc9); clear ht9 hc9
    have k0 := D9.out.be.cell 0 (v := .string g) rfl
    have k1 := D9.out.be.cell 1 (v := .string t) rfl
    have k2 := D9.out.be.cell 2 (v := .int .i64 q) rfl
    have k3 := D9.out.be.cell 3 (v := .int .i64 o) rfl
    have kl := D9.out.be.lt
    have m0 := D9.out.bf.cell 0 (v := .string g2) rfl
    have m1 := D9.out.bf.cell 1 (v := .string t2) rfl
    have m2 := D9.out.bf.cell 2 (v := .int .i64 q2) rfl
    have m3 := D9.out.bf.cell 3 (v := .int .i64 o2) rfl
    have ml := D9.out.bf.lt
    by_cases hall : g = g2 ∧ t = t2 ∧ q = q2
    · as_aux_lemma =>
      obtain ⟨h1, h2, h3⟩ := hall
      subst h1 h2 h3
      go_wp2_with fail
      go_meet
      case rel => exact .inl ⟨rfl, D9.out.bel⟩
    have hxy : y ≠ x := fun h => hall (by
      have h1 := HPX.out
      have h2 := HPY.out
      rw [h] at h2
      exact ⟨h1.1.symm.trans h2.1, h1.2.1.symm.trans h2.2.1, h1.2.2.1.symm.trans h2.2.2.1⟩)
    have HXY := Lib.hid hxy; clear hxy
    have HOG := Lib.hid hog; clear hog
    have hway : g ≠ g2 ∨ (g = g2 ∧ t ≠ t2) ∨ (g = g2 ∧ t = t2 ∧ q ≠ q2) := by
      by_cases h1 : g = g2
      · by_cases h2 : t = t2
        · exact .inr (.inr ⟨h1, h2, fun h3 => hall ⟨h1, h2, h3⟩⟩)
        · exact .inr (.inl ⟨h1, h2⟩)
      · exact .inl h1
    clear hall
    have HM := Lib.hid (⟨x, y, HPX.out.1, HPX.out.2.1, HPX.out.2.2.1, HPY.out.1, HPY.out.2.1, HPY.out.2.2.1, HXY.out, HOE.out, HOG.out, D9.out⟩ : cm.Mid w w9 b0 ⟨g, t, q, o⟩ ⟨g2, t2, q2, o2⟩ gen p mo mf)
    rcases hway with h1 | ⟨h1, h2⟩ | ⟨h1, h2, h3⟩
    · have s1 := cm.str_ne h1
      clear h1
      go_wp2_with fail
      go_meet
      case rel => exact .inr ⟨rfl, HM.out⟩
    · subst h1
      have s1 := cm.str_ne h2
      clear h2
      go_wp2_with fail
      go_meet
      case rel => exact .inr ⟨rfl, HM.out⟩
    · subst h1 h2
      have s1 : (q == q2) = false := by simpa using h3
      clear h3
      go_wp2_with fail
      go_meet
      case rel => exact .inr ⟨rfl, HM.out⟩
  case rest =>
  rcases hcut with ⟨rfl, hbel⟩ | ⟨rfl, x, y, hx1, hx2, hx3, hy1, hy2, hy3, hxy, hoe, hog, hD⟩
  · have HB := Lib.hid hbel; clear hbel
    go_wp2_with fail
    refine (H.out.1 wc).mono ?_
    rintro en wz ⟨rfl, h7⟩
    have HC := Lib.hid (HB.out.trans (h7.mono HB.out.size)); clear h7
    go_wp2_with fail
    go_ret
    exact ⟨rfl, HC.out⟩
  subst hx1 hx2 hx3 hy1 hy2 hy3
  obtain ⟨T3, hT3⟩ : ∃ T3, T3 = ((CTab.zero.put x o).put y o2).raise x.g gen := ⟨_, rfl⟩
  have f1 : (T3.del x).off y = some o2 := by rw [hT3, CTab.del_other _ hxy]; exact CTab.put_off _ _ _
  have f2 : (T3.del x).off x = none := CTab.del_off _ _
  have f3 : (T3.del x).flo x.g = gen := by
    rw [hT3]
    show (if x.g = x.g then max (0 : Int) gen else 0) = gen
    rw [if_pos rfl]
    have := (cm.gen_facts hog).2.1
    omega
  have f4 : ((T3.del x).sink x.g).flo x.g = 0 := if_pos rfl
  have D := Lib.hid (show DSt w wc b0 (b0 + 1) ⟨x.g, x.t, x.p, o⟩ ⟨y.g, y.t, y.p, o2⟩ p mo mf T3 3 by rw [hT3]; exact hD)
  have F := Lib.hid (And.intro f1 (And.intro f2 (And.intro f3 (And.intro f4 (And.intro hoe hog)))))
  have HP := Lib.hid D4.out.2
  clear f1 f2 f3 f4 hT3 hD hoe hog hxy D4
  have k0 := D.out.be.cell 0 (v := .string x.g) rfl
  have k1 := D.out.be.cell 1 (v := .string x.t) rfl
  have k2 := D.out.be.cell 2 (v := .int .i64 x.p) rfl
  have k3 := D.out.be.cell 3 (v := .int .i64 o) rfl
  have kl := D.out.be.lt
  go_wp2_with fail
  clear k0 k1 k2 k3 kl
  refine (H.out.2.1 wc).mono ?_
  rintro en w10 ⟨rfl, h3⟩
  have D10 := Lib.hid (D.out.below h3); clear h3 D
  have hrc := H.out.2.2.2.2.2.2.2.2.2.1 w10 F.out.2.2.2.2.1
  simp only [if_pos (cm.may_zero F.out.2.2.2.2.1)] at hrc
  have HRC := Lib.hid hrc; clear hrc
  go_wp2_with fail
  refine HRC.out.mono ?_
  rintro en w11 ⟨⟨v, rfl, hv⟩, h3⟩
  clear HRC
  obtain ⟨xo, xt, xk, xv, Ak, nk, ck, Au, nu, cu, rfl, rfl, rfl, rfl, rfl, hk, -⟩ := hv.shown2
  have D11 := Lib.hid (D10.out.below h3); clear h3 D10 hv
  have K := Lib.hid hk; clear hk
  simp only [CEnt.told]
  go_upto_region 7 with fail
  obtain ⟨b8, hb8⟩ : ∃ b, b = w11.heap.size := ⟨_, rfl⟩
  obtain ⟨w12, hw12⟩ : ∃ w', w' = w11.alloc (.cells #[.int .i64 0, .int .i64 0, .bool true, .slice Ak nk ck, .bool true, .slice Au nu cu] 37) := ⟨_, rfl⟩
  have h3 : Below w11.heap.size w11 w12 := by rw [hw12]; exact (Below.refl _ _).alloc (Nat.le_refl _) _
  have hk8 : Blk w12 b8 37 #[.int .i64 0, .int .i64 0, .bool true, .slice Ak nk ck, .bool true, .slice Au nu cu] := by rw [hw12, hb8]; exact Blk.new _ _ _
  have hb8' : w.heap.size ≤ b8 ∧ b8 ≠ b0 ∧ b8 ≠ b0 + 1 ∧ b8 ≠ p ∧ b8 ≠ mo ∧ b8 ≠ mf := by
    have h1 := D11.out.tab.lt
    have h2 := D11.out.bf.lt
    have h5 := D11.out.bel.size
    omega
  rw [← hw12, ← hb8]
  clear hw12 hb8
  have D12 := Lib.hid (D11.out.below h3)
  have K8 := Lib.hid (And.intro hk8 (And.intro (K.out.below h3 (Nat.le_refl _)) hb8')); clear hk8 h3 hb8' K D11
  have k0 := D12.out.be.cell 0 (v := .string x.g) rfl
  have kl := D12.out.be.lt
  have hrc := H.out.2.2.2.2.2.2.2.2.2.2.1 w12 F.out.2.2.2.2.2
  simp only [if_pos (cm.gmay_zero F.out.2.2.2.2.2)] at hrc
  have HRC := Lib.hid hrc; clear hrc
  go_wp2_with fail
  clear k0 kl
  refine HRC.out.mono ?_
  rintro en w13 ⟨⟨v, rfl, hv⟩, h3⟩
  clear HRC
  obtain ⟨xo, xt, xk, xv, Ag, ng, cg, Ah, nh, ch, rfl, rfl, rfl, rfl, rfl, hk, -⟩ := hv.shown2
  have D13 := Lib.hid (D12.out.below h3)
  have K8' := Lib.hid (And.intro ((chg_of (P := fun _ => False) h3).blk K8.out.1 fun q => q) (And.intro (K8.out.2.1.below h3 (Nat.le_refl _)) K8.out.2.2)); clear K8 h3 D12 hv
  have K := Lib.hid hk; clear hk
  simp only [cm.grec]
  go_upto_region 8 with fail
  obtain ⟨b10, hb10⟩ : ∃ b, b = w13.heap.size := ⟨_, rfl⟩
  obtain ⟨w14, hw14⟩ : ∃ w', w' = w13.alloc (.cells #[.int .i64 0, .int .i64 0, .bool true, .slice Ag ng cg, .bool true, .slice Ah nh ch] 37) := ⟨_, rfl⟩
  have h3 : Below w13.heap.size w13 w14 := by rw [hw14]; exact (Below.refl _ _).alloc (Nat.le_refl _) _
  have hk10 : Blk w14 b10 37 #[.int .i64 0, .int .i64 0, .bool true, .slice Ag ng cg, .bool true, .slice Ah nh ch] := by rw [hw14, hb10]; exact Blk.new _ _ _
  have hb10' : w.heap.size ≤ b10 ∧ b10 ≠ b0 ∧ b10 ≠ b0 + 1 ∧ b10 ≠ p ∧ b10 ≠ mo ∧ b10 ≠ mf := by
    have h1 := D13.out.tab.lt
    have h2 := D13.out.bf.lt
    have h5 := D13.out.bel.size
    omega
  have h810 : b8 ≠ b10 := by have := K8'.out.1.lt; omega
  rw [← hw14, ← hb10]
  clear hw14 hb10
  have D14 := Lib.hid (D13.out.below h3)
  have hk8 := (chg_of (P := fun _ => False) h3).blk K8'.out.1 fun q => q
  have c4 := hk8.cell 4 (v := .bool true) rfl
  have c5 := hk8.cell 5 (v := .slice Au nu cu) rfl
  have g4 := hk8.frozen 4
  have g5 := hk8.frozen 5
  have cl := hk8.lt
  have K8 := Lib.hid (And.intro hk8 (And.intro (K8'.out.2.1.below h3 (Nat.le_refl _)) K8'.out.2.2))
  have K10 := Lib.hid (And.intro hk10 (And.intro (K.out.below h3 (Nat.le_refl _)) hb10')); clear hk8 hk10 h3 hb10' K D13 K8'
  go_upto_region 9 with fail
  clear c4 c5 g4 g5 cl
  obtain ⟨w15, hw15⟩ : ∃ w', w' = (w14.setCell ⟨b8, 4, none⟩ (.bool false)).setCell ⟨b8, 5, none⟩ (.slice none 0 0) := ⟨_, rfl⟩
  rw [← hw15]
  have D15 := Lib.hid (show DSt w w15 b0 (b0 + 1) ⟨x.g, x.t, x.p, o⟩ ⟨y.g, y.t, y.p, o2⟩ p mo mf T3 3 by rw [hw15]; exact (D14.out.set b8 4 _ K8.out.2.2).set b8 5 _ K8.out.2.2)
  have hA := (K8.out.1.set 4 (.bool false)).set 5 (.slice none 0 0)
  rw [← hw15] at hA
  have hB := (K8.out.2.1.rset K8.out.1 4 (.bool false)).rset (xv := false) (K8.out.1.set 4 (.bool false)) 5 (.slice none 0 0)
  rw [← hw15] at hB
  have hC := (Chg.setCell _ b8 5 (.slice none 0 0)).blk ((Chg.setCell w14 b8 4 (.bool false)).blk K10.out.1 fun q => h810 q.symm) fun q => h810 q.symm
  rw [← hw15] at hC
  have hE := (K10.out.2.1.rset K8.out.1 4 (.bool false)).rset (xv := false) (K8.out.1.set 4 (.bool false)) 5 (.slice none 0 0)
  rw [← hw15] at hE
  have K8' := Lib.hid (show Blk w15 b8 37 #[.int .i64 0, .int .i64 0, .bool true, .slice Ak nk ck, .bool false, .slice none 0 0] ∧ _ from And.intro hA (And.intro hB K8.out.2.2))
  have K10' := Lib.hid (And.intro hC (And.intro hE K10.out.2.2))
  have c4 := hC.cell 4 (v := .bool true) rfl
  have c5 := hC.cell 5 (v := .slice Ah nh ch) rfl
  have g4 := hC.frozen 4
  have g5 := hC.frozen 5
  have cl := hC.lt
  clear hw15 hA hB hC hE K8 K10 D14
  go_upto_region 10 with fail
  clear c4 c5 g4 g5 cl
  obtain ⟨w16, hw16⟩ : ∃ w', w' = (w15.setCell ⟨b10, 4, none⟩ (.bool false)).setCell ⟨b10, 5, none⟩ (.slice none 0 0) := ⟨_, rfl⟩
  rw [← hw16]
  have D16 := Lib.hid (show DSt w w16 b0 (b0 + 1) ⟨x.g, x.t, x.p, o⟩ ⟨y.g, y.t, y.p, o2⟩ p mo mf T3 3 by rw [hw16]; exact (D15.out.set b10 4 _ K10'.out.2.2).set b10 5 _ K10'.out.2.2)
  have hA := (K10'.out.1.set 4 (.bool false)).set 5 (.slice none 0 0)
  rw [← hw16] at hA
  have hB := (K10'.out.2.1.rset K10'.out.1 4 (.bool false)).rset (xv := false) (K10'.out.1.set 4 (.bool false)) 5 (.slice none 0 0)
  rw [← hw16] at hB
  have hC := (Chg.setCell _ b10 5 (.slice none 0 0)).blk ((Chg.setCell w15 b10 4 (.bool false)).blk K8'.out.1 fun q => h810 q) fun q => h810 q
  rw [← hw16] at hC
  have hE := (K8'.out.2.1.rset K10'.out.1 4 (.bool false)).rset (xv := false) (K10'.out.1.set 4 (.bool false)) 5 (.slice none 0 0)
  rw [← hw16] at hE
  have K10 := Lib.hid (show Blk w16 b10 37 #[.int .i64 0, .int .i64 0, .bool true, .slice Ag ng cg, .bool false, .slice none 0 0] ∧ _ from And.intro hA (And.intro hB K10'.out.2.2))
  have hvv : cm.RecV w16 (.agg #[.int .i64 0, .int .i64 0, .bool true, .slice Ak nk ck, .bool false, .slice none 0 0]) ⟨0, 0, true, (⟨x.g, x.t, x.p, o⟩ : CEnt).key, false, []⟩ := ⟨_, _, rfl, hE, cm.nil_bytes _⟩
  have hap := cm.apply_any _ _ p mo mf T3 3 w16 hvv D16.out.tab (by decide)
  rw [cm.act_tomb (e := ⟨x.g, x.t, x.p, o⟩) 0 [] F.out.2.2.2.2.1, CTab.app_del T3 (x := x) rfl rfl rfl, show cm.code (some (CAct.del ⟨x.g, x.t, x.p, 0⟩)) = 0 from rfl] at hap
  have HAP := Lib.hid hap
  have d0 := hC.cell 0 (v := .int .i64 0) rfl
  have d1 := hC.cell 1 (v := .int .i64 0) rfl
  have d2 := hC.cell 2 (v := .bool true) rfl
  have d3 := hC.cell 3 (v := .slice Ak nk ck) rfl
  have d4 := hC.cell 4 (v := .bool false) rfl
  have d5 := hC.cell 5 (v := .slice none 0 0) rfl
  have dl := hC.lt
  clear hw16 hA hB hC hE K8' K10' D15 hap hvv
  go_wp2_with fail
  clear d0 d1 d2 d3 d4 d5 dl
  refine HAP.out.mono ?_
  rintro en w18 ⟨rfl, ht, hc⟩
  have D18 := Lib.hid (D16.out.does ht hc)
  have hk := hc.blk K10.out.1 (fun q => q.elim (fun q => K10.out.2.2.2.2.2.2.1 q) fun q => K10.out.2.2.2.2.2.2.2 q)
  have hkb := K10.out.2.1.tab D16.out.tab hc
  have K18 := Lib.hid (And.intro hk (And.intro hkb K10.out.2.2)); clear ht hc hk hkb K10 HAP D16
  have k0 := D18.out.be.cell 0 (v := .string x.g) rfl
  have k1 := D18.out.be.cell 1 (v := .string x.t) rfl
  have k2 := D18.out.be.cell 2 (v := .int .i64 x.p) rfl
  have k3 := D18.out.be.cell 3 (v := .int .i64 o) rfl
  have kl := D18.out.be.lt
  have m0 := D18.out.bf.cell 0 (v := .string y.g) rfl
  have m1 := D18.out.bf.cell 1 (v := .string y.t) rfl
  have m2 := D18.out.bf.cell 2 (v := .int .i64 y.p) rfl
  have m3 := D18.out.bf.cell 3 (v := .int .i64 o2) rfl
  have ml := D18.out.bf.lt
  have hg1 := cm.get_any x p mo mf _ _ w18 D18.out.tab
  have hg2 := cm.get_any y p mo mf _ _ w18 D18.out.tab
  rw [F.out.2.1] at hg1
  rw [F.out.1] at hg2
  have hfl := H.out.2.2.2.2.2.2.2.2.2.2.2.2.1 p mo mf _ _ w18 D18.out.tab
  simp only [F.out.2.2.1] at hfl
  have HG := Lib.hid (And.intro hg1 (And.intro hg2 hfl)); clear hg1 hg2 hfl
  have s1 : (o2 == o2) = true := by simp
  have s2 : (gen == gen) = true := by simp
  go_wp2_with fail
  refine HG.out.1.mono ?_
  rintro en wz ⟨rfl, h3⟩
  subst h3
  go_wp2_with fail
  refine HG.out.2.1.mono ?_
  rintro en wz ⟨rfl, h3⟩
  subst h3
  simp only [Option.getD_some, Option.isSome_some]
  go_wp2_with fail
  refine HG.out.2.2.mono ?_
  rintro en wz ⟨rfl, h3⟩
  subst h3
  clear HG
  have hvv : cm.RecV w18 (.agg #[.int .i64 0, .int .i64 0, .bool true, .slice Ag ng cg, .bool false, .slice none 0 0]) ⟨0, 0, true, cm.gkey x.g, false, []⟩ := ⟨_, _, rfl, K18.out.2.1, cm.nil_bytes _⟩
  have hap := cm.apply_any _ _ p mo mf (T3.del x) 4 w18 hvv D18.out.tab (by decide)
  rw [cm.act_gtomb 0 [] F.out.2.2.2.2.2, show cm.code (some (CAct.down x.g)) = 0 from rfl, show (T3.del x).app (some (CAct.down x.g)) = (T3.del x).sink x.g from rfl] at hap
  have HAP := Lib.hid hap
  have d0 := K18.out.1.cell 0 (v := .int .i64 0) rfl
  have d1 := K18.out.1.cell 1 (v := .int .i64 0) rfl
  have d2 := K18.out.1.cell 2 (v := .bool true) rfl
  have d3 := K18.out.1.cell 3 (v := .slice Ag ng cg) rfl
  have d4 := K18.out.1.cell 4 (v := .bool false) rfl
  have d5 := K18.out.1.cell 5 (v := .slice none 0 0) rfl
  have dl := K18.out.1.lt
  clear hap hvv
  go_wp2_with fail
  clear d0 d1 d2 d3 d4 d5 dl k0 k1 k2 k3 kl m0 m1 m2 m3 ml
  refine HAP.out.mono ?_
  rintro en w19 ⟨rfl, ht, hc⟩
  have D19 := Lib.hid (D18.out.does ht hc); clear ht hc K18 HAP D18
  have k0 := D19.out.be.cell 0 (v := .string x.g) rfl
  have k1 := D19.out.be.cell 1 (v := .string x.t) rfl
  have k2 := D19.out.be.cell 2 (v := .int .i64 x.p) rfl
  have k3 := D19.out.be.cell 3 (v := .int .i64 o) rfl
  have kl := D19.out.be.lt
  have hfl := H.out.2.2.2.2.2.2.2.2.2.2.2.2.1 p mo mf _ _ w19 D19.out.tab
  simp only [F.out.2.2.2.1] at hfl
  have HG := Lib.hid hfl; clear hfl
  go_wp2_with fail
  refine HG.out.mono ?_
  rintro en wz ⟨rfl, h3⟩
  subst h3
  clear HG
  go_wp2_with fail
  clear k0 k1 k2 k3 kl
  refine (H.out.2.1 w19).mono ?_
  rintro en w20 ⟨rfl, h3⟩
  have D20 := Lib.hid (D19.out.below h3); clear h3 D19
  go_wp2_with fail
  refine (cm.put_ok ⟨x.g, x.t, x.p, o⟩ x rfl rfl rfl p mo mf _ _ w20 D20.out.tab F.out.2.2.2.2.1 (by decide)).mono ?_
  rintro en w21 ⟨rfl, ht, hc⟩
  have D21 := Lib.hid (D20.out.does ht hc); clear ht hc D20
  have k0 := D21.out.be.cell 0 (v := .string x.g) rfl
  have kl := D21.out.be.lt
  go_wp2_with fail
  refine (H.out.2.2.2.2.2.2.2.2.2.2.2.1 w21).mono ?_
  rintro en wz ⟨rfl, h3⟩
  subst h3
  have htt := cm.gen_topic F.out.2.2.2.2.2
  rw [htt]
  clear htt k0 kl
  go_wp2_with fail
  refine (H.out.1 w21).mono ?_
  rintro en w22 ⟨rfl, h3⟩
  have HB := Lib.hid (D21.out.bel.trans (h3.mono D21.out.bel.size)); clear h3
  go_wp2_with fail
  go_ret
  exact ⟨rfl, HB.out⟩
end Go.Proofs.Ytkkpbnhagobhmaa

/- The reference's Clean (cordwainref10): what All answers. -/
import Derived.Test.YtnlfdhoabbbheaaClP
import Derived.Test.YtnlfdhoabbbheaaClF
import Derived.Test.YtnlfdhoabbbheaaCrX
namespace Go.Proofs.Ytnlfdhoabbbheaa
open Go.RowKit Go.Maps
set_option maxRecDepth 100000

theorem cj.dep {W : World} {A : Option Addr} {bs : List Bat} (h : BatsAt W A bs) : Dep (fun q => q < W.heap.size) W (fun U => BatsAt U A bs) := by
  obtain ⟨f, h⟩ := h
  have h : fo.Src f A bs W := h
  exact (h.dep (Z := fun q => q < W.heap.size) fun k hk => hk).imp fun V hv => hv.bats
/-- A row of segments as it grows, in blocks of Z. -/
def cz.Outs (Z : Nat → Prop) (w : World) (v : Value) (xs : List Value) (l : List (List Bat)) : Prop :=
  ∀ (i : Nat) (bs : List Bat), l[i]? = some bs → ∃ A c, xs[i]? = some (.slice A bs.length c) ∧ bs.length ≤ c ∧ c ≤ maxLen ∧ Dep (fun q => Z q ∧ v.ownBlock ≠ some q) w (fun U => BatsAt U A bs)
theorem cz.Outs.below {Z : Nat → Prop} {w w' : World} {v : Value} {xs : List Value} {l : List (List Bat)} (h : cz.Outs Z w v xs l) (hb : Below w.heap.size w w') : cz.Outs Z w' v xs l := fun i bs hi => by
  obtain ⟨A, c, h1, h2, h3, h4⟩ := h i bs hi
  exact ⟨A, c, h1, h2, h3, h4.below hb⟩
theorem cz.Outs.snoc {Z : Nat → Prop} {w w' : World} {v v' : Value} {xs : List Value} {l : List (List Bat)} {bs : List Bat} {A : Option Addr} {c : Nat} (h : cz.Outs Z w v xs l) (hx : xs.length = l.length) (h1 : bs.length ≤ c) (h2 : c ≤ maxLen)
    (hd : Dep (fun q => Z q ∧ v.ownBlock ≠ some q) w (fun U => BatsAt U A bs)) (hg : w.grownBy w' v.ownBlock) (hl : v'.ownBlock = v.ownBlock ∨ v'.ownBlock = some w.heap.size) : cz.Outs Z w' v' (xs ++ [.slice A bs.length c]) (l ++ [bs]) := by
  have hmove : ∀ {P : World → Prop}, Dep (fun q => Z q ∧ v.ownBlock ≠ some q) w P → Dep (fun q => Z q ∧ v'.ownBlock ≠ some q) w' P := fun h => h.move (fun k o hz ho _ => ⟨(hg.block k (heap_in ho) fun e => hz.2 e.symm).trans ho, hz.1, fun e => by
    rcases hl with h | h
    · exact hz.2 (h ▸ e)
    · rw [h] at e
      have e1 : w.heap.size = k := by simpa using e
      have := heap_in ho
      omega⟩) hg.size
  intro i x hi
  by_cases hlt : i < l.length
  · rw [List.getElem?_append_left hlt] at hi
    obtain ⟨A', c', e1, e2, e3, e4⟩ := h i x hi
    exact ⟨A', c', by rw [List.getElem?_append_left (by omega)]; exact e1, e2, e3, hmove e4⟩
  · have hi' := (List.getElem?_eq_some_iff.1 hi).1
    rw [List.length_append, List.length_singleton] at hi'
    obtain rfl : i = l.length := by omega
    rw [List.getElem?_append_right (by omega), Nat.sub_self] at hi
    obtain rfl : bs = x := by simpa using hi
    exact ⟨A, c, by rw [List.getElem?_append_right (by omega), hx, Nat.sub_self]; rfl, h1, h2, hmove hd⟩
theorem cz.Outs.segs {Z : Nat → Prop} {B2 : Nat} {w : World} {v : Value} {xs : List Value} {l : List (List Bat)} {n : Nat} (h : cz.Outs Z w v xs l) (hn : l.length = n) (ho : w.ownsRow B2 31 1 v n xs) : ∃ A c, v = .slice A n c ∧ n ≤ c ∧ c ≤ maxLen ∧ cl.SegsAt w A l := by
  have hv := own_at ho
  obtain ⟨A, c, rfl, hc, hat⟩ := hv
  refine ⟨A, c, rfl, hc, own_cap ho, fun j => xs.getD j undef, by rw [hn]; rw [Nat.mul_one] at hat; exact hat, fun i bs hi => ?_⟩
  obtain ⟨A', c', e1, e2, e3, e4⟩ := h i bs hi
  exact ⟨A', c', by show xs.getD i undef = _; rw [List.getD_eq_getElem?_getD, e1]; rfl, e2, e3, e4.now⟩
theorem cj.few (F : Rec → Bool) {ss : List (List Bat)} {n : Nat} (hn : ss.length = n) (h : n < 2) : cl.outs F ss n = ss ∧ cl.gone F ss n = 0 ∧ (ss.take (n - 1)).flatten = [] := by
  subst hn
  match ss, h with
  | [], _ => exact ⟨rfl, rfl, rfl⟩
  | [x], _ =>
    refine ⟨by simpa using ck.outs_snoc F [] x, ?_, rfl⟩
    simp [cl.gone, cl.seg, List.range_succ]
  | _ :: _ :: _, h => simp at h; omega

set_option maxHeartbeats 16000000 in
theorem cr.clean_any (A : Option Addr) (n c : Nat) (ss : List (List Bat)) (dirty now most M grace : Int) (x0 x1 x2 x3 x4 : Int) (x5 x9 : Bool) (w : World) (hat : cl.SegsAt w A ss) (hn : ss.length = n) (hcm : n ≤ c ∧ c ≤ maxLen) (hf : cp.Fit ss) (hM : kb.Most most M)
    (hnow : 0 ≤ now ∧ now ≤ 9223372036854775807) (hgr : 0 ≤ grace ∧ grace ≤ 9223372036854775807) :
    Calls Try.prog 11 #[.slice A n c, .int .i64 dirty, .agg #[.int .i64 x0, .int .i64 x1, .int .i64 x2, .int .i64 x3, .int .i64 x4, .bool x5, .int .i64 grace, .int .i64 most, .bool x9], .int .i64 now] w (cl.AllPost ss n (kb.go dirty M 0 (fun _ => none) dirty (ss.take (n - 1)).flatten) now grace w) := by
  obtain ⟨i0, hi, hz0, hz1', hz2⟩ := info_parts fo.infoB
  have HI := Lib.hid (And.intro hi (And.intro hz0 (And.intro hz1' hz2))); clear hi hz0 hz1' hz2
  obtain ⟨j0, hi, hz0, hz1', hz2⟩ := info_parts cl.infoS
  have HJ := Lib.hid (And.intro hi (And.intro hz0 (And.intro hz1' hz2))); clear hi hz0 hz1' hz2
  have hn20 : n ≤ 20 := by rw [← hn]; exact hf.len
  obtain ⟨GO, hGO⟩ : ∃ GO, GO = kb.go dirty M 0 (fun _ => none) dirty (ss.take (n - 1)).flatten := ⟨_, rfl⟩
  rw [← hGO]
  unfold cl.AllPost
  obtain ⟨F, hF⟩ : ∃ F, F = cl.stays GO.2.1 GO.2.2 now grace := ⟨_, rfl⟩
  rw [← hF]
  obtain ⟨g, hg⟩ : ∃ g, g = w.heap.size := ⟨_, rfl⟩
  obtain ⟨w1, hw1⟩ : ∃ w1, w1 = w.alloc (.cells #[.int .i64 x0, .int .i64 x1, .int .i64 x2, .int .i64 x3, .int .i64 x4, .bool x5, .int .i64 grace, .int .i64 most, .bool x9] 24) := ⟨_, rfl⟩
  have hk1 : Blk w1 g 24 #[.int .i64 x0, .int .i64 x1, .int .i64 x2, .int .i64 x3, .int .i64 x4, .bool x5, .int .i64 grace, .int .i64 most, .bool x9] := by rw [hw1, hg]; exact Blk.new _ _ _
  have hb1 : Below w.heap.size w w1 := by rw [hw1]; exact (Below.refl _ _).alloc (Nat.le_refl _) _
  have H1 := Lib.hid (And.intro hk1 hb1); clear hk1 hb1
  have HW1 := Lib.hid (And.intro hg hw1); clear hg hw1
  go_enter Try.func11, Try.ntmps11
  go_upto_region 1 with fail
  rw [← HW1.out.2, ← HW1.out.1]
  by_cases h2 : (n : Int) < 2
  · obtain ⟨e1, e2, e3⟩ := cj.few F hn (by omega)
    have hU : GO.2.2 = dirty := by rw [hGO, e3]; rfl
    have HE := Lib.hid (And.intro e1 (And.intro e2 hU)); clear e1 e2 e3 hU hF hGO
    have hseg := hat.below H1.out.2 (Nat.le_refl _)
    have HS := Lib.hid (And.intro hcm hseg); clear hseg hat hcm hn hf
    go_wp2_with fail
    go_ret3
    exact ⟨A, c, by rw [HE.out.2.2, HE.out.2.1]; rfl, HS.out.1.1, HS.out.1.2, by rw [HE.out.1]; exact HS.out.2, H1.out.2⟩
  have hn2 : 2 ≤ n := by omega
  have HGO := Lib.hid (And.intro hGO hF); clear hGO hF
  have HAT := Lib.hid hat; clear hat
  have HN := Lib.hid hn; clear hn
  have HS := Lib.hid hf; clear hf
  have HM := Lib.hid hM; clear hM
  unfold maxLen at hcm
  have hone : ∀ k x, ss[k]? = some x → fo.Small x ∧ (rc.flat x).length ≤ 4000 ∧ x.length ≤ 4000 ∧ ∀ b ∈ x, ∀ r ∈ b.recs, 0 ≤ r.time := fun k x hx => by
    have h1 := cl.take_flat hx
    have h2 := cl.flat_le (ss := ss) (k + 1)
    rw [h1, cl.flat_app, List.length_append, List.length_append] at h2
    have h3 := HS.out.size
    have h4 := HS.out.recs
    have hm : ∀ b ∈ x, b ∈ ss.flatten := fun b hb => List.mem_flatten.2 ⟨x, List.mem_of_getElem? hx, hb⟩
    exact ⟨⟨by omega, fun b hb => HS.out.small.2 b (hm b hb)⟩, by omega, by omega, fun b hb => (HS.out.times b (hm b hb)).2⟩
  have HONE := Lib.hid hone; clear hone
  go_wp2_with fail
  go_loopw [11, 12] (fun s12 s22 wx => ∃ (k N : Nat) (v : Value) (xs : List Value), v = s12 ∧ s22 = .int .i64 (k : Int) ∧ (k = 0 ∨ k + 1 ≤ n) ∧ N = (ss.take k).flatten.length ∧ wx.ownsRow w1.heap.size 46 6 v N xs ∧ cl.BRow w xs (ss.take k).flatten ∧ Below w1.heap.size w1 wx) (fun _ s22 _ => n - (intOf s22).toNat)
  case atStart => exact ⟨0, 0, _, [], rfl, rfl, .inl rfl, rfl, World.ownsRow_nil _ _ _ _, cl.BRow.nil _, Below.refl _ _⟩
  case round =>
    obtain ⟨k, N, v, xs, rfl, rfl, hk, hN, hown, hrow, hbw⟩ := hrel
    have hN6 : N ≤ 1000000 := by have h1 := (cl.flat_le (ss := ss) k).2; have h2 := HS.out.size; omega
    have HBW := Lib.hid hbw; clear hbw
    have HOWN := Lib.hid hown; clear hown
    have HROW := Lib.hid hrow; clear hrow
    have HNL := Lib.hid hN; clear hN
    have hb0 : Below w.heap.size w wr := H1.out.2.trans (HBW.out.mono H1.out.2.size)
    by_cases hlt : k + 1 < n
    · have hlt' : (k : Int) + 1 < (n : Int) := by omega
      have hkn' : (k : Int) < (n : Int) := by omega
      obtain ⟨x, hx⟩ : ∃ x, ss[k]? = some x := ⟨_, List.getElem?_eq_getElem (by rw [HN.out]; omega)⟩
      obtain ⟨p, po, D, cD, hA, hp, d0, hl1, hl2, ⟨V, hV, hel⟩⟩ := HAT.out.at' hx
      subst hA
      have hpw := Nat.lt_of_lt_of_le hp hb0.size
      have e0 := (hb0.cell (p := ⟨p, po + k, none⟩) hp).trans d0
      have hone := cl.ones hel
      have hVw := hV.below hb0 (Nat.le_refl _)
      have hrow2 := HROW.out.append (cl.BRow.of hel)
      rw [← cl.take_flat hx] at hrow2
      have hlen2 : N + x.length = (ss.take (k + 1)).flatten.length := by rw [cl.take_flat hx, List.length_append, HNL.out]
      have hN62 : N + x.length ≤ 1000000 := by have h1 := (cl.flat_le (ss := ss) (k + 1)).2; have h2 := HS.out.size; omega
      have HX := Lib.hid (And.intro hone (And.intro hVw (And.intro hrow2 hlen2))); clear hone hVw hrow2 hlen2 hx d0 hV hel
      generalize x.length = m at *
      go_wp2_with (at_builtin; go_loud (refine wpList_app2 _ rfl (.tmp 31) (.tmp 35) 31 rfl w1.heap.size 46 i0 _ 6 64 Try.underlying31 HI.out.1 HI.out.2.1 HI.out.2.2.1 HI.out.2.2.2 rfl (by decide) v N xs rfl HOWN.out D m cD V rfl HX.out.2.1 HX.out.1 (by unfold maxLen; omega) (by omega) HBW.out.size ?_; intro v4 w4 h1 h2 _; have H4 := Lib.hid (And.intro h1 (HBW.out.grown h2 HBW.out.size fun j hj => (HOWN.out.lt j hj).1)); clear h1 h2))
      go_roundw
      case rel => exact ⟨k + 1, _, v4, _, rfl, by go_num, .inr (by omega), HX.out.2.2.2, H4.out.1, HX.out.2.2.1, H4.out.2⟩
      case measure => simp [intOf]; omega
    · have hkn : k = n - 1 := by omega
      have hge : ¬ (k : Int) + 1 < (n : Int) := by omega
      rw [hkn] at HNL HROW
      obtain ⟨A2, c2, rfl, hc2, hcm2, hat2⟩ := HROW.out.bats hb0 HNL.out.symm HOWN.out
      obtain ⟨X, hX⟩ : ∃ X, X = max most 1 := ⟨_, rfl⟩
      have hmX : kb.Most X M := by have := HM.out; unfold kb.Most at this ⊢; omega
      have hmem : ∀ b ∈ (ss.take (n - 1)).flatten, b ∈ ss.flatten := fun b hb => by
        have h : ss.flatten = (ss.take (n - 1)).flatten ++ (ss.drop (n - 1)).flatten := by rw [← List.flatten_append, List.take_append_drop]
        rw [h]
        exact List.mem_append_left _ hb
      have hmr : ∀ r ∈ rc.flat (ss.take (n - 1)).flatten, r ∈ rc.flat ss.flatten := fun r hr => by
        have h : ss.flatten = (ss.take (n - 1)).flatten ++ (ss.drop (n - 1)).flatten := by rw [← List.flatten_append, List.take_append_drop]
        rw [h, cl.flat_app]
        exact List.mem_append_left _ hr
      have hbld := rb.build_any A2 (ss.take (n - 1)).flatten N c2 dirty X M wr hat2 HNL.out.symm hN6 (fun b hb => (HS.out.times b (hmem b hb)).1) ⟨by have h1 := (cl.flat_le (ss := ss) (n - 1)).1; have h2 := HS.out.recs; omega, fun r hr => by have := (HS.out.bytes r (hmr r hr)).1; omega⟩ hmX
      unfold rb.Post at hbld
      rw [← HGO.out.1] at hbld
      have HBLD := Lib.hid hbld; clear hbld hat2 hmem hmr hmX
      have b7 : wr.cell? ⟨g, 7, none⟩ = some (.int .i64 most) := ((chg_of (P := fun _ => False) HBW.out).blk H1.out.1 id).cell 7 rfl
      have hgw : g < wr.heap.size := Nat.lt_of_lt_of_le H1.out.1.lt HBW.out.size
      have hX1 : (if most < 1 then 1 else most) = X := by rw [hX]; split <;> omega
      have hX2 : max most 1 = X := hX.symm
      clear hX
      go_wp2_with fail
      clear b7 hX1 hX2
      refine HBLD.out.mono ?_
      rintro e w3 ⟨⟨q, l, rfl, hrm, his, -, hl10⟩, hbe3⟩
      have hlook : pf.look l = GO.2.1 := funext fun s => (his.look s).symm
      have hsegc := fun (D : Option Addr) (m cD : Nat) (x : List Bat) (wx : World) (hb : Below w3.heap.size w3 wx) (hbw : Below w.heap.size w wx) (hatx : BatsAt w D x) (hm : x.length = m) (hsx : fo.Small x) (htx : ∀ b ∈ x, ∀ r ∈ b.recs, 0 ≤ r.time) => cr.segment_dep D m cD x wr q M l GO.2.2 now grace wx w hbw hatx hm hsx htx (hrm.chg (P := fun _ => False) (chg_of hb) fun _ h => h.elim) (hbe3.trans (hb.mono hbe3.size)) hl10 hnow hgr
      rw [hlook, ← HGO.out.2] at hsegc
      have HSC := Lib.hid hsegc; clear hsegc hlook his hrm
      have HB3 := Lib.hid (HBW.out.trans (hbe3.mono HBW.out.size)); clear hbe3 HBLD HBW HOWN HROW HNL hk hlt hge
      have hb03 : Below w.heap.size w w3 := H1.out.2.trans (HB3.out.mono H1.out.2.size)
      have HB03 := Lib.hid hb03; clear hb03 hb0 hgw
      have hws3 := HB03.out.size
      go_wp2_with fail
      go_loopw [15, 16, 17] (fun s8 s10 s42 wx => ∃ (k : Nat) (v : Value) (xs : List Value) (G : Int), v = s8 ∧ s10 = .int .i64 G ∧ s42 = .int .i64 (k : Int) ∧ k + 1 ≤ n ∧ wx.ownsRow w3.heap.size 31 1 v k xs ∧ cz.Outs (fun q => q < w.heap.size ∨ w3.heap.size ≤ q) wx v xs (cl.outs F ss k) ∧ G = cl.gone F ss k ∧ Below w3.heap.size w3 wx) (fun _ _ s42 _ => n - (intOf s42).toNat)
      case atStart => exact ⟨0, _, [], 0, rfl, rfl, rfl, by omega, World.ownsRow_nil _ _ _ _, fun i bs h => (by simp [cl.outs] at h), rfl, Below.refl _ _⟩
      case round =>
        obtain ⟨k, v, xs, G, rfl, rfl, rfl, hk, hown, houts, hG, hbw⟩ := hrel
        have HBW := Lib.hid hbw; clear hbw
        have HOWN := Lib.hid hown; clear hown
        have HOUTS := Lib.hid houts; clear houts
        have hgb := cl.gone_bd F ss k (by rw [HN.out]; omega)
        have hfk := (cl.flat_le (ss := ss) k).1
        have hfa := HS.out.recs
        rw [← hG] at hgb
        have hG0 : 0 ≤ G := hgb.1
        have hG1 : G ≤ 4000 := by omega
        have HG := Lib.hid hG; clear hG hgb hfk hfa
        have hrlt := HOWN.out.lt
        have hb0 : Below w.heap.size w wr := HB03.out.trans (HBW.out.mono HB03.out.size)
        have hkn : (k : Int) < (n : Int) := by omega
        obtain ⟨x, hx⟩ : ∃ x, ss[k]? = some x := ⟨_, List.getElem?_eq_getElem (by rw [HN.out]; omega)⟩
        obtain ⟨p5, q5, D, cD, hA, hq, d0, hl1, hl2, hatx⟩ := HAT.out.at' hx
        subst hA
        obtain ⟨hsx, hfx, hxl, htx⟩ := HONE.out k x hx
        have hqw := Nat.lt_of_lt_of_le hq hb0.size
        have e0 := (hb0.cell (p := ⟨p5, q5 + k, none⟩) hq).trans d0
        have hget : ss.getD k [] = x := by rw [List.getD_eq_getElem?_getD, hx]; rfl
        by_cases hlt : k + 1 < n
        · have hlt' : (k : Int) + 1 < (n : Int) := by omega
          have hseg : cl.seg F ss k = ps.all F x := by unfold cl.seg; rw [if_neg (by rw [HN.out]; omega), hget]
          have hgn := cl.gone_succ F ss k
          rw [hseg, hget, ← HG.out] at hgn
          have hle := cl.left_le F x
          have hsg := HSC.out D x.length cD x wr.drew (bdrew HBW.out 1) (bdrew hb0 1) hatx rfl hsx htx
          unfold cz.Post at hsg
          have hr1 := fun (wx : World) (hb : Below wr.heap.size wr wx) => rc.records_any D x x.length cD wx ((hatx.below hb0 (Nat.le_refl _)).below hb (Nat.le_refl _)) rfl (by omega) (by omega)
          have hr2 := fun (A5 : Option Addr) (c5 : Nat) (wx : World) (h : BatsAt wx A5 (ps.all F x)) => rc.records_any A5 (ps.all F x) (ps.all F x).length c5 wx h rfl (by have := ps.all_len F x; omega) (by omega)
          unfold rc.Post at hr1 hr2
          obtain ⟨L, hL⟩ : ∃ L, L = ps.all F x := ⟨_, rfl⟩
          rw [← hL] at hsg hr2 hseg hgn hle
          clear hL
          obtain ⟨m, hm⟩ : ∃ m, m = x.length := ⟨_, rfl⟩
          rw [← hm] at e0 hsg hl1 hr1
          clear hm
          obtain ⟨cx, hcx1⟩ : ∃ cx, cx = (rc.flat x).length := ⟨_, rfl⟩
          obtain ⟨cy, hcy1⟩ : ∃ cy, cy = (rc.flat L).length := ⟨_, rfl⟩
          rw [← hcx1] at hr1 hgn hfx hle
          rw [← hcy1] at hr2 hgn hle
          obtain ⟨mL, hmL⟩ : ∃ mL, mL = L.length := ⟨_, rfl⟩
          rw [← hmL] at hsg hr2
          have HMX := Lib.hid hmL; clear hmL
          have HSEG := Lib.hid hseg; clear hseg
          have HSG := Lib.hid hsg; clear hsg
          have HR1 := Lib.hid hr1; clear hr1 hcx1
          have HR2 := Lib.hid hr2; clear hr2 hcy1
          have HGN := Lib.hid hgn; clear hgn hget hatx hsx htx d0 hx hxl
          have hblk := (chg_of (P := fun _ => False) (HB3.out.trans (HBW.out.mono HB3.out.size))).blk H1.out.1 id
          have HBK := Lib.hid hblk; clear hblk
          have b6 : ∀ z : Later wr (fun _ => False), z.1.cell? ⟨g, 6, none⟩ = some (.int .i64 grace) := fun z => (z.2.blk HBK.out id).cell 6 rfl
          have b6' : wr.drew.cell? ⟨g, 6, none⟩ = some (.int .i64 grace) := HBK.out.cell 6 rfl
          have u0 : ∀ z : Later wr (fun _ => False), z.1.cell? ⟨p5, q5 + k, none⟩ = some (.slice D m cD) := fun z => ((z.2.below (Nat.le_refl _) fun _ q => q.elim).cell (p := ⟨p5, q5 + k, none⟩) hqw).trans e0
          have hgw := HBK.out.lt
          go_upto_region 14 with fail
          have hS0 : later wr (fun _ => False) wr.drew := later_of ((Chg.refl _ _).drew)
          refine wp_plan (S := fun w0 => ∃ x : Later wr (fun _ => False), w0 = x.1) (by kernel_rfl) hS0 ?_
          intro hS K5 hK5
          have HSS := Lib.hid hS; clear hS hS0
          refine plan_group [true, true, true, true, true, true, true, true] [0, 1, 2, 3, 4, 5, 6, 7] 3 (by dsimp only [sel]) (by rfl) rfl (by kernel_rfl) (by kernel_rfl) HSS.out ?_
          (repeat go_big_quiet_step (fail)); refine wpQuiet_nil ?_
          refine plan_one [false, false, false, false, false, false, false, false, true] 8 2 (by dsimp only [sel]) (by rfl) rfl (by kernel_rfl) ?_; intro K1 hK1; go_wp2_with fail
          refine ⟨later_of ((Chg.refl _ _).drew), ?_⟩
          refine plan_one [false, false, false, false, false, false, false, false, false, true] 9 1 (by dsimp only [sel]) (by rfl) rfl (by kernel_rfl) ?_; intro K1 hK1; go_wp2_with fail
          refine HSG.out.mono ?_
          rintro e w5 ⟨A5, c5, rfl, hl5, hm5, hdep, hb5⟩
          have hdep : Dep (fun q => q < w.heap.size ∨ wr.heap.size ≤ q) w5 (fun U => BatsAt U A5 L) := hdep
          have hb5 : Below wr.heap.size wr w5 := (bdrew (Below.refl _ wr) 1).trans (hb5.mono (Nat.le_refl _))
          have HB5 := Lib.hid (And.intro hb5 hdep); clear hb5 hdep
          go_wp2_with fail
          refine ⟨later_of (chg_of HB5.out.1), ?_⟩
          refine plan_group [false, false, false, false, false, false, false, false, false, false, true] [10] 0 (by dsimp only [sel]) (by rfl) rfl (by kernel_rfl) (by kernel_rfl) (later_of (chg_of HB5.out.1)) ?_
          (repeat go_big_quiet_step (fail)); refine wpQuiet_nil ?_
          refine wp_plan_end (by kernel_rfl) ?_
          clear b6 b6' u0
          have e5 := (HB5.out.1.cell (p := ⟨p5, q5 + k, none⟩) hqw).trans e0
          have hqw5 := Nat.lt_of_lt_of_le hqw HB5.out.1.size
          go_wp2_with fail
          refine (HR1.out w5 HB5.out.1).mono ?_
          rintro e w6 ⟨⟨A6, k6, rfl, -⟩, hb6⟩
          have hdep6 := HB5.out.2.below hb6
          have HB6 := Lib.hid (And.intro (HB5.out.1.trans (hb6.mono HB5.out.1.size)) hdep6); clear hb6 hdep6 HB5 e5 hqw5
          go_wp2_with fail
          refine (HR2.out A5 c5 w6 HB6.out.2.now).mono ?_
          rintro e w7 ⟨⟨A7, k7, rfl, -⟩, hb7⟩
          have hdep7 := HB6.out.2.below hb7
          have hb57 := HB6.out.1.trans (hb7.mono HB6.out.1.size)
          obtain ⟨w8, hw8⟩ : ∃ w8, w8 = w7.alloc (.cells #[.slice A5 mL c5] 31) := ⟨_, rfl⟩
          have hb78 : Below w7.heap.size w7 w8 := by rw [hw8]; exact (Below.refl _ _).alloc (Nat.le_refl _) _
          have hb08 : Below wr.heap.size wr w8 := hb57.trans (hb78.mono hb57.size)
          have hdep8 := hdep7.below hb78
          have hs78 : w8.heap.size = w7.heap.size + 1 := by rw [hw8]; simp
          have hs57 := hb57.size
          have hb18 : Below w3.heap.size w3 w8 := HBW.out.trans (hb08.mono HBW.out.size)
          have hown8 := (chg_of (P := fun _ => False) hb08).own HOWN.out fun _ _ h => h.elim
          have houts8 := HOUTS.out.below hb08
          have hxl8 := hown8.1
          have hws := HBW.out.size
          have happ : ∀ v2 w9, w9.ownsRow w3.heap.size 31 1 v2 (k + 1) (xs ++ [.slice A5 mL c5]) → w8.grownBy w9 v.ownBlock → (v2.ownBlock = v.ownBlock ∨ v2.ownBlock = some w8.heap.size) →
              cz.Outs (fun q => q < w.heap.size ∨ w3.heap.size ≤ q) w9 v2 (xs ++ [.slice A5 mL c5]) (cl.outs F ss (k + 1)) ∧ Below w3.heap.size w3 w9 := fun v2 w9 h1 h2 h3 => by
            refine ⟨?_, hb18.grown h2 (by omega) fun q hq => (hrlt q hq).1⟩
            rw [cl.outs_succ, HSEG.out, HMX.out]
            exact houts8.snoc (by rw [cl.outs_len]; omega) (by rw [← HMX.out]; exact hl5) hm5 (hdep8.weak fun q hq _ => ⟨hq.elim .inl (fun h => .inr (by omega)), fun e => by have := hrlt q e; omega⟩) h2 h3
          have HAPP := Lib.hid (And.intro hown8 happ); clear happ houts8 hxl8 hown8 hb18 hdep8
          rw [hw8] at HAPP
          clear hw8 hb78 hb08 hdep7 hb57 hb7 HB6
          go_wp2_with (at_builtin; go_loud (refine wpList_append_own_at _ rfl (.tmp 75) (.tmp 77) 22 rfl w3.heap.size 31 j0 _ 1 24 Try.underlying22 HJ.out.1 HJ.out.2.1 HJ.out.2.2.1 HJ.out.2.2.2 rfl (by decide) v k xs rfl HAPP.out.1 ⟨w7.heap.size, 0, none⟩ 1 1 [.slice A5 mL c5] rfl rfl (cells_new _ [.slice A5 mL c5] _ _ rfl) (by simp [Value.oneCell']) (by unfold maxLen; omega) (by omega) (by simp; omega) ?_; intro v2 w9 h1 h2 _ h3; have HN2 := Lib.hid (And.intro h1 (HAPP.out.2 v2 w9 h1 h2 h3)); clear h1 h2 h3))
          go_wp2_with fail
          go_roundw
          case rel => exact ⟨k + 1, v2, _, _, rfl, rfl, by go_num, by omega, HN2.out.1, HN2.out.2.1, by have := HGN.out; omega, HN2.out.2.2⟩
          case measure => simp [intOf]; omega
        · have hlt' : ¬ (k : Int) + 1 < (n : Int) := by omega
          have hk1 : k + 1 = n := by omega
          have hkk : (n : Int) - 1 = (k : Int) := by omega
          have hseg : cl.seg F ss k = x := by unfold cl.seg; rw [if_pos (by rw [HN.out]; exact hk1), hget]
          have hgn := cl.gone_succ F ss k
          rw [hseg, hget, ← HG.out, hk1] at hgn
          have hdx := ((cj.dep hatx).below hb0)
          obtain ⟨m, hm⟩ : ∃ m, m = x.length := ⟨_, rfl⟩
          rw [← hm] at e0 hl1
          have HMX := Lib.hid hm; clear hm
          have HSEG := Lib.hid hseg; clear hseg
          obtain ⟨w8, hw8⟩ : ∃ w8, w8 = wr.alloc (.cells #[.slice D m cD] 31) := ⟨_, rfl⟩
          have hb78 : Below wr.heap.size wr w8 := by rw [hw8]; exact (Below.refl _ _).alloc (Nat.le_refl _) _
          have hdep8 := hdx.below hb78
          have hs78 : w8.heap.size = wr.heap.size + 1 := by rw [hw8]; simp
          have hb18 : Below w3.heap.size w3 w8 := HBW.out.trans (hb78.mono HBW.out.size)
          have hown8 := (chg_of (P := fun _ => False) hb78).own HOWN.out fun _ _ h => h.elim
          have houts8 := HOUTS.out.below hb78
          have hxl8 := hown8.1
          have hws := HBW.out.size
          have hws0 := HB03.out.size
          have happ : ∀ v2 w9, w9.ownsRow w3.heap.size 31 1 v2 (k + 1) (xs ++ [.slice D m cD]) → w8.grownBy w9 v.ownBlock → (v2.ownBlock = v.ownBlock ∨ v2.ownBlock = some w8.heap.size) →
              cz.Outs (fun q => q < w.heap.size ∨ w3.heap.size ≤ q) w9 v2 (xs ++ [.slice D m cD]) (cl.outs F ss (k + 1)) ∧ Below w3.heap.size w3 w9 := fun v2 w9 h1 h2 h3 => by
            refine ⟨?_, hb18.grown h2 (by omega) fun q hq => (hrlt q hq).1⟩
            rw [cl.outs_succ, HSEG.out, HMX.out]
            exact houts8.snoc (by rw [cl.outs_len]; omega) (by rw [← HMX.out]; exact hl1) hl2 (hdep8.weak fun q hq _ => ⟨.inl hq, fun e => by have := hrlt q e; omega⟩) h2 h3
          have HAPP := Lib.hid (And.intro hown8 happ); clear happ houts8 hxl8 hown8 hb18 hdep8
          have HGN := Lib.hid hgn; clear hgn hget hatx hsx htx d0 hx hxl hdx
          have HK1 := Lib.hid hk1; clear hk1
          rw [hw8] at HAPP
          clear hw8 hb78
          go_wp2_with (at_builtin; go_loud (refine wpList_append_own_at _ rfl (.tmp 79) (.tmp 86) 22 rfl w3.heap.size 31 j0 _ 1 24 Try.underlying22 HJ.out.1 HJ.out.2.1 HJ.out.2.2.1 HJ.out.2.2.2 rfl (by decide) v k xs rfl HAPP.out.1 ⟨wr.heap.size, 0, none⟩ 1 1 [.slice D m cD] rfl rfl (cells_new _ [.slice D m cD] _ _ rfl) (by simp [Value.oneCell']) (by unfold maxLen; omega) (by omega) (by simp; omega) ?_; intro v2 w9 h1 h2 _ h3; have HN2 := Lib.hid (And.intro h1 (HAPP.out.2 v2 w9 h1 h2 h3)); clear h1 h2 h3))
          obtain ⟨A9, c9, rfl, h91, h92, h93⟩ := HN2.out.2.1.segs (cl.outs_len F ss (k + 1)) HN2.out.1
          have H9 := Lib.hid (And.intro h91 (And.intro h92 h93)); clear h91 h92 h93
          have HB9 := Lib.hid (HB03.out.trans (HN2.out.2.2.mono HB03.out.size)); clear HN2
          go_wp2_with fail
          go_ret3
          have hGe : cl.gone F ss n = G := by have := HGN.out; omega
          rw [hGe]
          have h9 := H9.out
          rw [HK1.out] at h9
          exact ⟨A9, c9, by rw [← HK1.out]; rfl, h9.1, h9.2.1, h9.2.2, HB9.out⟩
end Go.Proofs.Ytnlfdhoabbbheaa

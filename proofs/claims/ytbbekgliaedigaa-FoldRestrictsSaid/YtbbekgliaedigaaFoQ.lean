/- The law FoldRestricts (cordwainlaw13): it answers true, whatever the input. A slice of pairs as an argument. -/
import Derived.Test.YtbbekgliaedigaaFoP
import Derived.Test.YtbbekgliaedigaaFoF
import Derived.Test.YtbbekgliaedigaaRsA
import Derived.Test.YtbbekgliaedigaaRsB
import Derived.Test.YtbbekgliaedigaaOpenY
namespace Go.Proofs.Ytbbekgliaedigaa
open Go.ChangeShapes Go.WideShapes Go.ChangeAt Go.RowKit Go.Maps

instance : Inhabited PItm := ⟨⟨none, 0, 0, [], none, 0, 0, [], 0⟩⟩
def PItmR (w : World) (cs : List Value) (x : PItm) : Prop := cs = [.slice x.A x.k x.c, .slice x.VA x.vk x.vc, .int .i64 x.off] ∧ PWide w x
theorem pitm_of_trod {H : Type} {enc : TypeId × Value → H} {W : World} {fuel : Nat} {cs : List Value} {x : DataW H × List MemPlace}
    (h : DataW.trod enc Try.prog W 0 (fun _ => true) true fuel 122 cs = some x) (hlt : ∀ y ∈ x.2, y.block < W.heap.size) : ∃ a, PItmR W cs a := by
  have hl2 : cs.length = 3 := (trod_field Try.underlying122 h hlt).1.trans (by kernel_rfl)
  have hm : (Try.prog.cellsOf 122) = 3 := by kernel_rfl
  obtain ⟨v, L, g0, A, c, rfl, h1, h2, h3, h4⟩ := field_bytes Try.underlying122 h hlt 0 0 _ rfl rfl (by kernel_rfl) (by rw [hm]; omega) Try.underlying23 Try.underlying5 (by kernel_rfl)
  obtain ⟨v', M, g1, B, d, rfl, h5, h6, h7, h8⟩ := field_bytes Try.underlying122 h hlt 1 1 _ rfl rfl (by kernel_rfl) (by rw [hm]; omega) Try.underlying23 Try.underlying5 (by kernel_rfl)
  obtain ⟨a2, g2, w2⟩ := field_int Try.underlying122 h hlt .i64 2 2 _ rfl rfl (by kernel_rfl) (by rw [hm]; omega) Try.underlying3
  refine ⟨⟨A, L.length, c, L, B, M.length, d, M, a2⟩, ?_, rfl, h1, rfl, h5⟩
  apply List.ext_getElem?
  intro j
  match j with
  | 0 => exact g0
  | 1 => exact g1
  | 2 => exact g2
  | j + 3 => rw [List.getElem?_eq_none (by omega), List.getElem?_eq_none (by simp)]

set_option maxRecDepth 20000 in
theorem open_pairs {H : Type} {enc : TypeId × Value → H} {W : World} {base : Nat} {v : Value} {d : DataW H} {p : List MemPlace}
    (hv : Value.okWide Try.prog W .any base 33 v) (h : DataW.Trod enc Try.prog W 0 (fun _ => true) true 33 v d p) (hlt : ∀ x ∈ p, x.block < W.heap.size) :
    ∃ (A : Option Addr) (n c : Nat) (l : List PItm), v = .slice A n c ∧ (l.length = n ∧ n ≤ c ∧ c ≤ maxLen) ∧ PAt W A l ∧ ∀ x ∈ l, PWide W x := by
  obtain ⟨a0, len, cap, rfl⟩ := okWide_slice Try.underlying33 hv
  obtain ⟨fuel, hf⟩ := h
  obtain ⟨xs, A, n, c, V, h1, h2, h3, h4, h5, h6⟩ := trod_slg Try.underlying33 (m := 3) (by kernel_rfl) (by omega) (R := PItmR W) (fun _ _ _ h hl => pitm_of_trod h hl) hf hlt
  simp only [Value.cells, List.cons.injEq, and_true] at h1
  have h1' : Value.slice a0 len cap = .slice A n c := by simpa using h1
  refine ⟨A, n, c, xs, h1', ⟨h2, h3, h4⟩, ?_, ?_⟩
  · unfold PAt
    rw [h2]
    refine h5.congr fun j hj => ?_
    have hi : j / 3 < xs.length := by omega
    obtain ⟨hc, -⟩ := h6 (j / 3) xs[j / 3] (List.getElem?_eq_getElem hi)
    have hg := flat_get PItm.cells 3 (fun _ => rfl) xs (j / 3) (j % 3) xs[j / 3] (List.getElem?_eq_getElem hi) (by omega)
    have hm3 : j % 3 < 3 := by omega
    have e : j / 3 * 3 + j % 3 = j := by omega
    have h7 := cellsAt_get V (j / 3) 3 (j % 3) hm3
    rw [hc] at h7
    rw [e] at hg h7
    refine Eq.trans ?_ hg.symm
    rw [List.getD_eq_getElem?_getD, show (PItm.cells xs[j / 3])[j % 3]? = some (V j) from h7]
    rfl
  · intro x hx
    obtain ⟨i, hi⟩ := List.getElem?_of_mem hx
    exact (h6 i x hi).2

set_option maxRecDepth 100000 in
set_option maxHeartbeats 4000000 in
theorem law13.restricts (A : Option Addr) (n c : Nat) (bs : List Bat) (f t : Int) (Ax : Option Addr) (nx cx : Nat) (x : List PItm) (Ay : Option Addr) (ny cy : Nat) (y : List PItm) (w : World) (hcm : bs.length = n ∧ n ≤ c ∧ c ≤ maxLen) (hbs : BatsAt w A bs)
    (hxl : x.length = nx ∧ nx ≤ cx ∧ cx ≤ maxLen) (hx : PAt w Ax x) (hxb : ∀ i ∈ x, PWide w i) (hyl : y.length = ny ∧ ny ≤ cy ∧ cy ≤ maxLen) (hy : PAt w Ay y) (hyb : ∀ i ∈ y, PWide w i) :
    Calls Try.prog 8 #[.slice A n c, .int .i64 f, .int .i64 t, .slice Ax nx cx, .slice Ay ny cy] w fun e w' => e = .returned (.bool true) ∧ Below w.heap.size w w' := by
  obtain ⟨hbn, hnc, hcm⟩ := hcm
  obtain ⟨hxn, hxc, hxm⟩ := hxl
  obtain ⟨hyn, hyc, hym⟩ := hyl
  have hsmall := law13.small_any A n c bs w hbs hbn (Nat.le_trans hnc hcm)
  unfold maxLen at hcm hxm hym
  have HSM := Lib.hid hsmall; clear hsmall
  have HBS := Lib.hid hbs; clear hbs
  have HBN := Lib.hid hbn; clear hbn
  have HX := Lib.hid (And.intro hx (And.intro hxb hxn)); clear hx hxb hxn
  have HY := Lib.hid (And.intro hy (And.intro hyb hyn)); clear hy hyb hyn
  have HAW := Lib.hid (fun wx => law13.awake_any wx)
  go_enter Try.func8, Try.ntmps8
  go_wp2_with fail
  refine HSM.out.mono ?_
  rintro e w1 ⟨⟨b, rfl, hmay⟩, hb1⟩
  have HB1 := Lib.hid hb1; clear hb1 HSM
  by_cases hgo : b = true ∧ nx ≤ 60 ∧ ny ≤ 60
  · obtain ⟨rfl, hx60, hy60⟩ := hgo
    obtain ⟨hsm, hfl, hrk⟩ := (hmay rfl).small
    clear hmay hfl hrk
    have hx60' : ¬ (60 : Int) < nx := by omega
    have hy60' : ¬ (60 : Int) < ny := by omega
    have hr1 := fun (wx : World) (h : Below w.heap.size w wx) => fr.restrict_any A n c bs f t wx (HBS.out.below h (Nat.le_refl _)) HBN.out hsm
    have hr2 := fun (wx : World) (h : Below w.heap.size w wx) => fr.ref_any A n c bs f t wx (HBS.out.below h (Nat.le_refl _)) HBN.out hsm
    have hlen : (rs.all f t bs).length ≤ 1000000 := Nat.le_trans (rs.all_len f t bs) hsm.1
    unfold fr.Post at hr1 hr2
    obtain ⟨rb, hrb⟩ : ∃ rb, rb = rs.all f t bs := ⟨_, rfl⟩
    rw [← hrb] at hr1 hr2 hlen
    obtain ⟨m, hm⟩ : ∃ m, m = rb.length := ⟨_, rfl⟩
    rw [← hm] at hr1 hr2 hlen
    have HR1 := Lib.hid hr1; clear hr1
    have HR2 := Lib.hid hr2; clear hr2 hrb
    have HM := Lib.hid hm; clear hm hsm
    go_wp2_with fail
    refine (HR1.out w1 HB1.out).mono ?_
    rintro e w2 ⟨A2, c2, rfl, hc2, hcm2, ha2, hb2⟩
    have H2 := Lib.hid ha2; clear ha2
    have HB2 := Lib.hid (HB1.out.trans (hb2.mono HB1.out.size)); clear hb2 HB1
    go_wp2_with fail
    refine (HR2.out w2 HB2.out).mono ?_
    rintro e w3 ⟨A3, c3, rfl, hc3, hcm3, ha3, hb3⟩
    have HS := Lib.hid (sb.true_any A2 m c2 A3 c3 rb w3 HM.out.symm hlen (H2.out.below hb3 (Nat.le_refl _)) ha3); clear ha3 H2
    have HB3 := Lib.hid (HB2.out.trans (hb3.mono HB2.out.size)); clear hb3 HB2
    go_wp2_with fail
    refine HS.out.mono ?_
    rintro e w4 ⟨rfl, hb4⟩
    have HB4 := Lib.hid (HB3.out.trans (hb4.mono HB3.out.size)); clear hb4 HB3 HS
    have hma := ft.made_any Ax nx cx x w4 HX.out.2.2 (by omega) (HX.out.1.below HB4.out (Nat.le_refl _))
    have HMA := Lib.hid hma; clear hma
    go_wp2_with fail
    refine HMA.out.mono ?_
    rintro e w5 ⟨v5, rfl, hown5, hb5⟩
    obtain ⟨A5, c5, rfl, -, hat5⟩ := own_at hown5
    have hpat5 : PAt w5 A5 x := by unfold PAt; rw [HX.out.2.2]; exact hat5
    have H5 := Lib.hid hpat5; clear hpat5 hat5 hown5 HMA
    have HB5 := Lib.hid (HB4.out.trans (hb5.mono HB4.out.size)); clear hb5 HB4
    have hmb := ft.made_any Ay ny cy y w5 HY.out.2.2 (by omega) (HY.out.1.below HB5.out (Nat.le_refl _))
    have HMB := Lib.hid hmb; clear hmb
    go_wp2_with fail
    refine HMB.out.mono ?_
    rintro e w6 ⟨v6, rfl, hown6, hb6⟩
    obtain ⟨A6, c6, rfl, -, hat6⟩ := own_at hown6
    have hpat6 : PAt w6 A6 y := by unfold PAt; rw [HY.out.2.2]; exact hat6
    have HB6 := Lib.hid (HB5.out.trans (hb6.mono HB5.out.size)); clear HB5
    have hsame := fs.same_any A5 nx c5 x A6 ny c6 y w6 HX.out.2.2 HY.out.2.2 (by omega) (by omega) (H5.out.below hb6 (Nat.le_refl _)) (fun i hi => (HX.out.2.1 i hi).below HB6.out (Nat.le_refl _)) hpat6 (fun i hi => (HY.out.2.1 i hi).below HB6.out (Nat.le_refl _))
    have hno := fun (wx : World) (h : Below w.heap.size w wx) => pf.same_no Ax nx cx x Ay ny cy y wx HX.out.2.2 HY.out.2.2 (by omega) (by omega) (HX.out.1.below h (Nat.le_refl _)) (fun i hi => (HX.out.2.1 i hi).below h (Nat.le_refl _)) (HY.out.1.below h (Nat.le_refl _)) (fun i hi => (HY.out.2.1 i hi).below h (Nat.le_refl _))
    generalize pf.eqs x y = q at *
    have HSA := Lib.hid hsame; clear hsame hpat6 hat6 hown6 hb6 H5 HMB
    have HNO := Lib.hid hno; clear hno
    go_wp2_with fail
    refine HSA.out.mono ?_
    rintro e w7 ⟨rfl, hb7⟩
    have HB7 := Lib.hid (HB6.out.trans (hb7.mono HB6.out.size)); clear hb7 HB6 HSA
    go_wp2_with fail
    refine (HNO.out w7 HB7.out).mono ?_
    rintro e w8 ⟨rfl, q8, hw8⟩
    have HB8 := Lib.hid (show Below w.heap.size w w8 by rw [hw8]; exact bdrew HB7.out q8); clear hw8 HB7
    cases q
    all_goals
      go_wp2_with fail
      refine (HAW.out w8).mono ?_
      rintro e w9 ⟨rfl, hb9⟩
      have HB9 := Lib.hid (show Below w.heap.size w w9 from HB8.out.trans (hb9.mono HB8.out.size)); clear hb9
      go_wp2_with fail
      go_ret
      exact ⟨rfl, HB9.out⟩
  · have hcase : b = false ∨ (b = true ∧ (60 : Int) < nx) ∨ (b = true ∧ ¬ (60 : Int) < nx ∧ (60 : Int) < ny) := by
      cases b with
      | false => exact .inl rfl
      | true => by_cases h : nx ≤ 60
                · exact .inr (.inr ⟨rfl, by omega, by have : ¬ ny ≤ 60 := fun h' => hgo ⟨rfl, h, h'⟩; omega⟩)
                · exact .inr (.inl ⟨rfl, by omega⟩)
    clear hmay hgo
    rcases hcase with rfl | ⟨rfl, hneg⟩ | ⟨rfl, hpos, hneg⟩
    all_goals
      go_wp2_with fail
      refine (HAW.out w1).mono ?_
      rintro e w2 ⟨rfl, hb2⟩
      have HB2 := Lib.hid (show Below w.heap.size w w2 from HB1.out.trans (hb2.mono HB1.out.size)); clear hb2
      go_wp2_with fail
      go_ret
      exact ⟨rfl, HB2.out⟩
end Go.Proofs.Ytbbekgliaedigaa

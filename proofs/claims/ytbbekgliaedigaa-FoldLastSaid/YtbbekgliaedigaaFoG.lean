/- The law FoldLast (cordwainlaw13): it answers true, whatever the batches. -/
import Derived.Test.YtbbekgliaedigaaFoF
import Derived.Test.YtbbekgliaedigaaRcR
import Derived.Deep.Cut
namespace Go.Proofs.Ytbbekgliaedigaa
open Go.RowKit Go.Maps

def fo.say (r : Rec) : Option FoV := if r.hasVal then some (r.key, r.val, r.off) else none
theorem fo.map_next {rs : List Rec} {k : Nat} {y : Rec} (h : rs[k]? = some y) : fo.map (rs.take (k + 1)) = fo.one (fo.map (rs.take k)) y := by
  obtain ⟨hk, e⟩ := List.getElem?_eq_some_iff.1 h
  rw [List.take_succ_eq_append_getElem hk, e, fo.map_snoc]
theorem fo.one_same {h : ByteArray → Option FoV} {y : Rec} (hk : y.hasKey = true) : fo.one h y (strOf y.key) = fo.say y := by
  unfold fo.one fo.say
  rw [if_pos hk, if_pos rfl]
theorem fo.one_other {h : ByteArray → Option FoV} {y : Rec} {s : ByteArray} (hk : ¬ (y.hasKey = true ∧ s = strOf y.key)) : fo.one h y s = h s := by
  unfold fo.one
  split
  · rename_i hh
    exact if_neg fun e => hk ⟨hh, e⟩
  · rfl

theorem fo.text_ne {a b : ByteArray} (h : a ≠ b) : (a.toList == b.toList) = false := beq_eq_false_iff_ne.2 fun e => h (pf.toList_inj e)
/-- The last record of a key so far. -/
def fo.Cur (w : World) (s : ByteArray) (cur : Rec) (Ak : Option Addr) (nk : Nat) (Av : Option Addr) (nv : Nat) : Prop :=
  cur.hasKey = true ∧ strOf cur.key = s ∧ cur.key.length = nk ∧ cur.val.length = nv ∧ At w Ak nk (byteAt cur.key) ∧ At w Av nv (byteAt cur.val)
theorem fo.met_next {l : List PItm} {k : Nat} {x : PItm} {s : ByteArray} {b : Bool} (hx : l[k]? = some x) (h : b = true ↔ ∃ x ∈ l.take k, x.key = s) (hn : x.key ≠ s) : b = true ↔ ∃ x ∈ l.take (k + 1), x.key = s := by
  obtain ⟨hk, e⟩ := List.getElem?_eq_some_iff.1 hx
  rw [h, List.take_succ_eq_append_getElem hk, e]
  constructor
  · rintro ⟨y, hy, hs⟩
    exact ⟨y, List.mem_append_left _ hy, hs⟩
  · rintro ⟨y, hy, hs⟩
    rcases List.mem_append.1 hy with hy | hy
    · exact ⟨y, hy, hs⟩
    · rw [List.mem_singleton.1 hy] at hs
      exact absurd hs hn
theorem fo.met_hit {l : List PItm} {k : Nat} {x : PItm} {s : ByteArray} (hx : l[k]? = some x) (hn : x.key = s) : (true : Bool) = true ↔ ∃ x ∈ l.take (k + 1), x.key = s := by
  obtain ⟨hk, e⟩ := List.getElem?_eq_some_iff.1 hx
  rw [List.take_succ_eq_append_getElem hk, e]
  exact ⟨fun _ => ⟨x, by simp, hn⟩, fun _ => rfl⟩
theorem fo.infoR : (Try.prog.info? 54).map (·.size) = some 6 := by kernel_rfl

set_option maxRecDepth 100000 in
set_option maxHeartbeats 4000000 in
theorem law13.last (A : Option Addr) (n c : Nat) (bs : List Bat) (w : World) (hbs : BatsAt w A bs) (hbn : bs.length = n) (hcm : n ≤ c ∧ c ≤ maxLen) :
    Calls Try.prog 6 #[.slice A n c] w fun e w' => e = .returned (.bool true) ∧ Below w.heap.size w w' := by
  obtain ⟨hnc, hcm⟩ := hcm
  have hsmall := law13.small_any A n c bs w hbs hbn (Nat.le_trans hnc hcm)
  unfold maxLen at hcm
  have HSM := Lib.hid hsmall; clear hsmall
  have HBS := Lib.hid hbs; clear hbs
  have HBN := Lib.hid hbn; clear hbn
  have HAW := Lib.hid (fun wx => law13.awake_any wx)
  go_enter Try.func6, Try.ntmps6
  go_wp2_with fail
  refine HSM.out.mono ?_
  rintro e w1 ⟨⟨b, rfl, hmay⟩, hb1⟩
  have HB1 := Lib.hid hb1; clear hb1 HSM
  cases b with
  | false =>
    go_wp2_with fail
    refine (HAW.out w1).mono ?_
    rintro e w2 ⟨rfl, hb2⟩
    have HB2 := Lib.hid (show Below w.heap.size w w2 from HB1.out.trans (hb2.mono HB1.out.size)); clear hb2
    go_wp2_with fail
    go_ret
    exact ⟨rfl, HB2.out⟩
  | true =>
    obtain ⟨hsm, hfl, hrk⟩ := (hmay rfl).small
    clear hmay
    have hbat := fo.batches_any A n c bs w1 HBN.out hsm (by omega) (HBS.out.below HB1.out (Nat.le_refl _))
    have hrec := fun (wx : World) (h : Below w.heap.size w wx) => rc.records_any A bs n c wx (HBS.out.below h (Nat.le_refl _)) HBN.out (by have := hsm.1; have := HBN.out; omega) (by omega)
    have HREC := Lib.hid hrec; clear hrec
    have HBAT := Lib.hid hbat; clear hbat
    obtain ⟨rs, hrs⟩ : ∃ rs, rs = rc.flat bs := ⟨_, rfl⟩
    unfold rc.Post at HREC
    rw [← hrs] at HREC HBAT hfl hrk
    have HRK := Lib.hid hrk; clear hrk hrs hsm
    go_wp2_with fail
    refine HBAT.out.mono ?_
    rintro e w2 ⟨v, l, rfl, hown, hby, his, hb2⟩
    have HB2 := Lib.hid (HB1.out.trans (hb2.mono HB1.out.size)); clear hb2 HBAT
    obtain ⟨Ap, cp, rfl, hcp, hpat⟩ := own_at hown
    have HP := Lib.hid (And.intro (show PAt w2 Ap l from hpat) (And.intro hby his)); clear hpat hby his hown HB1
    obtain ⟨N, hN⟩ : ∃ N, N = l.length := ⟨_, rfl⟩
    rw [← hN] at hcp ⊢
    have hN4 : N ≤ 4000 := by rw [hN]; exact Nat.le_trans HP.out.2.2.len hfl
    have HN := Lib.hid hN; clear hN
    go_wp2_with fail
    refine (HREC.out w2 HB2.out).mono ?_
    rintro e w3 ⟨⟨Ar, cr, rfl, hrv⟩, hb3⟩
    obtain ⟨nr, hnr⟩ : ∃ nr, nr = rs.length := ⟨_, rfl⟩
    rw [← hnr] at hrv ⊢
    have HR := Lib.hid (And.intro hrv hnr); clear hrv hnr
    have hb23 := Lib.hid hb3
    have HB3 := Lib.hid (HB2.out.trans (hb3.mono HB2.out.size)); clear hb3 HREC HB2
    have HP3 := Lib.hid (show PAt w3 Ap l ∧ (∀ x ∈ l, PBytes w3 x) ∧ FoIs l rs from ⟨HP.out.1.below hb23.out (Nat.le_refl _), fun x hx => (HP.out.2.1 x hx).below hb23.out (Nat.le_refl _), HP.out.2.2⟩); clear HP hb23
    go_wp2_with fail
    go_loopw [5] (fun s5 wx => ∃ K k q : Nat, s5 = .int .i64 (K : Int) ∧ K = k + 1 ∧ (k + 1 ≤ N ∨ k = 0) ∧ wx = w3.drewN q) (fun s5 _ => N - (intOf s5).toNat)
    case atStart => exact ⟨1, 0, 0, rfl, rfl, by omega, rfl⟩
    case round =>
      obtain ⟨K, k, q, rfl, hKk, hkN, rfl⟩ := hrel
      by_cases hlt : k + 1 < N
      · have hlt' : (K : Int) < N := by omega
        have hk1 : (K : Int) - 1 = (k : Int) := by omega
        have hkN2 : (k : Int) < N := by omega
        obtain ⟨x, hx⟩ : ∃ x, l[k + 1]? = some x := ⟨_, List.getElem?_eq_getElem (by rw [← HN.out]; exact hlt)⟩
        obtain ⟨y, hy⟩ : ∃ y, l[k]? = some y := ⟨_, List.getElem?_eq_getElem (by rw [← HN.out]; omega)⟩
        obtain ⟨p, off, hA, hp, e0, -, -⟩ := HP3.out.1.cells hx
        subst hA
        obtain ⟨p', off', hA, -, f0, -, -⟩ := HP3.out.1.cells hy
        obtain ⟨rfl, rfl⟩ : p = p' ∧ off = off' := by simpa using hA
        obtain ⟨hxl, -, hxa, -⟩ := HP3.out.2.1 x (List.mem_of_getElem? hx)
        obtain ⟨hyl, -, hya, -⟩ := HP3.out.2.1 y (List.mem_of_getElem? hy)
        have hless : pf.lt y.key x.key = true := by
          obtain ⟨hkl, hkx⟩ := List.getElem?_eq_some_iff.1 hx
          obtain ⟨hkl', hky⟩ := List.getElem?_eq_some_iff.1 hy
          have h := List.pairwise_iff_getElem.1 HP3.out.2.2.rises k (k + 1) hkl' hkl (by omega)
          rw [hkx, hky] at h
          exact h
        have cx := fun i => conv_any (P := Try.prog) (c := x.c) Try.underlying23 Try.underlying5 Try.underlying9 x.bs hxl (hxa.drew i)
        have cy := fun i => conv_any (P := Try.prog) (c := y.c) Try.underlying23 Try.underlying5 Try.underlying9 y.bs hyl (hya.drew i)
        have v0 : ∀ i, (w3.drewN i).cell? ⟨p, off + K * 3, none⟩ = some (.slice x.A x.k x.c) := fun _ => by rw [hKk]; exact e0
        have v1 : ∀ i, (w3.drewN i).cell? ⟨p, off + k * 3, none⟩ = some (.slice y.A y.k y.c) := fun _ => f0
        have hl1 : Op.bytesLess (strOf x.bs).toList (strOf y.bs).toList = false := by
          cases hq : Op.bytesLess (strOf x.bs).toList (strOf y.bs).toList with
          | false => rfl
          | true =>
            have h := pf.lt_trans hless (show pf.lt x.key y.key = true from hq)
            rw [pf.lt_irrefl] at h
            cases h
        have hl2 : ((strOf x.bs).toList == (strOf y.bs).toList) = false := beq_eq_false_iff_ne.2 fun e => by
          have h : x.key = y.key := pf.toList_inj e
          rw [h, pf.lt_irrefl] at hless
          cases hless
        clear hless
        have HKk := Lib.hid hKk; clear hKk
        clear hxl hxa hyl hya hx hy e0 f0 hA hlt
        generalize strOf x.bs = sx at *
        generalize strOf y.bs = sy at *
        generalize x.A = XA at *
        generalize x.k = xk at *
        generalize x.c = xc at *
        generalize y.A = YA at *
        generalize y.k = yk at *
        generalize y.c = yc at *
        go_upto_region 8 with fail
        go_quiet (fail)
        go_wp2_with fail
        go_roundw
        case rel => exact ⟨K + 1, k + 1, _, by go_num, by rw [HKk.out], by omega, rfl⟩
        case measure => simp [intOf]; omega
      · have hlt' : ¬ (K : Int) < N := by omega
        obtain ⟨w4, hw4⟩ : ∃ w4, w4 = w3.drewN q := ⟨_, rfl⟩
        rw [← hw4]
        have hb34 : Below w3.heap.size w3 w4 := by rw [hw4]; exact bdrew (Below.refl _ _) q
        have HP4 := Lib.hid (show PAt w4 Ap l ∧ (∀ x ∈ l, PBytes w4 x) ∧ FoIs l rs from ⟨HP3.out.1.below hb34 (Nat.le_refl _), fun x hx => (HP3.out.2.1 x hx).below hb34 (Nat.le_refl _), HP3.out.2.2⟩)
        have HR4 := Lib.hid (show RecsV w4 (.slice Ar nr cr) rs ∧ nr = rs.length from ⟨HR.out.1.below hb34 (Nat.le_refl _), HR.out.2⟩)
        have HB4 := Lib.hid (HB3.out.trans (hb34.mono HB3.out.size))
        have hnr4 : nr ≤ 4000 := by rw [HR.out.2]; exact hfl
        have hNnr : N ≤ nr := by rw [HR.out.2, HN.out]; exact HP3.out.2.2.len
        clear HP3 HR HB3 hb34 hw4 hKk hkN hlt
        go_wp2_with fail
        clear hlt'
        go_loopw [6] (fun s6 wx => ∃ i : Nat, s6 = .int .i64 (i : Int) ∧ i ≤ nr ∧ Below w4.heap.size w4 wx) (fun s6 _ => nr - (intOf s6).toNat)
        case atStart => exact ⟨0, rfl, by omega, Below.refl _ _⟩
        case round =>
          obtain ⟨i, rfl, hin, hbx⟩ := hrel
          have HBX := Lib.hid hbx; clear hbx
          by_cases hlt : i < nr
          · have hlt' : (i : Int) < nr := by omega
            obtain ⟨y, hy⟩ : ∃ y, rs[i]? = some y := ⟨_, List.getElem?_eq_getElem (by rw [← HR4.out.2]; exact hlt)⟩
            obtain ⟨pr, off, c', kv, vv, hA, -, -, hpr, d0, d1, d2, d3, d4, d5, ⟨Ay, cy, rfl, hya, -⟩, ⟨Aw, cw, rfl, hwa, -⟩, -, -⟩ := HR4.out.1.at' hy
            obtain ⟨rfl, rfl⟩ : Ar = some ⟨pr, off, none⟩ ∧ cr = c' := by simp at hA; exact ⟨hA.1, hA.2.2⟩
            have hbx := HBX.out
            have e0 := (hbx.cell (p := ⟨pr, off + i * 6, none⟩) hpr).trans d0
            have e1 := (hbx.cell (p := ⟨pr, off + i * 6 + 1, none⟩) hpr).trans d1
            have e2 := (hbx.cell (p := ⟨pr, off + i * 6 + 2, none⟩) hpr).trans d2
            have e3 := (hbx.cell (p := ⟨pr, off + i * 6 + 3, none⟩) hpr).trans d3
            have e4 := (hbx.cell (p := ⟨pr, off + i * 6 + 4, none⟩) hpr).trans d4
            have e5 := (hbx.cell (p := ⟨pr, off + i * 6 + 5, none⟩) hpr).trans d5
            have HY := Lib.hid (And.intro hy (And.intro d3 (And.intro hya hwa))); clear hy d0 d1 d2 d3 d4 d5 hya hwa hA hbx
            by_cases hyk : y.hasKey = true
            · rw [hyk] at e2
              obtain ⟨ny, hny⟩ : ∃ ny, ny = y.key.length := ⟨_, rfl⟩
              obtain ⟨nw, hnw⟩ : ∃ nw, nw = y.val.length := ⟨_, rfl⟩
              rw [← hny] at e3 HY
              rw [← hnw] at e5 HY
              have HNY := Lib.hid (And.intro hny hnw); clear hny hnw
              go_upto_region 15 with fail
              obtain ⟨g, hg⟩ : ∃ g, g = wr.heap.size := ⟨_, rfl⟩
              obtain ⟨w5, hw5⟩ : ∃ w5, w5 = wr.alloc (.cells #[.int .i64 y.off, .int .i64 y.time, .bool true, .slice Ay ny cy, .bool y.hasVal, .slice Aw nw cw] 54) := ⟨_, rfl⟩
              rw [← hw5, ← hg]
              have hb5 : Below wr.heap.size wr w5 := by rw [hw5]; exact (Below.refl _ _).alloc (Nat.le_refl _) _
              have hk5 : Blk w5 g 54 #[.int .i64 y.off, .int .i64 y.time, .bool true, .slice Ay ny cy, .bool y.hasVal, .slice Aw nw cw] := by rw [hw5, hg]; exact Blk.new _ _ _
              have hgw : w4.heap.size ≤ g := by rw [hg]; exact HBX.out.size
              have H5 := Lib.hid (And.intro hk5 (HBX.out.trans (hb5.mono HBX.out.size))); clear hk5 hb5 hw5 hg e0 e1 e2 e3 e4 e5 HBX
              obtain ⟨s, hs⟩ : ∃ s, s = strOf y.key := ⟨_, rfl⟩
              have hcy : ∀ wz i', Below w4.heap.size w4 wz → (convert 23 9 (.slice Ay ny cy)).run Try.prog (wz.drewN i') = .ok (.string s) (wz.drewN i') := fun wz i' h => by
                rw [hs]
                exact conv_any (P := Try.prog) (c := cy) Try.underlying23 Try.underlying5 Try.underlying9 y.key HNY.out.1.symm ((HY.out.2.2.1.below h (Nat.le_refl _)).drew i')
              have HCY := Lib.hid hcy; clear hcy
              have HS := Lib.hid (show y.hasKey = true ∧ s = strOf y.key from ⟨hyk, hs⟩); clear hs
              have hcur0 : fo.Cur w4 s y Ay ny Aw nw := ⟨hyk, HS.out.2.symm, HNY.out.1.symm, HNY.out.2.symm, HY.out.2.2.1, HY.out.2.2.2⟩
              have HC0 := Lib.hid hcur0; clear hcur0
              go_wp2_with fail
              go_loopw [8] (fun s8 wz => ∃ (k : Nat) (cur : Rec) (Ak : Option Addr) (nk ck : Nat) (Av : Option Addr) (nv cv : Nat), s8 = .int .i64 (k : Int) ∧ i ≤ k ∧ k ≤ nr ∧ fo.Cur w4 s cur Ak nk Av nv ∧ (i < k → fo.map (rs.take k) s = fo.say cur) ∧ Blk wz g 54 #[.int .i64 cur.off, .int .i64 cur.time, .bool true, .slice Ak nk ck, .bool cur.hasVal, .slice Av nv cv] ∧ Below w4.heap.size w4 wz) (fun s8 _ => nr - (intOf s8).toNat)
              case atStart => exact ⟨i, y, Ay, ny, cy, Aw, nw, cw, rfl, by omega, by omega, HC0.out, fun h => absurd h (by omega), H5.out.1, H5.out.2⟩
              case round =>
                obtain ⟨k, cur, Ak, nk, ck, Av, nv, cv, rfl, hik, hkn, hcur, hmap, hblk, hbz⟩ := hrel
                clear H5 HC0
                have HCUR := Lib.hid hcur; clear hcur
                have HMAP := Lib.hid hmap; clear hmap
                have HBLK := Lib.hid hblk; clear hblk
                have HBZ := Lib.hid hbz; clear hbz
                by_cases hkr : k < nr
                · have hkr' : (k : Int) < nr := by omega
                  obtain ⟨z, hz⟩ : ∃ z, rs[k]? = some z := ⟨_, List.getElem?_eq_getElem (by rw [← HR4.out.2]; exact hkr)⟩
                  obtain ⟨pr', off', c', kv, vv, hA, -, -, -, d0, d1, d2, d3, d4, d5, ⟨Az, cz, rfl, hza, -⟩, ⟨Au, cu, rfl, hua, -⟩, -, -⟩ := HR4.out.1.at' hz
                  obtain ⟨rfl, rfl, -⟩ : pr = pr' ∧ off = off' ∧ cr = c' := by simp at hA; exact ⟨hA.1.1, hA.1.2, hA.2.2⟩
                  obtain ⟨nz, hnz⟩ : ∃ nz, nz = z.key.length := ⟨_, rfl⟩
                  obtain ⟨nu, hnu⟩ : ∃ nu, nu = z.val.length := ⟨_, rfl⟩
                  rw [← hnz] at d3 hza
                  rw [← hnu] at d5 hua
                  have hlift : ∀ (j : Nat) (v : Value), w4.cell? ⟨pr, off + j, none⟩ = some v → ∀ i', (wr.drewN i').cell? ⟨pr, off + j, none⟩ = some v := fun j v h i' => (HBZ.out.cell (p := ⟨pr, off + j, none⟩) hpr).trans h
                  have q2 : ∀ i', (wr.drewN i').cell? ⟨pr, off + k * 6 + 2, none⟩ = some (.bool z.hasKey) := fun i' => (HBZ.out.cell (p := ⟨pr, off + k * 6 + 2, none⟩) hpr).trans d2
                  have q3 : ∀ i', (wr.drewN i').cell? ⟨pr, off + k * 6 + 3, none⟩ = some (.slice Az nz cz) := fun i' => (HBZ.out.cell (p := ⟨pr, off + k * 6 + 3, none⟩) hpr).trans d3
                  have qy : ∀ i', (wr.drewN i').cell? ⟨pr, off + i * 6 + 3, none⟩ = some (.slice Ay ny cy) := fun i' => (HBZ.out.cell (p := ⟨pr, off + i * 6 + 3, none⟩) hpr).trans HY.out.2.1
                  have cy' := fun i' => HCY.out wr i' HBZ.out
                  have cz' := fun i' => conv_any (P := Try.prog) (c := cz) Try.underlying23 Try.underlying5 Try.underlying9 z.key hnz.symm ((hza.below HBZ.out (Nat.le_refl _)).drew i')
                  have HD := Lib.hid (And.intro d0 (And.intro d1 (And.intro d2 (And.intro d3 (And.intro d4 d5))))); clear d0 d1 d2 d3 d4 d5 hlift hA
                  have HZ := Lib.hid (And.intro hz (And.intro hnz (And.intro hnu (And.intro hza hua)))); clear hz hnz hnu hza hua
                  by_cases hzk : z.hasKey = true
                  · rw [hzk] at q2
                    by_cases hzs : strOf z.key = s
                    · rw [hzs] at cz'
                      have hcurz : fo.Cur w4 s z Az nz Au nu := ⟨hzk, hzs, HZ.out.2.1.symm, HZ.out.2.2.1.symm, HZ.out.2.2.2.1, HZ.out.2.2.2.2⟩
                      have hmapz : fo.map (rs.take (k + 1)) s = fo.say z := by rw [fo.map_next HZ.out.1, ← hzs, fo.one_same hzk]
                      have HN := Lib.hid (And.intro hcurz hmapz); clear hcurz hmapz
                      have q0 : ∀ i', (wr.drewN i').cell? ⟨pr, off + k * 6, none⟩ = some (.int .i64 z.off) := fun i' => (HBZ.out.cell (p := ⟨pr, off + k * 6, none⟩) hpr).trans HD.out.1
                      have q1 : ∀ i', (wr.drewN i').cell? ⟨pr, off + k * 6 + 1, none⟩ = some (.int .i64 z.time) := fun i' => (HBZ.out.cell (p := ⟨pr, off + k * 6 + 1, none⟩) hpr).trans HD.out.2.1
                      have q4 : ∀ i', (wr.drewN i').cell? ⟨pr, off + k * 6 + 4, none⟩ = some (.bool z.hasVal) := fun i' => (HBZ.out.cell (p := ⟨pr, off + k * 6 + 4, none⟩) hpr).trans HD.out.2.2.2.2.1
                      have q5 : ∀ i', (wr.drewN i').cell? ⟨pr, off + k * 6 + 5, none⟩ = some (.slice Au nu cu) := fun i' => (HBZ.out.cell (p := ⟨pr, off + k * 6 + 5, none⟩) hpr).trans HD.out.2.2.2.2.2
                      go_upto_region 18 with fail
                      go_quiet (fail)
                      go_wp2_with (refine wpList_store_row rfl 54 (.tmp 7) (.tmp 85) rfl g #[.int .i64 z.off, .int .i64 z.time, .bool true, .slice Az nz cz, .bool z.hasVal, .slice Au nu cu] rfl rfl 54 _ (HBLK.out.drew _) fo.infoR rfl (by simp [Value.oneCell']) ?_)
                      go_roundw
                      case rel => exact ⟨k + 1, z, Az, nz, cz, Au, nu, cu, by go_num, by omega, by omega, HN.out.1, fun _ => HN.out.2, fo.blk_row (HBLK.out.drew _) _, (bdrew HBZ.out _).trans ((fo.chg_row _ g _).below (bdrew HBZ.out _).size fun j hj => by have hj : j = g := hj; omega)⟩
                      case measure => simp [intOf]; omega
                    · have hne := fo.text_ne hzs
                      have hik2 : i < k := by
                        rcases Nat.lt_or_ge i k with h | h
                        · exact h
                        · exfalso
                          obtain rfl : i = k := by omega
                          have h1 := HZ.out.1.symm.trans HY.out.1
                          obtain rfl : z = y := Option.some.inj h1
                          exact hzs HS.out.2.symm
                      have hmapz : fo.map (rs.take (k + 1)) s = fo.say cur := by rw [fo.map_next HZ.out.1, fo.one_other (fun h => hzs h.2.symm)]; exact HMAP.out hik2
                      have HN := Lib.hid hmapz; clear hmapz
                      generalize strOf z.key = sz at *
                      go_upto_region 18 with fail
                      go_quiet (fail)
                      go_wp2_with fail
                      go_roundw
                      case rel => exact ⟨k + 1, cur, Ak, nk, ck, Av, nv, cv, by go_num, by omega, by omega, HCUR.out, fun _ => HN.out, HBLK.out.drew _, bdrew HBZ.out _⟩
                      case measure => simp [intOf]; omega
                  · have hzk : z.hasKey = false := by simpa using hzk
                    rw [hzk] at q2
                    have hik2 : i < k := by
                      rcases Nat.lt_or_ge i k with h | h
                      · exact h
                      · exfalso
                        obtain rfl : i = k := by omega
                        have h1 := HZ.out.1.symm.trans HY.out.1
                        obtain rfl : z = y := Option.some.inj h1
                        rw [HS.out.1] at hzk
                        cases hzk
                    have hmapz : fo.map (rs.take (k + 1)) s = fo.say cur := by rw [fo.map_next HZ.out.1, fo.one_other (fun h => by rw [hzk] at h; cases h.1)]; exact HMAP.out hik2
                    have HN := Lib.hid hmapz; clear hmapz
                    clear q3 cz'
                    go_upto_region 18 with fail
                    go_quiet (fail)
                    go_wp2_with fail
                    go_roundw
                    case rel => exact ⟨k + 1, cur, Ak, nk, ck, Av, nv, cv, by go_num, by omega, by omega, HCUR.out, fun _ => HN.out, HBLK.out.drew _, bdrew HBZ.out _⟩
                    case measure => simp [intOf]; omega
                · obtain rfl : k = nr := by omega
                  have hmapf : fo.map rs s = fo.say cur := by
                    have h := HMAP.out (by omega)
                    rw [List.take_of_length_le (by rw [← HR4.out.2]; exact Nat.le_refl _)] at h
                    exact h
                  have HM := Lib.hid hmapf; clear hmapf HMAP
                  obtain ⟨w6, hw6⟩ : ∃ w6, w6 = wr := ⟨_, rfl⟩
                  rw [← hw6] at HBLK HBZ ⊢
                  clear hw6
                  go_wp2_with fail
                  go_loopw [9, 10] (fun s9 s10 wz => ∃ (j q : Nat) (b : Bool), s9 = .bool b ∧ s10 = .int .i64 (j : Int) ∧ j ≤ N ∧ (b = true ↔ ∃ x ∈ l.take j, x.key = s) ∧ wz = w6.drewN q) (fun _ s10 _ => N - (intOf s10).toNat)
                  case atStart => exact ⟨0, 0, false, rfl, rfl, by omega, by simp, rfl⟩
                  case round =>
                    obtain ⟨j, q, b, rfl, rfl, hjN, hb, rfl⟩ := hrel
                    have HMET := Lib.hid hb; clear hb
                    have g3 : ∀ i', (w6.drewN i').cell? ⟨g, 3, none⟩ = some (.slice Ak nk ck) := fun i' => HBLK.out.cell 3 rfl
                    by_cases hj : j < N
                    · have hj' : (j : Int) < N := by omega
                      obtain ⟨x, hx⟩ : ∃ x, l[j]? = some x := ⟨_, List.getElem?_eq_getElem (by rw [← HN.out]; exact hj)⟩
                      obtain ⟨p, po, hA, hp, e0, e1, e2⟩ := HP4.out.1.cells hx
                      subst hA
                      obtain ⟨hxl, -, hxa, hvl, -, hva⟩ := HP4.out.2.1 x (List.mem_of_getElem? hx)
                      have v0 : ∀ i', (w6.drewN i').cell? ⟨p, po + j * 3, none⟩ = some (.slice x.A x.k x.c) := fun i' => (HBZ.out.cell (p := ⟨p, po + j * 3, none⟩) hp).trans e0
                      have cx := fun i' => conv_any (P := Try.prog) (c := x.c) Try.underlying23 Try.underlying5 Try.underlying9 x.bs hxl ((hxa.below HBZ.out (Nat.le_refl _)).drew i')
                      have cc : ∀ i', (convert 23 9 (.slice Ak nk ck)).run Try.prog (w6.drewN i') = .ok (.string s) (w6.drewN i') := fun i' => by
                        rw [← HCUR.out.2.1]
                        exact conv_any (P := Try.prog) (c := ck) Try.underlying23 Try.underlying5 Try.underlying9 cur.key HCUR.out.2.2.1 ((HCUR.out.2.2.2.2.1.below HBZ.out (Nat.le_refl _)).drew i')
                      by_cases hxs : strOf x.bs = s
                      · have hsay : fo.say cur = some x.is := by
                          rw [← HM.out, ← hxs]
                          exact HP4.out.2.2.says x (List.mem_of_getElem? hx)
                        have hval : cur.val = x.vs ∧ cur.off = x.off := by
                          unfold fo.say at hsay
                          split at hsay
                          · have h := Option.some.inj hsay
                            exact ⟨congrArg (fun t => t.2.1) h, congrArg (fun t => t.2.2) h⟩
                          · cases hsay
                        have hmet := fo.met_hit (x := x) (s := s) hx hxs
                        have HMT := Lib.hid hmet; clear hmet hsay
                        rw [hxs] at cx
                        have v1 : ∀ i', (w6.drewN i').cell? ⟨p, po + j * 3 + 1, none⟩ = some (.slice x.VA x.vk x.vc) := fun i' => (HBZ.out.cell (p := ⟨p, po + j * 3 + 1, none⟩) hp).trans e1
                        have v2 : ∀ i', (w6.drewN i').cell? ⟨p, po + j * 3 + 2, none⟩ = some (.int .i64 cur.off) := fun i' => by rw [hval.2]; exact (HBZ.out.cell (p := ⟨p, po + j * 3 + 2, none⟩) hp).trans e2
                        have g5 : ∀ i', (w6.drewN i').cell? ⟨g, 5, none⟩ = some (.slice Av nv cv) := fun i' => HBLK.out.cell 5 rfl
                        have g0 : ∀ i', (w6.drewN i').cell? ⟨g, 0, none⟩ = some (.int .i64 cur.off) := fun i' => HBLK.out.cell 0 rfl
                        have cv1 : ∀ i', (convert 23 9 (.slice x.VA x.vk x.vc)).run Try.prog (w6.drewN i') = .ok (.string (strOf cur.val)) (w6.drewN i') := fun i' => by
                          rw [hval.1]
                          exact conv_any (P := Try.prog) (c := x.vc) Try.underlying23 Try.underlying5 Try.underlying9 x.vs hvl ((hva.below HBZ.out (Nat.le_refl _)).drew i')
                        have cv2 := fun i' => conv_any (P := Try.prog) (c := cv) Try.underlying23 Try.underlying5 Try.underlying9 cur.val HCUR.out.2.2.2.1 ((HCUR.out.2.2.2.2.2.below HBZ.out (Nat.le_refl _)).drew i')
                        clear hxl hxa hvl hva e0 e1 e2 hval hx hxs
                        generalize strOf cur.val = sv at *
                        generalize x.A = XA at *
                        generalize x.k = xk at *
                        generalize x.c = xc at *
                        generalize x.VA = XV at *
                        generalize x.vk = xvk at *
                        generalize x.vc = xvc at *
                        go_upto_region 24 with fail
                        go_quiet (fail)
                        go_upto_region 26 with fail
                        go_quiet (fail)
                        go_wp2_with fail
                        go_roundw
                        case rel => exact ⟨j + 1, _, true, rfl, by go_num, by omega, HMT.out, rfl⟩
                        case measure => simp [intOf]; omega
                      · have hne := fo.text_ne hxs
                        have hmet := fo.met_next (s := s) hx HMET.out hxs
                        have HMT := Lib.hid hmet; clear hmet HMET
                        clear hxl hxa hvl hva e0 e1 e2 hx hxs
                        generalize strOf x.bs = sx at *
                        generalize x.A = XA at *
                        generalize x.k = xk at *
                        generalize x.c = xc at *
                        go_upto_region 24 with fail
                        go_quiet (fail)
                        go_wp2_with fail
                        go_roundw
                        case rel => exact ⟨j + 1, _, b, rfl, by go_num, by omega, HMT.out, rfl⟩
                        case measure => simp [intOf]; omega
                    · obtain rfl : j = N := by omega
                      have hbv : b = cur.hasVal := by
                        have h1 := HMET.out
                        rw [List.take_of_length_le (by rw [← HN.out]; exact Nat.le_refl _)] at h1
                        have h2 := HM.out
                        cases hv : cur.hasVal with
                        | true =>
                          unfold fo.say at h2
                          rw [if_pos hv] at h2
                          exact h1.2 (HP4.out.2.2.all s _ h2)
                        | false =>
                          unfold fo.say at h2
                          rw [if_neg (by rw [hv]; simp)] at h2
                          cases b with
                          | false => rfl
                          | true =>
                            obtain ⟨x, hx, hxs⟩ := h1.1 rfl
                            have h3 := HP4.out.2.2.says x hx
                            rw [hxs, h2] at h3
                            cases h3
                      subst hbv
                      have g4 : (w6.drewN q).cell? ⟨g, 4, none⟩ = some (.bool cur.hasVal) := HBLK.out.cell 4 rfl
                      go_wp2_with fail
                      go_roundw
                      case rel => exact ⟨i + 1, by go_num, by omega, bdrew HBZ.out q⟩
                      case measure => simp [intOf]; omega
            · have hyk : y.hasKey = false := by simpa using hyk
              rw [hyk] at e2
              go_wp2_with fail
              go_roundw
              case rel => exact ⟨i + 1, by go_num, by omega, HBX.out⟩
              case measure => simp [intOf]; omega
          · obtain rfl : i = nr := by omega
            have hle : (N : Int) ≤ (i : Int) := by omega
            go_wp2_with fail
            refine (HAW.out _).mono ?_
            rintro e w9 ⟨rfl, hb9⟩
            have HB9 := Lib.hid ((HB4.out.trans (HBX.out.mono HB4.out.size)).trans (hb9.mono (HB4.out.trans (HBX.out.mono HB4.out.size)).size)); clear hb9
            go_wp2_with fail
            go_ret
            exact ⟨rfl, HB9.out⟩
theorem law13.lastAll (A : Option Addr) (n c : Nat) (bs : List Bat) (w : World) (m : bs.length = n ∧ n ≤ c ∧ c ≤ maxLen) (h : BatsAt w A bs) :
    Calls Try.prog 6 #[.slice A n c] w fun e w' => e = .returned (.bool true) ∧ Below w.heap.size w w' := law13.last A n c bs w h m.1 m.2
end Go.Proofs.Ytbbekgliaedigaa

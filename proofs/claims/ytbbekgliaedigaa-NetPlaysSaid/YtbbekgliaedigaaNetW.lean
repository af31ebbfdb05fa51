/- The law package's shows (cordwainlaw23). -/
import Derived.BigRegionIn
import Derived.Test.YtbbekgliaedigaaRnd
import Derived.Test.YtbbekgliaedigaaNetV
namespace Go.Proofs.Ytbbekgliaedigaa
open Go.RowKit
set_option maxRecDepth 20000
attribute [local go_sem] Oper.semAt_some

theorem results_cell1 {P : Program} {fn : Func} {p : Tmp} {tp : TypeId} (h : fn.results = #[.cell p tp]) (tmps : Array Value) (w : World) (ap : Addr) (hp : tmps.getD p undef = .pointer (some ap)) {vp : Value}
    (h1 : (loadVar tp ap).run P w = .ok vp w) : (results fn tmps).run P w = .ok vp w := by
  simp only [Array.getD_eq_getD_getElem?] at hp
  simp [results, h, hp, asAddr, h1]

/-- What the rounds of shows keep. -/
structure net.SI (w0 : World) (b q last : Nat) (l : List RItm) (most : Int) (w : World) (pre : List NX) (W : World) : Prop where
  m : Boxed W b 108 (.pointer (some ⟨q, 0, none⟩))
  mo : Boxed W (b + 1) 3 (.int .i64 most)
  res : Boxed W (b + 1 + 1) 4 (.bool false)
  k : Boxed W (b + 1 + 1 + 1) 3 (.int .i64 (pre.length : Int))
  ref : RefAt w0 W q last l
  le : (pre.length : Int) ≤ most
  below : Below w.heap.size w W
theorem net.SI_own (w0 : World) (b q last : Nat) (l : List RItm) (most : Int) (w : World) {B : Nat} (hB : w.heap.size ≤ B) : OwnFrom B (net.SI w0 b q last l most w) := by
  rintro pre X Y row h hg hr
  have hb : ∀ {B' : Nat} {t : TypeId} {v : Value}, Boxed X B' t v → Boxed Y B' t v := fun {B'} {t} {v} hv => (grown_cells hg (fun r e => (hr r e).2) ⟨_, hv, rfl⟩).trans hv
  have hrf : RefAt w0 Y q last l := h.ref.chg (Chg.grown hg) fun k hk cs T fr hT => by
    obtain ⟨-, o, ho, hc⟩ := hr k hk
    rw [hT] at ho
    cases ho
    cases hc
  exact ⟨hb h.m, hb h.mo, hb h.res, hb h.k, hrf, h.le, (ownFrom_below (β := Unit) (Nat.le_refl _) hB) () X Y row h.below hg hr⟩

set_option maxHeartbeats 8000000 in
theorem law23.shows (w0 : World) (B p q last last2 : Nat) (S : List (Int × List Nat)) (most : Int) (w : World) (hn : NetS B 0 w p last S) (hr : RefS w0 w q last2 S) (hlast : last ≤ 100000) (hlast2 : last2 ≤ 100000) (h0 : Below w0.heap.size w0 w) (hm0 : 0 ≤ most) :
    Calls Try.prog 67 #[.pointer (some ⟨p, 0, none⟩), .pointer (some ⟨q, 0, none⟩), .int .i64 most] w fun e w' => e = .returned (.bool true) ∧ Below w.heap.size w w' := by
  obtain ⟨l, hr, hsl⟩ := hr
  have hll : l.length = S.length := by rw [← hsl]; unfold ref.says; rw [List.length_map]
  have hl2 : S.length ≤ last2 := by
    obtain ⟨v, -, -, -, h⟩ := hr
    omega
  have HSL := Lib.hid hsl; clear hsl
  have HN := Lib.hid hn; clear hn
  have HR := Lib.hid hr; clear hr
  have H0 := Lib.hid h0; clear h0
  refine (callsIn_wide (n := 5)).1 ?_
  have h1 : 1 ≤ 5 := by omega
  refine callsIn_of_wp_marks Try.func67 rfl trivial ?_ rfl
  simp only [Try.ntmps67, List.size_toArray, List.length_cons, List.length_nil, Nat.reduceAdd, Nat.reduceSub, Array.replicate_succ, Array.replicate_zero, List.push_toArray, List.append_toArray, List.nil_append, List.cons_append]
  gi_wp2_with fail
  refine ⟨trivial, ?_⟩
  obtain ⟨w4, hw4⟩ : ∃ w4, w4 = (((w.alloc (.cells #[.pointer (some ⟨q, 0, none⟩)] 108)).alloc (.cells #[.int .i64 most] 3)).alloc (.cells #[.bool false] 4)).alloc (.cells #[.int .i64 0] 3) := ⟨_, rfl⟩
  rw [← hw4]
  have hB4 : Below w.heap.size w w4 := by rw [hw4]; exact ((((Below.refl _ w).alloc (Nat.le_refl _) _).alloc (by simp) _).alloc (by simp; omega) _).alloc (by simp; omega) _
  have hz4 : w4.heap.size = w.heap.size + 1 + 1 + 1 + 1 := by rw [hw4]; simp
  have b1 : Boxed w4 w.heap.size 108 (.pointer (some ⟨q, 0, none⟩)) := by rw [hw4]; exact (((Boxed.new w _ _).alloc _).alloc _).alloc _
  have b2 : Boxed w4 (w.heap.size + 1) 3 (.int .i64 most) := by
    rw [hw4]
    have h := Boxed.new (w.alloc (.cells #[.pointer (some ⟨q, 0, none⟩)] 108)) 3 (.int .i64 most)
    rw [World.size_alloc] at h
    exact (h.alloc _).alloc _
  have b3 : Boxed w4 (w.heap.size + 1 + 1) 4 (.bool false) := by
    rw [hw4]
    have h := Boxed.new ((w.alloc (.cells #[.pointer (some ⟨q, 0, none⟩)] 108)).alloc (.cells #[.int .i64 most] 3)) 4 (.bool false)
    rw [World.size_alloc, World.size_alloc] at h
    exact h.alloc _
  have b4 : Boxed w4 (w.heap.size + 1 + 1 + 1) 3 (.int .i64 0) := by
    rw [hw4]
    have h := Boxed.new (((w.alloc (.cells #[.pointer (some ⟨q, 0, none⟩)] 108)).alloc (.cells #[.int .i64 most] 3)).alloc (.cells #[.bool false] 4)) 3 (.int .i64 0)
    rw [World.size_alloc, World.size_alloc, World.size_alloc] at h
    exact h
  clear hw4
  refine (callsIn_wide.2 (net.all_any (some ⟨p, 0, none⟩) w4)).mono ?_
  rintro e w1 ⟨rfl, hw1⟩
  have hh := net.hands 4 (by omega) B 0 p last S w4 (HN.out.below hB4) (by omega)
  rw [← hw1] at hh
  rw [hz4] at hh ⊢
  have hl1 : Below w4.heap.size w4 w1 := by rw [hw1]; exact (Below.refl _ _).alloc (Nat.le_refl _) _
  have hB1 := hB4.trans (hl1.mono hB4.size)
  have hz1 : w1.heap.size = w.heap.size + 5 := by rw [hw1]; simp; omega
  have hsi : net.SI w0 w.heap.size q last2 l most w [] w1 :=
    ⟨by rw [hw1]; exact b1.alloc _, by rw [hw1]; exact b2.alloc _, by rw [hw1]; exact b3.alloc _, by rw [hw1]; exact b4.alloc _, HR.out.below hB1, by simpa using hm0, hB1⟩
  have hnil : ∀ (Bs : Nat) (w : World), (binOp BinOp.eql 151 (.func (.func 105) #[] #[.pointer (some ⟨Bs, 0, none⟩)]) .nilFunc).run Try.prog w = .ok (.bool false) w := fun _ _ => by kernel_rfl
  have HSI := Lib.hid hsi; clear hsi hw1 b1 b2 b3 b4 hl1 hB4 hz4
  gi_wp2_with fail
  refine for_each (F := Fence.wide) (n := 5) rfl h1 (gf := 105) (lb := #[.pointer (some ⟨w.heap.size + 1 + 1 + 1 + 1, 0, none⟩)]) rfl trivial (enters_of Try.func105 (by kernel_rfl) rfl)
    hh (Below.refl _ _) NKp.trans (fun W l o o' _ ho hcc _ => NKp.put ho hcc) (fun _ => rfl)
    (net.SI w0 w.heap.size q last2 l most w) (fun cd pre W => cd = .exit 0 ∧ ∃ pre0 x, pre = pre0 ++ [x] ∧ most = (pre0.length : Int) ∧ net.SI w0 w.heap.size q last2 l most w pre0 W) (net.SI_own _ _ _ _ _ _ w (by omega))
    (fun cd s X Y row hs hg hr => by
      obtain ⟨h1, pre0, x, h2, h3, h4⟩ := hs
      exact ⟨h1, pre0, x, h2, h3, net.SI_own _ _ _ _ _ _ w (B := w1.heap.size) (by omega) pre0 X Y row h4 hg hr⟩) (net.R_own _) (fun _ _ _ _ h _ _ => h) (fun _ _ _ _ h _ _ => h)
    HSI.out
    (fun x => { tmps := #[.pointer (some ⟨p, 0, none⟩), .pointer (some ⟨q, 0, none⟩), .int .i64 most, undef, .pointer (some ⟨w.heap.size, 0, none⟩), .pointer (some ⟨w.heap.size + 1, 0, none⟩), .pointer (some ⟨w.heap.size + 1 + 1, 0, none⟩), .pointer (some ⟨w.heap.size + 1 + 1 + 1, 0, none⟩), .func (.func 105) #[] #[.pointer (some ⟨w.heap.size + 1 + 1 + 1 + 1, 0, none⟩)], .int .i64 x.1.1, .slice x.2.1 x.1.2.length x.2.2, .pointer (some ⟨p, 0, none⟩), .func (.func 105) #[] #[.pointer (some ⟨w.heap.size + 1 + 1 + 1 + 1, 0, none⟩)], .func (.func 105) #[] #[.pointer (some ⟨w.heap.size + 1 + 1 + 1 + 1, 0, none⟩)], .bool false, .func (.func 105) #[] #[.pointer (some ⟨w.heap.size + 1 + 1 + 1 + 1, 0, none⟩)], .int .i64 x.1.1, .slice x.2.1 x.1.2.length x.2.2, undef, undef, undef, undef, undef, undef, undef, undef, undef, undef, undef, undef, undef, undef, undef, undef, undef, undef, undef, undef, undef, undef, undef, undef, undef, undef, undef, undef, undef, undef, undef, undef, undef, undef, undef, undef, undef, undef, undef, undef, undef, undef, undef, undef, undef, undef, undef, undef, undef, undef, undef, undef, undef, undef], defers := [] }) ?assign ?body ?done ?stop
  case assign =>
    rintro l ⟨⟨id, bs⟩, ⟨A', c'⟩⟩ W K hK
    unfold net.encs
    dsimp only at hK ⊢
    gi_wp2
    exact hK
  case body =>
    rintro lb pre ⟨⟨id, bs⟩, ⟨A', c'⟩⟩ W hsi hR hnx
    dsimp only
    by_cases hb : most ≤ (pre.length : Int)
    · have c2 := hsi.mo.cell
      have c4 := hsi.k.cell
      have HI := Lib.hid hsi; clear hsi
      gi_wp2
      exact ⟨KeepsFrom.refl _ _, NKp.below (Below.refl _ _), rfl, pre, _, rfl, by have := HI.out.le; omega, HI.out⟩
    · obtain ⟨hlt, hsx⟩ := hnx.lt
      clear hnx
      obtain ⟨kk, hkk⟩ : ∃ kk, kk = pre.length := ⟨_, rfl⟩
      rw [← hkk] at hlt hsx hb
      have hsi0 := hsi
      obtain ⟨bm, bmo, -, bk, hrf, -, hbel⟩ := hsi
      rw [← hkk] at bk
      obtain ⟨y, hy, hyid, hybs⟩ : ∃ y, l[kk]? = some y ∧ y.id = id ∧ y.bs = bs := by
        have h2 := hsx
        rw [← HSL.out] at h2
        unfold ref.says at h2
        rw [List.getElem?_map] at h2
        cases hl : l[kk]? with
        | none => rw [hl] at h2; cases h2
        | some y =>
          rw [hl] at h2
          have e := Prod.mk.inj (Option.some.inj h2)
          exact ⟨y, rfl, e.1, e.2⟩
      obtain ⟨v, hq, hrow, hbs, -⟩ := hrf
      obtain ⟨g, cr, rfl, -, -, -, -, -⟩ := own_row_pos hrow (by omega)
      obtain ⟨d0, d1, hgl⟩ := ref.row_cells hrow hy
      obtain ⟨yb1, yb2, yb3⟩ := hbs y (List.mem_of_getElem? hy)
      have cq : W.cell? ⟨q, 1, none⟩ = some (.slice (some ⟨g, 0, none⟩) l.length cr) := hq.cell 1 rfl
      rw [hll] at cq
      have cm := bm.cell
      have cmo := bmo.cell
      have ck := bk.cell
      have fk := bk.frozen
      have hql := hq.lt
      obtain ⟨id', Ay, ky, cy, bs'⟩ := y
      obtain rfl : id' = id := hyid
      obtain rfl : bs' = bs := hybs
      dsimp only at d0 d1 yb1 yb2 yb3
      have haty := yb3.below (H0.out.trans (hbel.mono H0.out.size)) (Nat.le_refl _)
      have hcv := conv_any (P := Try.prog) Try.underlying23 Try.underlying5 Try.underlying9 (c := cy) bs' yb1 haty
      have hcw := conv_any (P := Try.prog) Try.underlying23 Try.underlying5 Try.underlying9 (c := c') bs' rfl (own_bytes_at hR)
      have hcv' : ∀ qq, (convert 23 9 (.slice Ay ky cy)).run Try.prog (W.drewN qq) = .ok (.string (strOf bs')) (W.drewN qq) := fun qq => conv_any (P := Try.prog) Try.underlying23 Try.underlying5 Try.underlying9 (c := cy) bs' yb1 (haty.drew qq)
      have hcw' : ∀ qq, (convert 23 9 (.slice A' bs'.length c')).run Try.prog (W.drewN qq) = .ok (.string (strOf bs')) (W.drewN qq) := fun qq => conv_any (P := Try.prog) Try.underlying23 Try.underlying5 Try.underlying9 (c := c') bs' rfl ((own_bytes_at hR).drew qq)
      generalize strOf bs' = str at hcv hcw hcv' hcw'
      generalize hbl : bs'.length = bl at *
      have hd1 : decide (most ≤ (kk : Int)) = false := decide_eq_false hb
      have hd2 : decide ((S.length : Int) ≤ (kk : Int)) = false := decide_eq_false (by omega)
      have hd3 : decide (S.length ≤ kk) = false := decide_eq_false (by omega)
      have u1 : ∀ qq, (W.drewN qq).cell? ⟨q, 1, none⟩ = some (.slice (some ⟨g, 0, none⟩) S.length cr) := fun qq => cq
      have u2 : ∀ qq, (W.drewN qq).cell? ⟨w.heap.size, 0, none⟩ = some (.pointer (some ⟨q, 0, none⟩)) := fun qq => cm
      have u3 : ∀ qq, (W.drewN qq).cell? ⟨w.heap.size + 1 + 1 + 1, 0, none⟩ = some (.int .i64 (kk : Int)) := fun qq => ck
      have u4 : ∀ qq, (W.drewN qq).cell? ⟨g, kk * 2, none⟩ = some (.int .i64 id') := fun qq => d0
      have u5 : ∀ qq, (W.drewN qq).cell? ⟨g, kk * 2 + 1, none⟩ = some (.slice Ay ky cy) := fun qq => d1
      have u6 : ∀ qq, (W.drewN qq).frozen? ⟨w.heap.size + 1 + 1 + 1, 0, none⟩ = false := fun qq => fk
      have HK := Lib.hid hkk; clear hkk
      have HSI2 := Lib.hid hsi0; clear hsi0 bm bmo bk hq hrow hbs hbel yb1 yb2 yb3 haty hR hsx hy
      clear hb
      gi_wp2_with fail
      refine round_region_quiet lb rfl (by kernel_rfl) (by kernel_rfl) (by kernel_rfl) ?_
      repeat (gi_big_quiet_step (fail))
      refine wpQuietIn_nil ?_
      rintro _ ⟨nq, rfl⟩
      gi_wp2_with fail
      have hs := HSI2.out
      have hkl := HK.out
      have hlt' : ¬ most ≤ (kk : Int) := of_decide_eq_false hd1
      have hz := hs.below.size
      have hch : Chg W ((W.drewN nq).setCell ⟨w.heap.size + 1 + 1 + 1, 0, none⟩ (.int .i64 ((kk : Int) + 1))) (fun k => k = w.heap.size + 1 + 1 + 1) :=
        ((Chg.refl W _).drewN nq).trans (Chg.setCell _ _ _ _) (fun _ _ h => h)
      have hkb : W.heap[w.heap.size + 1 + 1 + 1]? = some (.cells #[.int .i64 (pre.length : Int)] 3) := hs.k
      refine ⟨⟨hch.size, fun k o hk ho _ => (hch.block k (heap_in ho) (by omega)).trans ho⟩, NKp.chg hch fun k hk => ⟨_, _, _, hk ▸ hkb, by unfold NTy; decide⟩, ?_⟩
      refine ⟨(hch.block _ hs.m.lt (by omega)).trans hs.m, (hch.block _ hs.mo.lt (by omega)).trans hs.mo, (hch.block _ hs.res.lt (by omega)).trans hs.res, ?_, ?_, ?_, hs.below.trans (hch.below (by omega) (by omega))⟩
      · have hk2 := Boxed.set (.int .i64 ((kk : Int) + 1)) (show Boxed (W.drewN nq) (w.heap.size + 1 + 1 + 1) _ _ from hs.k)
        rw [List.length_append, List.length_singleton, ← hkl]
        exact hk2
      · refine hs.ref.chg hch fun k hk cs T fr hT => ?_
        subst hk
        rw [hkb] at hT
        simp only [Option.some.injEq, Obj.cells.injEq] at hT
        rw [← hT.2.1]
        decide
      · rw [List.length_append, List.length_singleton, ← hkl]
        omega
  case done =>
    rintro D ys W hD hS hsi hK
    obtain ⟨pn, hpn⟩ : ∃ pn, pn = ys.length := ⟨_, rfl⟩
    have hfit : (pn : Int) = most ∧ pn ≤ S.length ∨ pn = S.length ∧ (pn : Int) ≤ most := by
      have hS' : ys.map Prod.fst = S := hS
      have e1 : ys.length = S.length := by rw [← hS', List.length_map]
      have := hsi.le
      omega
    clear hS
    have hle := hsi.le
    have hz := hsi.below.size
    have hDl : D < W.heap.size := heap_in hK
    have hmin : (if (S.length : Int) < most then (S.length : Int) else most) = (pn : Int) := by
      split <;> omega
    obtain ⟨v, hq, hrow, -, -⟩ := hsi.ref
    obtain ⟨g, cr, rfl, -⟩ := own_at hrow
    rw [hll] at hrow hq
    have hnr := HN.out.below hsi.below
    have hrr := hsi.ref
    have q1 : ∀ x : Later W (fun k => k = w.heap.size + 1 + 1), x.1.cell? ⟨w.heap.size, 0, none⟩ = some (.pointer (some ⟨q, 0, none⟩)) := fun x => Boxed.cell (W := x.1) ((x.2.block _ hsi.m.lt (by omega)).trans hsi.m)
    have q2 : ∀ x : Later W (fun k => k = w.heap.size + 1 + 1), x.1.cell? ⟨w.heap.size + 1, 0, none⟩ = some (.int .i64 most) := fun x => Boxed.cell (W := x.1) ((x.2.block _ hsi.mo.lt (by omega)).trans hsi.mo)
    have q4 : ∀ x : Later W (fun k => k = w.heap.size + 1 + 1), x.1.cell? ⟨w.heap.size + 1 + 1 + 1, 0, none⟩ = some (.int .i64 (pn : Int)) := fun x => Boxed.cell (W := x.1) ((x.2.block _ hsi.k.lt (by omega)).trans (hpn ▸ hsi.k))
    have hqne : q ≠ w.heap.size + 1 + 1 := fun e => by
      have h2 := hsi.res
      rw [← e] at h2
      have := hq.symm.trans h2
      simp at this

    have q5 : ∀ x : Later W (fun k => k = w.heap.size + 1 + 1), x.1.cell? ⟨q, 1, none⟩ = some (.slice g S.length cr) := fun x => (x.2.blk hq hqne).cell 1 rfl
    have hid2 : (S.map fun y => Value.int .i64 y.1) = ids (l.map RItm.id) := by rw [← HSL.out]; unfold ref.says ids; rw [List.map_map, List.map_map]; rfl
    have hwt := net.waitingS B 0 p last S W.drew (hnr.below (bdrew (Below.refl _ W) 1)) (by omega)
    have hwait : Calls Try.prog 58 #[.pointer (some ⟨p, 0, none⟩)] W.drew fun e w' => ∃ A c, e = .returned (.slice A S.length c) ∧ At w' A S.length (fun j => .int .i64 ((l.map RItm.id).getD j 0)) ∧ Below W.heap.size W w' := by
      refine hwt.mono ?_
      rintro e w' ⟨v, rfl, hr, hb⟩
      rw [hid2] at hr
      obtain ⟨A, c, rfl, ha⟩ := ids_at hr
      exact ⟨A, c, rfl, ha, (bdrew (Below.refl _ W) 1).trans hb⟩
    have hids : ∀ w', Below W.heap.size W w' → Calls Try.prog 92 #[.pointer (some ⟨q, 0, none⟩)] w' fun e w'' => ∃ A c, e = .returned (.slice A S.length c) ∧ At w'' A S.length (fun j => .int .i64 ((l.map RItm.id).getD j 0)) ∧ Below w'.heap.size w' w'' := by
      intro w' hb
      refine (ref.ids_any w0 q last2 l w' (hrr.below hb) (by omega)).mono ?_
      rintro e w' ⟨v, rfl, hr, hb⟩
      rw [hll] at hr
      obtain ⟨A, c, rfl, ha⟩ := ids_at hr
      exact ⟨A, c, rfl, ha, hb⟩
    have hbres := hsi.res
    have hWb := hsi.below
    have HWT := Lib.hid hwait; clear hwait hwt
    have HID := Lib.hid hids; clear hids
    have HRES := Lib.hid hbres; clear hbres
    have HWB := Lib.hid hWb; clear hWb
    have HKD := Lib.hid (And.intro hK hDl); clear hK hDl
    have HPN := Lib.hid hpn; clear hpn
    have HZ := Lib.hid hz; clear hz
    clear hsi hrr hnr hq hrow hqne hid2
    gi_wp2_with fail
    refine wpIn_wide.2 ?_
    have hS0 : later W (fun k => k = w.heap.size + 1 + 1) W.drew := later_of ((Chg.refl _ _).drew)
    refine wp_plan (S := fun w0 => ∃ x : Later W (fun k => k = w.heap.size + 1 + 1), w0 = x.1) (by kernel_rfl) hS0 ?_
    intro hS K5 hK5
    have HS := Lib.hid hS; clear hS hS0
    have d1 := q1 ⟨W.drew, (Chg.refl _ _).drew⟩
    have d5 := q5 ⟨W.drew, (Chg.refl _ _).drew⟩
    dsimp only at d1 d5
    refine plan_group [true, true] [0, 1] 15 (by dsimp only [sel]) (by rfl) rfl (by kernel_rfl) (by kernel_rfl) HS.out ?_
    (repeat go_big_quiet_step (fail)); refine wpQuiet_nil ?_
    refine plan_one [false, false, true] 2 14 (by dsimp only [sel]) (by rfl) rfl (by kernel_rfl) ?_; intro K1 hK1; go_wp2_with fail
    refine ⟨HS.out, ?_⟩
    refine plan_group [false, false, false, true, true] [3, 4] 12 (by dsimp only [sel]) (by rfl) rfl (by kernel_rfl) (by kernel_rfl) HS.out ?_
    (repeat go_big_quiet_step (fail)); refine wpQuiet_nil ?_
    refine plan_one [false, false, false, false, false, true] 5 11 (by dsimp only [sel]) (by rfl) rfl (by kernel_rfl) ?_; intro K1 hK1; go_wp2_with fail
    refine ⟨HS.out, ?_⟩
    refine plan_group [false, false, false, false, false, false, true, true, true, true, true, false, true] [6, 7, 8, 9, 10, 12] 5 (by dsimp only [sel]) (by rfl) rfl (by kernel_rfl) (by kernel_rfl) HS.out ?_
    (repeat go_big_quiet_step (fail)); refine wpQuiet_nil ?_
    refine plan_one [false, false, false, false, false, false, false, false, false, false, false, true] 11 4 (by dsimp only [sel]) (by rfl) rfl (by kernel_rfl) ?_; intro K1 hK1; go_wp2_with fail
    refine HWT.out.mono ?_
    rintro e w2 ⟨A2, c2', rfl, hat2, hb2⟩
    have HB2 := Lib.hid hb2; clear hb2
    have HAT2 := Lib.hid hat2; clear hat2
    go_wp2_with fail
    refine ⟨later_of (chg_of (HB2.out)), ?_⟩
    refine plan_one [false, false, false, false, false, false, false, false, false, false, false, false, false, true] 13 3 (by dsimp only [sel]) (by rfl) rfl (by kernel_rfl) ?_; intro K1 hK1; go_wp2_with fail
    refine (HID.out _ HB2.out).mono ?_
    rintro e w3 ⟨A3, c3', rfl, hat3, hb3⟩
    have hat2' : At w3 A2 S.length (fun j => .int .i64 ((l.map RItm.id).getD j 0)) := HAT2.out.below hb3 (Nat.le_refl _)
    have hW3 := HB2.out.trans (hb3.mono HB2.out.size)
    have HINTS := Lib.hid (alike.ints_same A2 A3 S.length c2' c3' (fun j => (l.map RItm.id).getD j 0) w3 (by omega) hat2' hat3)
    have HW3 := Lib.hid hW3; clear hW3 hat2' hat3 hb3
    go_wp2_with fail
    refine ⟨later_of (chg_of (HW3.out)), ?_⟩
    refine plan_one [false, false, false, false, false, false, false, false, false, false, false, false, false, false, true] 14 2 (by dsimp only [sel]) (by rfl) rfl (by kernel_rfl) ?_; intro K1 hK1; go_wp2_with fail
    refine HINTS.out.mono ?_
    rintro e w4 ⟨rfl, nq, hw4⟩
    have hW4 : Below W.heap.size W w4 := by rw [hw4]; exact bdrew HW3.out nq
    clear hw4 HINTS HB2 HAT2 HW3
    have HW4 := Lib.hid hW4; clear hW4
    go_wp2_with fail
    have HL4 := Lib.hid (show later W (fun k => k = w.heap.size + 1 + 1) w4 from later_of (chg_of HW4.out))
    refine ⟨HL4.out, ?_⟩
    refine plan_group [false, false, false, false, false, false, false, false, false, false, false, false, false, false, false, true] [15] 1 (by dsimp only [sel]) (by rfl) rfl (by kernel_rfl) (by kernel_rfl) HL4.out ?_
    (repeat go_big_quiet_step (fail)); refine wpQuiet_nil ?_
    have hb4 : Boxed w4 (w.heap.size + 1 + 1) 4 (.bool false) := (HW4.out.block _ HRES.out.lt).trans HRES.out
    have b4 := hb4.cell
    have f4 := hb4.frozen
    have HBX4 := Lib.hid hb4; clear hb4
    refine plan_one [false, false, false, false, false, false, false, false, false, false, false, false, false, false, false, false, true] 16 0 (by dsimp only [sel]) (by rfl) rfl (by kernel_rfl) ?_; intro K1 hK1; go_wp2_with fail
    obtain ⟨w5, hw5⟩ : ∃ w5, w5 = w4.setCell ⟨w.heap.size + 1 + 1, 0, none⟩ (.bool true) := ⟨_, rfl⟩
    rw [← hw5]
    have hb5 : Boxed w5 (w.heap.size + 1 + 1) 4 (.bool true) := by rw [hw5]; exact HBX4.out.set _
    have hc5 : Chg w4 w5 (fun k => k = w.heap.size + 1 + 1) := by rw [hw5]; exact Chg.setCell _ _ _ _
    clear hw5 b4 f4
    have hc5' : Chg W w5 (fun k => k = w.heap.size + 1 + 1) := (chg_of HW4.out).trans hc5 fun _ _ h => h
    have HB5 := Lib.hid hb5; clear hb5
    have HC5 := Lib.hid hc5'; clear hc5' hc5
    refine ⟨later_of HC5.out, ?_⟩
    refine wp_plan_end (by kernel_rfl) ?_
    go_wp2_with fail
    gi_wp2_with fail
    have hD5 : w5.heap[D]? = some (.deferred (some [])) := (HC5.out.block D HKD.out.2 (by have := HZ.out; omega)).trans HKD.out.1
    refine ⟨by simp, .inl ⟨_, _, rfl, run_takeDeferred hD5, ?_⟩⟩
    have hb6 : Boxed (w5.putObj D (.deferred none)) (w.heap.size + 1 + 1) 4 (.bool true) := (World.putObj_heap_other (by omega)).trans HB5.out
    refine ⟨_, results_cell1 rfl _ _ _ rfl (by simp [loadVar, go_sem, hb6.cell]), rfl, ?_⟩
    exact (HWB.out.trans (HC5.out.below (by have := HZ.out; omega) (by omega))).trans (belowK_b (w := w) (Nat.le_refl _) w5 D _ _ (by omega) hD5 rfl rfl)
  case stop =>
    rintro D c pre W hD hpre ⟨hc, hh⟩ hK
    subst hc
    obtain ⟨pre0, x, rfl, hx, hsi⟩ := hh
    obtain ⟨pn, hpn⟩ : ∃ pn, pn = pre0.length := ⟨_, rfl⟩
    have hfit : (pn : Int) = most ∧ pn ≤ S.length ∨ pn = S.length ∧ (pn : Int) ≤ most := by
      obtain ⟨rest, hr⟩ := hpre
      have e := congrArg List.length hr
      simp only [List.length_append, List.length_map, List.length_singleton] at e
      omega
    clear hpre hx
    have hle := hsi.le
    have hz := hsi.below.size
    have hDl : D < W.heap.size := heap_in hK
    have hmin : (if (S.length : Int) < most then (S.length : Int) else most) = (pn : Int) := by
      split <;> omega
    obtain ⟨v, hq, hrow, -, -⟩ := hsi.ref
    obtain ⟨g, cr, rfl, -⟩ := own_at hrow
    rw [hll] at hrow hq
    have hnr := HN.out.below hsi.below
    have hrr := hsi.ref
    have q1 : ∀ x : Later W (fun k => k = w.heap.size + 1 + 1), x.1.cell? ⟨w.heap.size, 0, none⟩ = some (.pointer (some ⟨q, 0, none⟩)) := fun x => Boxed.cell (W := x.1) ((x.2.block _ hsi.m.lt (by omega)).trans hsi.m)
    have q2 : ∀ x : Later W (fun k => k = w.heap.size + 1 + 1), x.1.cell? ⟨w.heap.size + 1, 0, none⟩ = some (.int .i64 most) := fun x => Boxed.cell (W := x.1) ((x.2.block _ hsi.mo.lt (by omega)).trans hsi.mo)
    have q4 : ∀ x : Later W (fun k => k = w.heap.size + 1 + 1), x.1.cell? ⟨w.heap.size + 1 + 1 + 1, 0, none⟩ = some (.int .i64 (pn : Int)) := fun x => Boxed.cell (W := x.1) ((x.2.block _ hsi.k.lt (by omega)).trans (hpn ▸ hsi.k))
    have hqne : q ≠ w.heap.size + 1 + 1 := fun e => by
      have h2 := hsi.res
      rw [← e] at h2
      have := hq.symm.trans h2
      simp at this

    have q5 : ∀ x : Later W (fun k => k = w.heap.size + 1 + 1), x.1.cell? ⟨q, 1, none⟩ = some (.slice g S.length cr) := fun x => (x.2.blk hq hqne).cell 1 rfl
    have hid2 : (S.map fun y => Value.int .i64 y.1) = ids (l.map RItm.id) := by rw [← HSL.out]; unfold ref.says ids; rw [List.map_map, List.map_map]; rfl
    have hwt := net.waitingS B 0 p last S W.drew (hnr.below (bdrew (Below.refl _ W) 1)) (by omega)
    have hwait : Calls Try.prog 58 #[.pointer (some ⟨p, 0, none⟩)] W.drew fun e w' => ∃ A c, e = .returned (.slice A S.length c) ∧ At w' A S.length (fun j => .int .i64 ((l.map RItm.id).getD j 0)) ∧ Below W.heap.size W w' := by
      refine hwt.mono ?_
      rintro e w' ⟨v, rfl, hr, hb⟩
      rw [hid2] at hr
      obtain ⟨A, c, rfl, ha⟩ := ids_at hr
      exact ⟨A, c, rfl, ha, (bdrew (Below.refl _ W) 1).trans hb⟩
    have hids : ∀ w', Below W.heap.size W w' → Calls Try.prog 92 #[.pointer (some ⟨q, 0, none⟩)] w' fun e w'' => ∃ A c, e = .returned (.slice A S.length c) ∧ At w'' A S.length (fun j => .int .i64 ((l.map RItm.id).getD j 0)) ∧ Below w'.heap.size w' w'' := by
      intro w' hb
      refine (ref.ids_any w0 q last2 l w' (hrr.below hb) (by omega)).mono ?_
      rintro e w' ⟨v, rfl, hr, hb⟩
      rw [hll] at hr
      obtain ⟨A, c, rfl, ha⟩ := ids_at hr
      exact ⟨A, c, rfl, ha, hb⟩
    have hbres := hsi.res
    have hWb := hsi.below
    have HWT := Lib.hid hwait; clear hwait hwt
    have HID := Lib.hid hids; clear hids
    have HRES := Lib.hid hbres; clear hbres
    have HWB := Lib.hid hWb; clear hWb
    have HKD := Lib.hid (And.intro hK hDl); clear hK hDl
    have HPN := Lib.hid hpn; clear hpn
    have HZ := Lib.hid hz; clear hz
    clear hsi hrr hnr hq hrow hqne hid2
    gi_wp2_with fail
    refine wpIn_wide.2 ?_
    have hS0 : later W (fun k => k = w.heap.size + 1 + 1) W.drew := later_of ((Chg.refl _ _).drew)
    refine wp_plan (S := fun w0 => ∃ x : Later W (fun k => k = w.heap.size + 1 + 1), w0 = x.1) (by kernel_rfl) hS0 ?_
    intro hS K5 hK5
    have HS := Lib.hid hS; clear hS hS0
    have d1 := q1 ⟨W.drew, (Chg.refl _ _).drew⟩
    have d5 := q5 ⟨W.drew, (Chg.refl _ _).drew⟩
    dsimp only at d1 d5
    refine plan_group [true, true] [0, 1] 15 (by dsimp only [sel]) (by rfl) rfl (by kernel_rfl) (by kernel_rfl) HS.out ?_
    (repeat go_big_quiet_step (fail)); refine wpQuiet_nil ?_
    refine plan_one [false, false, true] 2 14 (by dsimp only [sel]) (by rfl) rfl (by kernel_rfl) ?_; intro K1 hK1; go_wp2_with fail
    refine ⟨HS.out, ?_⟩
    refine plan_group [false, false, false, true, true] [3, 4] 12 (by dsimp only [sel]) (by rfl) rfl (by kernel_rfl) (by kernel_rfl) HS.out ?_
    (repeat go_big_quiet_step (fail)); refine wpQuiet_nil ?_
    refine plan_one [false, false, false, false, false, true] 5 11 (by dsimp only [sel]) (by rfl) rfl (by kernel_rfl) ?_; intro K1 hK1; go_wp2_with fail
    refine ⟨HS.out, ?_⟩
    refine plan_group [false, false, false, false, false, false, true, true, true, true, true, false, true] [6, 7, 8, 9, 10, 12] 5 (by dsimp only [sel]) (by rfl) rfl (by kernel_rfl) (by kernel_rfl) HS.out ?_
    (repeat go_big_quiet_step (fail)); refine wpQuiet_nil ?_
    refine plan_one [false, false, false, false, false, false, false, false, false, false, false, true] 11 4 (by dsimp only [sel]) (by rfl) rfl (by kernel_rfl) ?_; intro K1 hK1; go_wp2_with fail
    refine HWT.out.mono ?_
    rintro e w2 ⟨A2, c2', rfl, hat2, hb2⟩
    have HB2 := Lib.hid hb2; clear hb2
    have HAT2 := Lib.hid hat2; clear hat2
    go_wp2_with fail
    refine ⟨later_of (chg_of (HB2.out)), ?_⟩
    refine plan_one [false, false, false, false, false, false, false, false, false, false, false, false, false, true] 13 3 (by dsimp only [sel]) (by rfl) rfl (by kernel_rfl) ?_; intro K1 hK1; go_wp2_with fail
    refine (HID.out _ HB2.out).mono ?_
    rintro e w3 ⟨A3, c3', rfl, hat3, hb3⟩
    have hat2' : At w3 A2 S.length (fun j => .int .i64 ((l.map RItm.id).getD j 0)) := HAT2.out.below hb3 (Nat.le_refl _)
    have hW3 := HB2.out.trans (hb3.mono HB2.out.size)
    have HINTS := Lib.hid (alike.ints_same A2 A3 S.length c2' c3' (fun j => (l.map RItm.id).getD j 0) w3 (by omega) hat2' hat3)
    have HW3 := Lib.hid hW3; clear hW3 hat2' hat3 hb3
    go_wp2_with fail
    refine ⟨later_of (chg_of (HW3.out)), ?_⟩
    refine plan_one [false, false, false, false, false, false, false, false, false, false, false, false, false, false, true] 14 2 (by dsimp only [sel]) (by rfl) rfl (by kernel_rfl) ?_; intro K1 hK1; go_wp2_with fail
    refine HINTS.out.mono ?_
    rintro e w4 ⟨rfl, nq, hw4⟩
    have hW4 : Below W.heap.size W w4 := by rw [hw4]; exact bdrew HW3.out nq
    clear hw4 HINTS HB2 HAT2 HW3
    have HW4 := Lib.hid hW4; clear hW4
    go_wp2_with fail
    have HL4 := Lib.hid (show later W (fun k => k = w.heap.size + 1 + 1) w4 from later_of (chg_of HW4.out))
    refine ⟨HL4.out, ?_⟩
    refine plan_group [false, false, false, false, false, false, false, false, false, false, false, false, false, false, false, true] [15] 1 (by dsimp only [sel]) (by rfl) rfl (by kernel_rfl) (by kernel_rfl) HL4.out ?_
    (repeat go_big_quiet_step (fail)); refine wpQuiet_nil ?_
    have hb4 : Boxed w4 (w.heap.size + 1 + 1) 4 (.bool false) := (HW4.out.block _ HRES.out.lt).trans HRES.out
    have b4 := hb4.cell
    have f4 := hb4.frozen
    have HBX4 := Lib.hid hb4; clear hb4
    refine plan_one [false, false, false, false, false, false, false, false, false, false, false, false, false, false, false, false, true] 16 0 (by dsimp only [sel]) (by rfl) rfl (by kernel_rfl) ?_; intro K1 hK1; go_wp2_with fail
    obtain ⟨w5, hw5⟩ : ∃ w5, w5 = w4.setCell ⟨w.heap.size + 1 + 1, 0, none⟩ (.bool true) := ⟨_, rfl⟩
    rw [← hw5]
    have hb5 : Boxed w5 (w.heap.size + 1 + 1) 4 (.bool true) := by rw [hw5]; exact HBX4.out.set _
    have hc5 : Chg w4 w5 (fun k => k = w.heap.size + 1 + 1) := by rw [hw5]; exact Chg.setCell _ _ _ _
    clear hw5 b4 f4
    have hc5' : Chg W w5 (fun k => k = w.heap.size + 1 + 1) := (chg_of HW4.out).trans hc5 fun _ _ h => h
    have HB5 := Lib.hid hb5; clear hb5
    have HC5 := Lib.hid hc5'; clear hc5' hc5
    refine ⟨later_of HC5.out, ?_⟩
    refine wp_plan_end (by kernel_rfl) ?_
    go_wp2_with fail
    gi_wp2_with fail
    have hD5 : w5.heap[D]? = some (.deferred (some [])) := (HC5.out.block D HKD.out.2 (by have := HZ.out; omega)).trans HKD.out.1
    refine ⟨by simp, .inl ⟨_, _, rfl, run_takeDeferred hD5, ?_⟩⟩
    have hb6 : Boxed (w5.putObj D (.deferred none)) (w.heap.size + 1 + 1) 4 (.bool true) := (World.putObj_heap_other (by omega)).trans HB5.out
    refine ⟨_, results_cell1 rfl _ _ _ rfl (by simp [loadVar, go_sem, hb6.cell]), rfl, ?_⟩
    exact (HWB.out.trans (HC5.out.below (by have := HZ.out; omega) (by omega))).trans (belowK_b (w := w) (Nat.le_refl _) w5 D _ _ (by omega) hD5 rfl rfl)
end Go.Proofs.Ytbbekgliaedigaa

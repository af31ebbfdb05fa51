/- net: contract of closeUp. -/
import Derived.Test.YtbbekgliaedigaaNetC
namespace Go.Proofs.Ytbbekgliaedigaa
open Go.RowKit

/-- Two that wait have two numbers. -/
theorem NInv.apart {last : Nat} {l : List NItm} {g : Int → Option Value} (h : NInv last l g) : (net.left l).Pairwise fun x y => x.id ≠ y.id := by
  have hp : l.Pairwise fun x y => x.gone = false → y.gone = false → x.id ≠ y.id := by
    rw [List.pairwise_iff_getElem]
    intro i j hi hj hij h1 h2 e
    have a1 := (h.at' i l[i] (List.getElem?_eq_getElem hi) h1).1
    have a2 := (h.at' j l[j] (List.getElem?_eq_getElem hj) h2).1
    rw [e, a2] at a1
    simp at a1
    omega
  have h2 := hp.filter (fun x => !x.gone)
  unfold net.left
  refine h2.imp_of_mem fun {x y} hx hy hh => hh ?_ ?_
  · have := (List.mem_filter.1 hx).2; simpa using this
  · have := (List.mem_filter.1 hy).2; simpa using this
theorem net.left_gone (l : List NItm) : ∀ x ∈ net.left l, x ∈ l ∧ x.gone = false := fun x hx => by
  have := List.mem_filter.1 hx
  exact ⟨this.1, by simpa using this.2⟩
/-- Behind so many rounds of closeUp. -/
structure NRedo (l : List NItm) (g gj : Int → Option Value) (j : Nat) : Prop where
  new : ∀ (i : Nat) (x : NItm), i < j → l[i]? = some x → gj x.id = some (.int .i64 i)
  old : ∀ k, (∀ (i : Nat) (x : NItm), i < j → l[i]? = some x → x.id ≠ k) → gj k = g k
theorem NRedo.next {l : List NItm} {g gj : Int → Option Value} {j : Nat} (h : NRedo l g gj j) (hap : l.Pairwise fun x y => x.id ≠ y.id) {x : NItm} (hx : l[j]? = some x) : NRedo l g (gput gj x.id (.int .i64 j)) (j + 1) := by
  have hj := (List.getElem?_eq_some_iff.1 hx)
  refine ⟨fun i y hi hy => ?_, fun k hk => ?_⟩
  · rcases Nat.lt_or_ge i j with h' | h'
    · have hi' := (List.getElem?_eq_some_iff.1 hy)
      have := List.pairwise_iff_getElem.1 hap i j hi'.1 hj.1 h'
      rw [hi'.2, hj.2] at this
      rw [gput_other _ this]
      exact h.new i y h' hy
    · obtain rfl : i = j := by omega
      rw [hx] at hy
      cases hy
      exact gput_same _ _ _
  · have hne := hk j x (by omega) hx
    rw [gput_other _ hne.symm]
    exact h.old k fun i y hi hy => hk i y (by omega) hy
theorem NRedo.there {last : Nat} {l : List NItm} {g gj : Int → Option Value} {j : Nat} (h : NRedo (net.left l) g gj j) (hi : NInv last l g) {x : NItm} (hx : (net.left l)[j]? = some x) : (gj x.id).isSome = true := by
  by_cases hh : ∃ (i : Nat) (y : NItm), i < j ∧ (net.left l)[i]? = some y ∧ y.id = x.id
  · obtain ⟨i, y, h1, h2, h3⟩ := hh
    rw [← h3, h.new i y h1 h2]
    rfl
  · rw [h.old x.id fun i y h1 h2 h3 => hh ⟨i, y, h1, h2, h3⟩]
    obtain ⟨hm, hg⟩ := net.left_gone l x (List.mem_of_getElem? hx)
    obtain ⟨i, hi'⟩ := List.getElem?_of_mem hm
    rw [(hi.at' i x hi' hg).1]
    rfl
theorem NRedo.inv {last : Nat} {l : List NItm} {g gj : Int → Option Value} (h : NRedo (net.left l) g gj (net.left l).length) (hi : NInv last l g) : NInv last (net.left l) gj := by
  refine ⟨fun i x hx hg => ?_, fun k v hk hv => ?_⟩
  · obtain ⟨hm, hg⟩ := net.left_gone l x (List.mem_of_getElem? hx)
    obtain ⟨i', hi'⟩ := List.getElem?_of_mem hm
    exact ⟨h.new i x (List.getElem?_eq_some_iff.1 hx).1 hx, (hi.at' i' x hi' hg).2⟩
  · by_cases hh : ∃ (i : Nat) (y : NItm), i < (net.left l).length ∧ (net.left l)[i]? = some y ∧ y.id = k
    · obtain ⟨i, y, h1, h2, rfl⟩ := hh
      rw [h.new i y h1 h2] at hv
      cases hv
      exact ⟨i, y, h2, (net.left_gone l y (List.mem_of_getElem? h2)).2, rfl, rfl⟩
    · rw [h.old k fun i y h1 h2 h3 => hh ⟨i, y, h1, h2, h3⟩] at hv
      obtain ⟨i, x, h1, h2, h3, -⟩ := hi.back k v hk hv
      have hx : x ∈ net.left l := List.mem_filter.2 ⟨List.mem_of_getElem? h1, by simp [h2]⟩
      obtain ⟨i', hi'⟩ := List.getElem?_of_mem hx
      exact absurd ⟨i', x, (List.getElem?_eq_some_iff.1 hi').1, hi', h3⟩ hh

set_option maxRecDepth 20000 in
set_option maxHeartbeats 4000000 in
theorem net.close_any (B C p last : Nat) (l : List NItm) (w : World) (h : NetAt B C w p last l) (hlast : last ≤ 100000000) (hl0 : 0 < l.length) :
    Calls Try.prog 89 #[.pointer (some ⟨p, 0, none⟩)] w fun e w' => e = .returned (.tuple #[]) ∧ NetAt B C w' p last (net.left l) ∧ NChg B w w' := by
  obtain ⟨rv, mb, N, g, hb, hr, hg, hN, hinv, hbs, hll, hBp, hBm⟩ := h
  obtain ⟨gr, cr, rfl, -, -, hBg, -, -⟩ := own_row_pos hr hl0
  have hpm : p ≠ mb := hg.not_blk hb
  have hgp : gr ≠ p := fun e => hb.not_row (by decide) hr (by rw [e]; rfl)
  have hgm : gr ≠ mb := fun e => hg.not_own hr (by rw [e]; rfl)
  have hap := hinv.apart
  have hk : (net.left l).length ≤ l.length := List.length_filter_le _ _
  have hgone : net.goneN (net.left l) = 0 := by
    unfold net.goneN
    rw [List.length_eq_zero_iff, List.filter_eq_nil_iff]
    intro x hx
    have := (net.left_gone l x hx).2
    simp [this]
  have c1 : w.cell? ⟨p, 1, none⟩ = some (.slice (some ⟨gr, 0, none⟩) l.length cr) := hb.cell 1 rfl
  have hf := fun j => hb.frozen j
  have hpl := hb.lt
  have hty : ∀ k, k = gr ∨ k = p ∨ k = mb → B ≤ k ∧ NetTy w k := fun k hk => by
    rcases hk with rfl | rfl | rfl
    · exact net.row_ty hr rfl
    · exact ⟨hBp, net.blk_ty hb⟩
    · exact ⟨hBm, hg.ty⟩
  have HTY := Lib.hid hty; clear hty
  have HB := Lib.hid hb; clear hb
  have HR := Lib.hid hr; clear hr
  have HG := Lib.hid hg; clear hg
  have HI := Lib.hid hinv; clear hinv
  have HBS := Lib.hid hbs; clear hbs
  have HAP := Lib.hid hap; clear hap
  have HGO := Lib.hid hgone; clear hgone
  obtain ⟨n, hn⟩ : ∃ n, n = l.length := ⟨_, rfl⟩
  rw [← hn] at c1 hk hll
  have HN := Lib.hid hn.symm; clear hn hl0
  go_enter Try.func89, Try.ntmps89
  go_wp2_with fail
  refine (net.delete_any B gr cr n l w HN.out (by omega) (by rw [← HN.out]; exact HR.out)).mono ?_
  rintro e w1 ⟨v, rfl, hr1, hc1⟩
  have hb1 := hc1.blk HB.out fun h => hgp h.symm
  have f1 : w1.cell? ⟨p, 1, none⟩ = some (.slice (some ⟨gr, 0, none⟩) l.length cr) := hb1.cell 1 rfl
  have hf1 := fun j => hb1.frozen j
  have f2 := hb1.cell 2 rfl
  obtain ⟨A1, c1', rfl, -⟩ := own_at hr1
  obtain ⟨K, hK⟩ : ∃ K, K = (net.left l).length := ⟨_, rfl⟩
  rw [← hK] at hr1 hk ⊢
  have HK := Lib.hid hK.symm; clear hK
  have HR1 := Lib.hid hr1; clear hr1
  have HC1 := Lib.hid hc1; clear hc1
  have HB1 := Lib.hid hb1; clear hb1 c1
  go_wp2_with fail
  clear f1 f2 hf1 hf
  obtain ⟨w2, hw2⟩ : ∃ w2, w2 = (w1.setCell ⟨p, 1, none⟩ (.slice A1 K c1')).setCell ⟨p, 2, none⟩ (.int .i64 0) := ⟨_, rfl⟩
  rw [← hw2]
  have hc12 : Chg w1 w2 (fun k => k = p) := by rw [hw2]; exact (Chg.setCell _ _ _ _).trans (Chg.setCell _ _ _ _) fun _ _ h => h
  have hb2 : Blk w2 p 147 #[.int .i64 last, .slice A1 K c1', .int .i64 0, .map (some mb)] := by rw [hw2]; exact (HB1.out.set 1 _).set 2 _
  have hr2 := hc12.own HR1.out fun k hk e => by subst e; exact HB1.out.not_row (by decide) HR1.out hk
  have hc2 : Chg w w2 (fun k => k = gr ∨ k = p) := (HC1.out.mono fun _ _ h => .inl h).trans hc12 fun _ _ h => .inr h
  have hg2 := HG.out.chg hc2 fun h => by
    rcases h with h | h
    · exact hgm h.symm
    · exact hpm h.symm
  clear hw2 hc12
  have HB2 := Lib.hid hb2; clear hb2
  have HR2 := Lib.hid hr2; clear hr2
  have HC2 := Lib.hid hc2; clear hc2
  have HG2 := Lib.hid hg2; clear hg2
  go_loopw [20] (fun i wr => ∃ j : Nat, j ≤ K ∧ i = .int .i64 (j : Int) ∧ ∃ gj, GM intKey wr mb N gj ∧ NRedo (net.left l) g gj j ∧ Chg w2 wr (fun k => k = mb)) (fun i _ => K - (intOf i).toNat)
  case atStart => exact ⟨0, by omega, rfl, g, HG2.out, ⟨fun _ _ h => by omega, fun _ _ => rfl⟩, Chg.refl _ _⟩
  case round =>
    obtain ⟨j, hj, rfl, gj, hgj, hre, hcr⟩ := hrel
    have hbr := hcr.blk HB2.out hpm
    have hrr := hcr.own HR2.out fun k hk e => by subst e; exact HG2.out.not_own HR2.out hk
    by_cases hlt : j < K
    · obtain ⟨x, hx⟩ : ∃ x, (net.left l)[j]? = some x := ⟨_, List.getElem?_eq_getElem (by have := HK.out; omega)⟩
      obtain ⟨g1, c1x, hA, -, -, -, -, -⟩ := own_row_pos hrr (by omega)
      obtain ⟨rfl, rfl⟩ : A1 = some ⟨g1, 0, none⟩ ∧ c1' = c1x := by simpa using hA
      clear hA
      obtain ⟨d0, d1, d2, hgl⟩ := net.row_cells hrr hx
      have hpr := hbr.lt
      have hsome := hre.there HI.out hx
      have hok : intOk x.id := by
        obtain ⟨hm, hgg⟩ := net.left_gone l x (List.mem_of_getElem? hx)
        obtain ⟨i, hi⟩ := List.getElem?_of_mem hm
        have := (HI.out.at' i x hi hgg).2
        constructor <;> omega
      have hmr := hgj.lt
      have hnext := hre.next HAP.out hx
      have HX := Lib.hid hx; clear hx hre
      have HRR := Lib.hid hrr; clear hrr
      have HBR := Lib.hid hbr; clear hbr
      have HCR := Lib.hid hcr; clear hcr
      have HGJ := Lib.hid hgj; clear hgj
      have HSO := Lib.hid hsome; clear hsome
      have HNX := Lib.hid hnext; clear hnext
      obtain ⟨id, A, k, cc, gn, bs⟩ := x
      dsimp only at d0 d1 d2 hok
      have HOK := Lib.hid hok; clear hok
      go_wp2_with fail
      clear d0 d1 d2
      obtain ⟨w3, hw3⟩ : ∃ w3, w3 = wr.alloc (.cells #[.int .i64 id, .slice A k cc, .bool gn] 149) := ⟨_, rfl⟩
      rw [← hw3]
      have hx3 : Blk w3 wr.heap.size 149 #[.int .i64 id, .slice A k cc, .bool gn] := by rw [hw3]; exact Blk.new _ _ _
      have hb3 : Below wr.heap.size wr w3 := by rw [hw3]; exact (Below.refl _ _).alloc (Nat.le_refl _) _
      have hrm : wr.heap.size ≠ mb := by omega
      clear hw3
      have hp3 := (chg_of (P := fun _ => False) hb3).blk HBR.out fun h => h
      have hg3 := HGJ.out.below hb3 hmr
      have q3 : ∀ x : Later w3 (fun k => k = mb), x.1.cell? ⟨p, 3, none⟩ = some (.map (some mb)) := fun x => (x.2.blk hp3 hpm).cell 3 rfl
      have q0 : ∀ x : Later w3 (fun k => k = mb), x.1.cell? ⟨wr.heap.size, 0, none⟩ = some (.int .i64 id) := fun x => (x.2.blk hx3 hrm).cell 0 rfl
      have d0 : w3.drew.cell? ⟨wr.heap.size, 0, none⟩ = some (.int .i64 id) := hx3.cell 0 rfl
      have HG3 := Lib.hid hg3; clear hg3 hp3 hx3
      have HB3 := Lib.hid hb3; clear hb3
      have hS0 : later w3 (fun k => k = mb) w3.drew := later_of ((Chg.refl _ _).drew)
      refine wp_plan (S := fun w0 => ∃ x : Later w3 (fun k => k = mb), w0 = x.1) (by kernel_rfl) hS0 ?_
      intro hS K5 hK5
      have HS := Lib.hid hS; clear hS hS0
      refine plan_group [true, true, true, true, true, false, true] [0, 1, 2, 3, 4, 6] 2 (by dsimp only [sel]) (by rfl) rfl (by kernel_rfl) (by kernel_rfl) HS.out ?_
      (repeat go_big_quiet_step (fail)); refine wpQuiet_nil ?_
      refine plan_one [false, false, false, false, false, true] 5 1 (by dsimp only [sel]) (by rfl) rfl (by kernel_rfl) ?_; intro K1 hK1; go_wp2_with fail
      refine ⟨HS.out, ?_⟩
      refine plan_one [false, false, false, false, false, false, false, true] 7 0 (by dsimp only [sel]) (by rfl) rfl (by kernel_rfl) ?_; intro K1 hK1
      refine GM.list_put (κ := intKey) _ rfl (.tmp 28) (.tmp 30) (.tmp 31) Try.underlying144 rfl (HG3.out.drew 1) id HOK.out (.int .i64 j) (by unfold maxLen; omega) rfl rfl rfl ?_
      intro w4 hg4 hc4 hs4
      rw [if_pos HSO.out] at hg4
      have hc4 : Chg w3 w4 (fun k => k = mb) := ((Chg.refl w3 _).drew).trans hc4 fun _ _ h => h
      have hcf : Chg w2 w4 (fun k => k = mb) := (HCR.out.trans (chg_of (P := fun k => k = mb) HB3.out) fun _ _ h => h).trans hc4 fun _ _ h => h
      have HG4 := Lib.hid hg4; clear hg4
      have HC4 := Lib.hid hc4; clear hc4
      have HCF := Lib.hid hcf; clear hcf
      go_wp2_with fail
      refine ⟨later_of HC4.out, ?_⟩
      refine wp_plan_end (by kernel_rfl) ?_
      clear q0 q3 d0 HS
      refine hK5 _ _ ?_
      clear hK5
      go_wp2
      go_roundw
      case rel => exact ⟨j + 1, by omega, by go_num, _, HG4.out, HNX.out, HCF.out⟩
      case measure => simp [intOf]; omega
    · obtain rfl : j = K := by omega
      have hfin : NetAt B C wr p last (net.left l) ∧ NChg B w wr := by
        have hc : Chg w wr (fun k => k = gr ∨ k = p ∨ k = mb) := (HC2.out.mono fun _ _ h => h.elim .inl fun h => .inr (.inl h)).trans hcr fun _ _ h => .inr (.inr h)
        refine ⟨⟨_, mb, N, gj, by rw [HGO.out]; exact hbr, by rw [HK.out]; exact hrr, hgj, hN, ?_, ?_, by rw [HK.out]; omega, hBp, hBm⟩, .of hc HTY.out⟩
        · rw [← HK.out] at hre
          exact hre.inv HI.out
        · intro x hx hg
          exact (HBS.out.chg hc fun k hk => .inl (HTY.out k hk).2) x (net.left_gone l x hx).1 hg
      have HFIN := Lib.hid hfin; clear hfin hre hgj hrr hbr hcr
      go_wp2
      go_end0
      exact ⟨rfl, HFIN.out.1, HFIN.out.2⟩
end Go.Proofs.Ytbbekgliaedigaa

/- fold.Of: records that are walked fold to what the last of each key says. -/
import Derived.BigRegionIn
import Derived.BigQuiet
import Derived.Deep.QuietTactic
import Derived.Test.YtnlfdhoabbbheaaPlanR
import Derived.Test.YtnlfdhoabbbheaaFoY
import Derived.Test.YtnlfdhoabbbheaaPfX
namespace Go.Proofs.Ytnlfdhoabbbheaa
open Go.RowKit Go.Maps Go.Shelf
attribute [local go_sem] Oper.semAt_some

/-- What Of answers. -/
def fo.OfPost (rs : List Rec) (w : World) (e : Ending) (w' : World) : Prop :=
  ∃ v l, e = .returned v ∧ w'.ownsRow w.heap.size 89 3 v l.length (pf.row l) ∧ (∀ x ∈ l, PBytes w' x) ∧ FoIs l rs ∧ Below w.heap.size w w'

set_option maxRecDepth 100000 in
set_option maxHeartbeats 4000000 in
theorem fo.of_any (Bp : Nat) (A : Option Addr) (m c : Nat) (bs : List Bat) (f : Nat → Value) (w : World) (hlen : bs.length = m) (hsm : fo.Small bs) (hfl : (rc.flat bs).length ≤ 100000) (hbp : Blk w Bp 31 #[.slice A m c]) (hsrc : fo.Src f A bs w) :
    Calls Try.prog 42 #[.func (.func 56) #[] #[.pointer (some ⟨Bp, 0, none⟩)]] w (fo.OfPost (rc.flat bs) w) := by
  refine (callsIn_wide (n := 5)).1 ?_
  have h1 : 1 ≤ 5 := by omega
  refine callsIn_of_wp_marks Try.func42 rfl trivial ?_ rfl
  simp only [Try.ntmps42, List.size_toArray, List.length_cons, List.length_nil, Nat.reduceAdd, Nat.reduceSub, Array.replicate_succ, Array.replicate_zero, List.push_toArray, List.append_toArray, List.nil_append, List.cons_append]
  have hnil : ∀ (Bs : Nat) (w : World), (binOp BinOp.eql 85 (.func (.func 56) #[] #[.pointer (some ⟨Bs, 0, none⟩)]) .nilFunc).run Try.prog w = .ok (.bool false) w := fun _ _ => by kernel_rfl
  have hmm := @run_makeMap Try.prog
  have HBP := Lib.hid hbp; clear hbp
  have HSRC := Lib.hid hsrc; clear hsrc
  have HLEN := Lib.hid hlen; clear hlen
  have HSM := Lib.hid hsm; clear hsm
  gi_wp2_with fail
  obtain ⟨mb, hmb⟩ : ∃ mb, mb = w.heap.size := ⟨_, rfl⟩
  obtain ⟨w1, hw1⟩ : ∃ w1, w1 = (w.alloc (.map #[] 0)).alloc (.cells #[.map (some w.heap.size)] 99) := ⟨_, rfl⟩
  rw [← hw1]
  have hB1 : Below w.heap.size w w1 := by rw [hw1]; exact ((Below.refl _ w).alloc (Nat.le_refl _) _).alloc (by simp) _
  have hz1 : w1.heap.size = mb + 2 := by rw [hw1, hmb]; simp
  have bz : Boxed w1 (mb + 1) 99 (.map (some mb)) := by
    have h := Boxed.new (w.alloc (.map #[] 0)) 99 (.map (some w.heap.size))
    rw [World.size_alloc, ← hw1, ← hmb] at h
    exact h
  have gm : GM strKey w1 mb 0 (fun _ => none) := by
    rw [hw1, hmb]
    exact (GM.made strKey w).below ((Below.refl _ _).alloc (Nat.le_refl _) _) (by simp)
  rw [← hmb]
  have hmw : w.heap.size ≤ mb := Nat.le_of_eq hmb.symm
  have hI0 : fo.I (mb + 1) mb w [] w1 := ⟨0, fun _ => none, bz, gm, fun _ => rfl, fun s x h => (by cases h), Nat.zero_le _, hB1⟩
  have hh := fo.hands 4 (by omega) Bp [] A m c bs f w1 HLEN.out HSM.out (InB.nil _) ((hB1.block Bp HBP.out.lt).trans HBP.out) ((HSRC.out.below hB1).dep fun k _ => Safe.nil _ k)
  have HB1 := Lib.hid (And.intro hB1.size (And.intro hB1 hmb)); clear bz gm hw1 hB1 hmb HBP HSRC
  have hB1s := HB1.out.1
  refine for_eachB (F := Fence.wide) (n := 5) rfl h1 (gf := 56) (lb := #[.pointer (some ⟨Bp, 0, none⟩)]) rfl trivial (enters_of Try.func56 (by kernel_rfl) rfl)
    hh (Below.refl _ _) Kept.trans (fun W o h => Kept.alloc o fun b hb => by cases hb) (fun W l o o' hl ho hcc _ => Kept.put ho hcc fun b hb => by cases hb) (fun _ => rfl)
    (fo.I (mb + 1) mb w) (fun _ _ _ => False) (fo.I_own (by omega) hB1s) (fun _ _ _ _ _ h _ _ => h) (fo.R_own _ _) (fun _ _ _ _ h _ _ => h) (fun _ _ _ _ h _ _ => h)
    hI0 34 fo.xcells
    (fun x g => { tmps := #[.func (.func 56) #[] #[.pointer (some ⟨Bp, 0, none⟩)], undef, .slice none 0 0, .pointer (some ⟨mb + 1, 0, none⟩), .pointer (some ⟨g, 0, none⟩), undef, undef, undef, .func (.func 56) #[] #[.pointer (some ⟨Bp, 0, none⟩)], .bool false, .map (some mb), .func (.func 56) #[] #[.pointer (some ⟨Bp, 0, none⟩)], .agg (fo.xcells x), undef, undef, undef, undef, undef, undef, undef, undef, undef, undef, undef, undef, undef, undef, undef, undef, undef, undef, undef, undef, undef, undef, undef, undef, undef, undef, undef, undef, undef, undef, undef, undef, undef, undef, undef, undef, undef, undef, undef, undef], defers := [] }) ?assign ?body ?done ?stop
  case assign =>
    rintro l ⟨r, ⟨Ak, ck⟩, ⟨Av, cv⟩⟩ W K hK
    unfold fo.encs
    unfold fo.xcells fo.cells at hK ⊢
    dsimp only at hK ⊢
    gi_wp2
    exact hK
  case stop => exact fun D cd pre W _ _ h _ => h.elim
  case body =>
    rintro l pre ⟨r, ⟨Ak, ck⟩, ⟨Av, cv⟩⟩ g W hg1 hg2 hk hI hR hnx
    have hlen : pre.length < 100000 := by
      obtain ⟨rest, hr⟩ := hnx
      have := congrArg List.length hr
      rw [List.length_append, List.length_map, List.length_append] at this
      simp only [List.length_singleton] at this
      omega
    have hsz := fo.Nx_small HSM.out hnx
    clear hnx
    unfold fo.xcells fo.cells at hk ⊢
    dsimp only at hk ⊢
    obtain ⟨nk, hnk⟩ : ∃ nk, nk = r.key.length := ⟨_, rfl⟩
    obtain ⟨nv, hnv⟩ : ∃ nv, nv = r.val.length := ⟨_, rfl⟩
    dsimp only at hsz
    rw [← hnk, ← hnv] at hk hsz ⊢
    have HSZ := Lib.hid hsz; clear hsz
    have HNK := Lib.hid (And.intro hnk hnv); clear hnk hnv
    have g2 := hk.cell 2 rfl
    have g4 := hk.cell 4 rfl
    have HK := Lib.hid hk; clear hk
    have HR := Lib.hid hR; clear hR
    have HI := Lib.hid hI; clear hI
    by_cases hhk : r.hasKey = true
    · by_cases hhv : r.hasVal = true
      · rw [hhk] at g2
        rw [hhv] at g4
        obtain ⟨N, gi, bz, hg, hgi, hd, hN, hbw⟩ := HI.out
        obtain ⟨ka, va, hio⟩ := fo.R_open HR.out
        rw [← HNK.out.1] at ka
        rw [← HNK.out.2] at va
        have hgb : g ≠ mb := by omega
        have qz : ∀ x : Later W (fun k => k = mb), x.1.cell? ⟨mb + 1, 0, none⟩ = some (.map (some mb)) := fun x => (x.2.blk (show Blk W (mb + 1) 99 #[.map (some mb)] from bz) (by omega)).cell 0 rfl
        have qb : ∀ x : Later W (fun k => k = mb), Blk x.1 g 34 _ := fun x => x.2.blk HK.out hgb
        have q0 : ∀ x : Later W (fun k => k = mb), x.1.cell? ⟨g, 0, none⟩ = some (.int .i64 r.off) := fun x => (qb x).cell 0 rfl
        have q3 : ∀ x : Later W (fun k => k = mb), x.1.cell? ⟨g, 3, none⟩ = some (.slice Ak nk ck) := fun x => (qb x).cell 3 rfl
        have q5 : ∀ x : Later W (fun k => k = mb), x.1.cell? ⟨g, 5, none⟩ = some (.slice Av nv cv) := fun x => (qb x).cell 5 rfl
        have qc : ∀ x : Later W (fun k => k = mb), (convert 32 9 (.slice Ak nk ck)).run Try.prog x.1 = .ok (.string (strOf r.key)) x.1 := fun x => conv_any (P := Try.prog) (c := ck) Try.underlying32 Try.underlying5 Try.underlying9 r.key HNK.out.1.symm (x.2.at' ka (fo.at_apart hg ka))
        have HG := Lib.hid (And.intro bz (And.intro hg (And.intro hgi (And.intro hd (And.intro hN hbw))))); clear qb bz hgi hd hbw
        have HA := Lib.hid (And.intro ka va); clear ka va
        have hnk1 : nk ≤ 1000000 := HSZ.out.1
        have hnv1 : nv ≤ 1000000 := HSZ.out.2
        obtain ⟨s, hs⟩ : ∃ s, s = strOf r.key := ⟨_, rfl⟩
        have hsz : s.size ≤ maxLen := by rw [hs, strOf_size, ← HNK.out.1]; unfold maxLen; omega
        rw [← hs] at qc
        have HS := Lib.hid hs; clear hs
        gi_wp2_with fail
        have hS0 : ∃ x : Later W (fun k => k = mb), W.drew = x.1 := later_of (chg_of (bdrew (Below.refl _ W) 1))
        refine wp_planR l (S := fun w0 => ∃ x : Later W (fun k => k = mb), w0 = x.1) (by kernel_rfl) (by kernel_rfl) hS0 ?_
        intro hS K5 hK5
        have HS0 := Lib.hid hS; clear hS hS0
        refine plan_group [true, true, true, true, true, true, false, true, true, false, true, true] [0, 1, 2, 3, 4, 5, 7, 8, 10, 11] 4 (by dsimp only [sel]) (by rfl) rfl (by kernel_rfl) (by kernel_rfl) HS0.out ?_
        (repeat go_big_quiet_step (fail)); refine wpQuiet_nil ?_
        clear qz q0 q3 q5 qc
        refine plan_one [false, false, false, false, false, false, true] 6 3 (by dsimp only [sel]) (by rfl) rfl (by kernel_rfl) ?_; intro K1 hK1; go_wp2_with fail
        refine (clone_any Ak nk ck r.key W.drew HNK.out.1.symm (by omega) (HA.out.1.below (bdrew (Below.refl _ W) 1) (Nat.le_refl _))).mono ?_
        rintro e v1 ⟨⟨u, rfl, ho1⟩, hb1⟩
        obtain ⟨A2, c2, rfl, hO2⟩ := fo.Own.of ho1
        have hb1 : Below W.heap.size W v1 := (bdrew (Below.refl _ W) 1).trans hb1
        have H1 := Lib.hid (And.intro hO2.1 hb1); clear ho1 hO2 hb1
        go_wp2_with fail
        refine ⟨later_of (chg_of H1.out.2), ?_⟩
        refine plan_one [false, false, false, false, false, false, false, false, false, true] 9 2 (by dsimp only [sel]) (by rfl) rfl (by kernel_rfl) ?_; intro K1 hK1; go_wp2_with fail
        refine (clone_any Av nv cv r.val v1 HNK.out.2.symm (by omega) (HA.out.2.below H1.out.2 (Nat.le_refl _))).mono ?_
        rintro e v2 ⟨⟨u, rfl, ho2⟩, hb2⟩
        obtain ⟨A4, c4, rfl, hO4⟩ := fo.Own.of ho2
        have hWU : Below W.heap.size W v2 := H1.out.2.trans (hb2.mono H1.out.2.size)
        have hy : PBytes v2 ⟨A2, nk, c2, r.key, A4, nv, c4, r.val, r.off⟩ := ⟨HNK.out.1.symm, hnk1, H1.out.1.below hb2 (Nat.le_refl _), HNK.out.2.symm, hnv1, hO4.1⟩
        have hUg := HG.out.2.1.below hWU HG.out.2.1.lt
        have H2 := Lib.hid (And.intro hWU (And.intro hy hUg)); clear hWU hy ho2 hO4 hb2 hUg hg
        go_wp2_with fail
        refine ⟨later_of (chg_of H2.out.1), ?_⟩
        refine plan_one [false, false, false, false, false, false, false, false, false, false, false, false, true] 12 1 (by dsimp only [sel]) (by rfl) rfl (by kernel_rfl) ?_; intro K1 hK1; go_wp2_with fail
        refine ⟨later_of (chg_of H2.out.1), ?_⟩
        refine plan_one [false, false, false, false, false, false, false, false, false, false, false, false, false, true] 13 0 (by dsimp only [sel]) (by rfl) rfl (by kernel_rfl) ?_; intro K1 hK1
        refine GM.list_put (κ := strKey) v2 rfl (.tmp 24) (.tmp 27) (.tmp 36) Try.underlying99 rfl H2.out.2.2 s hsz (.agg #[.slice A2 nk c2, .slice A4 nv c4, .int .i64 r.off]) (by unfold maxLen; omega) rfl rfl rfl ?_
        rintro V hV hc -
        have hput := fo.I_put (x := (r, (Ak, ck), (Av, cv))) (y := ⟨A2, nk, c2, r.key, A4, nv, c4, r.val, r.off⟩) HG.out.1 HG.out.2.1 HG.out.2.2.1 HG.out.2.2.2.1 HG.out.2.2.2.2.1 HG.out.2.2.2.2.2 hhk hhv hmw H2.out.1 H2.out.2.1 rfl (by rw [← HS.out]; exact hV) hc H2.out.2.2
        have HP := Lib.hid hput; clear hput hV hc
        go_wp2_with fail
        refine ⟨later_of HP.out.2.2, ?_⟩
        refine wp_plan_end (by kernel_rfl) ?_
        refine hK5 _ _ ?_
        gi_wp2
        exact ⟨fo.keeps HP.out.2.2 (by omega), HP.out.2.1, HP.out.1⟩
      · have hhv' : r.hasVal = false := by simpa using hhv
        rw [hhk] at g2
        rw [hhv'] at g4
        obtain ⟨N, gi, bz, hg, hgi, hd, hN, hbw⟩ := HI.out
        obtain ⟨ka, va, hio⟩ := fo.R_open HR.out
        rw [← HNK.out.1] at ka
        have qz := bz.cell
        have q3 := HK.out.cell 3 rfl
        have qc : (convert 32 9 (.slice Ak nk ck)).run Try.prog W = .ok (.string (strOf r.key)) W := conv_any (P := Try.prog) (c := ck) Try.underlying32 Try.underlying5 Try.underlying9 r.key HNK.out.1.symm ka
        have hsz : (strOf r.key).size ≤ maxLen := by rw [strOf_size, ← HNK.out.1]; have := HSZ.out.1; unfold maxLen; omega
        obtain ⟨V, hrun, hV, hc, -⟩ := hg.drop Try.underlying99 (strOf r.key) hsz 0
        have hdrop := fo.I_drop (x := (r, (Ak, ck), (Av, cv))) bz hg hgi hd hN hbw hhk hhv' hmw hV hc
        have HP := Lib.hid (And.intro hdrop hc); clear hdrop hV hc bz hg hgi hd hbw ka va
        generalize strOf r.key = s at *
        have hrun' : (Builtin.delete_ #[99, 9] 0 #[.map (some mb), .string s]).run Try.prog W = .ok (.tuple #[]) V := hrun
        clear hrun
        gi_wp2_with fail
        exact ⟨fo.keeps HP.out.2 (by omega), HP.out.1.2, HP.out.1.1⟩
    · have hhk' : r.hasKey = false := by simpa using hhk
      rw [hhk'] at g2 ⊢
      gi_wp2
      exact ⟨KeepsFrom.refl _ _, Kept.refl _ _, fo.I_skip HI.out hhk' (Below.refl _ _)⟩
  case done =>
    rintro D xs W hD hS hI hK
    have HS := Lib.hid hS; clear hS
    have HI := Lib.hid hI; clear hI
    obtain ⟨N, gi, bz, hg, hgi, hd, hN, hbw⟩ := HI.out
    have qz := bz.cell
    have hDl : D < W.heap.size := heap_in hK
    have hxl : xs.length ≤ 100000 := by
      have h : xs.map Prod.fst = rc.flat bs := HS.out
      have := congrArg List.length h
      rw [List.length_map] at this
      omega
    gi_wp2_with fail
    refine ⟨trivial, ?_⟩
    refine (callsIn_wide.2 (maps_keysP (some mb) W)).mono ?_
    rintro e W2 ⟨rfl, rfl⟩
    gi_wp2_with fail
    refine ⟨trivial, ?_⟩
    refine (callsIn_wide.2 (keys_risingP mb N _ W hg (by omega))).mono ?_
    rintro e W3 ⟨v9, ks, rfl, hks, hkl, hri, hown, hb3⟩
    obtain ⟨A9, c9, rfl, hc9, hat9⟩ := own_at hown
    rw [Nat.mul_one] at hat9
    have hb3 : Below W.heap.size W W3 := ((Below.refl _ W).alloc (Nat.le_refl _) _).trans (hb3.mono (by simp))
    have hD3 : W3.heap[D]? = some (.deferred (some [])) := (hb3.block D hDl).trans hK
    have H3 := Lib.hid (And.intro hks (And.intro hri (And.intro hat9 (And.intro hb3 (And.intro hD3 (And.intro hg (And.intro bz hkl))))))); clear hks hri hat9 hown hD3 hkl
    have HD := Lib.hid (And.intro hd (And.intro hgi hbw)); clear hd hgi hbw hK hg bz qz
    have hz3 := hb3.size
    clear hb3
    gi_wp2_with fail
    gi_loopw [5, 41] (fun s5 s41 wx => ∃ (k : Nat) (l : List PItm) (v : Value), v = s5 ∧ s41 = .int .i64 (k : Int) ∧ k ≤ N ∧ l.length = k ∧ l.map some = (ks.take k).map gi ∧ wx.ownsRow W3.heap.size 89 3 v k (pf.row l) ∧ Below W3.heap.size W3 wx) (fun _ s41 _ => N - (intOf s41).toNat)
    case atStart => exact ⟨0, [], _, rfl, rfl, Nat.zero_le _, rfl, by simp, World.ownsRow_nil _ _ _ _, Below.refl _ _⟩
    case round =>
      obtain ⟨k, l, v, rfl, rfl, hk, hll, hlm, hrow, hbx⟩ := hrel
      have HB := Lib.hid hbx; clear hbx
      have HL := Lib.hid (And.intro hll hlm); clear hll hlm
      by_cases hkN : k < N
      · have hkN' : (k : Int) < N := by omega
        have hkk : k < ks.length := by rw [H3.out.2.2.2.2.2.2.2]; exact hkN
        obtain ⟨s, hs⟩ : ∃ s, ks[k]? = some s := ⟨_, List.getElem?_eq_getElem hkk⟩
        obtain ⟨b9, off9, hA9, hb9, hc⟩ := H3.out.2.2.1 (by omega)
        subst hA9
        have hV : (ks.map Value.string).getD k undef = .string s := by simp [List.getD, hs]
        have q9 : wr.cell? ⟨b9, off9 + k, none⟩ = some (.string s) := by
          exact ((HB.out.cell (p := ⟨b9, off9 + k, none⟩) hb9).trans (hc k hkN)).trans (congrArg some hV)
        obtain ⟨hsz, hsm⟩ := (H3.out.1.2 s).1 (List.mem_of_getElem? hs)
        rw [keyed_some] at hsm
        obtain ⟨x, hx⟩ : ∃ x, gi s = some x := by
          cases hgs : gi s with
          | none => rw [hgs] at hsm; cases hsm
          | some x => exact ⟨x, rfl⟩
        have hbw : Below W.heap.size W wr := H3.out.2.2.2.1.trans (HB.out.mono hz3)
        have q3 : wr.cell? ⟨mb + 1, 0, none⟩ = some (.map (some mb)) := (Boxed.kept H3.out.2.2.2.2.2.2.1 (grown_by hbw) (by simp)).cell
        have hlk : (Instr.lookup 99 (.map (some mb)) (.string s) false).run Try.prog wr = .ok x.agg wr := by
          have h := (H3.out.2.2.2.2.2.1.below hbw H3.out.2.2.2.2.2.1.lt).look1 Try.underlying99 (fo.zeroP wr) s hsz
          rw [hx] at h
          exact h
        have hnext : (l ++ [x]).map some = (ks.take (k + 1)).map gi := by
          obtain ⟨h5, h6⟩ := List.getElem?_eq_some_iff.1 hs
          rw [List.map_append, HL.out.2, List.take_succ_eq_append_getElem h5, List.map_append, h6, List.map_cons, List.map_nil, List.map_cons, List.map_nil, hx]
        obtain ⟨i0, hinf⟩ := info_parts fo.infoP
        have HI0 := Lib.hid hinf; clear hinf
        obtain ⟨A1, c1, rfl, -⟩ := own_at hrow
        have hlt := hrow.lt
        have HN := Lib.hid hnext; clear hnext hs hV hsm hkk hx hc hbw hsz
        have hzr := HB.out.size
        obtain ⟨xA, xk, xc, xbs, xVA, xvk, xvc, xvs, xo⟩ := x
        unfold PItm.agg at hlk
        have HROW := Lib.hid hrow; clear hrow
        gi_wp2_with (gi_at_builtin; refine wpListIn_append_own _ rfl (.tmp 45) (.tmp 49) 55 rfl W3.heap.size 89 i0 _ 3 56 Try.underlying55 HI0.out.1 HI0.out.2.1 HI0.out.2.2.1 HI0.out.2.2.2 rfl (by decide) _ _ _ rfl (HROW.out.alloc _) ⟨wr.heap.size, 0, none⟩ 1 1 [.slice xA xk xc, .slice xVA xvk xvc, .int .i64 xo] rfl rfl (fo.cell3 _ _ _ _ _) (by simp [Value.oneCell']) (by unfold maxLen; omega) (by omega) (by simp; omega) ?_; intro v' w2 hown' hgrow _)
        have hb2 : Below W3.heap.size W3 w2 := (HB.out.alloc hzr _).grown hgrow (by simp; omega) (fun j hj => (hlt j hj).1)
        have HB2 := Lib.hid (And.intro hb2 hown'); clear hb2 hown' hgrow
        gi_wp2_with fail
        go_roundw
        case rel => exact ⟨k + 1, l ++ [⟨xA, xk, xc, xbs, xVA, xvk, xvc, xvs, xo⟩], v', rfl, by go_num, by omega, by rw [List.length_append, HL.out.1]; rfl, HN.out, by rw [pf.row_append]; exact HB2.out.2, HB2.out.1⟩
        case measure => simp [intOf]; omega
      · obtain rfl : k = N := by omega
        have hDr : wr.heap[D]? = some (.deferred (some [])) := (HB.out.block D (by have := heap_in H3.out.2.2.2.2.1; omega)).trans H3.out.2.2.2.2.1
        have hbw : Below W.heap.size W wr := H3.out.2.2.2.1.trans (HB.out.mono hz3)
        have HF := Lib.hid (And.intro hrow (And.intro hDr hbw)); clear hrow hDr hbw
        have hfl2 : xs.map Prod.fst = rc.flat bs := HS.out
        have hgi := HD.out.2.1
        rw [hfl2] at hgi
        have hlm := HL.out.2
        rw [List.take_of_length_le (by rw [H3.out.2.2.2.2.2.2.2]; exact Nat.le_refl _)] at hlm
        have hrow := fo.row_is hgi hlm H3.out.1 H3.out.2.1 fun r hr => by
          unfold rc.flat at hr
          obtain ⟨l', hl', hx⟩ := List.mem_flatten.1 hr
          obtain ⟨b, hb, rfl⟩ := List.mem_map.1 hl'
          exact ((HSM.out.2 b hb).2 r hx).1
        have hrow := hrow (by rw [HL.out.1, ← hfl2, List.length_map]; exact hN)
        have HF2 := Lib.hid hrow; clear hrow hlm hgi hfl2
        gi_wp2_with fail
        refine ⟨by simp, .inl ⟨_, _, rfl, run_takeDeferred HF.out.2.1, ?_⟩⟩
        refine ⟨_, results_tmp rfl _ _ _, v, l, rfl, ?_, ?_, ?_, ?_⟩
        · rw [HL.out.1]
          exact ownsRow_base (ownsRow_putObj HF.out.1 _ HF.out.2.1 rfl) (by have := HD.out.2.2.size; omega)
        · intro x hx
          obtain ⟨s, hs⟩ := HF2.out.2 x hx
          exact Dep.put ((HD.out.1 s x hs).any.below HF.out.2.2) HF.out.2.1 rfl
        · exact HF2.out.1
        · exact (HD.out.2.2.trans (HF.out.2.2.mono HD.out.2.2.size)).trans (belowK_b (w := w) (Nat.le_refl _) wr D _ (.deferred none) (by omega) HF.out.2.1 rfl rfl)
end Go.Proofs.Ytnlfdhoabbbheaa

/- The walk of the law ProducerOnce. -/
import Derived.Test.YtgkocnnkknodhaaOnA
import Derived.Test.YtgkocnnkknodhaaPrL
import Derived.Test.YtgkocnnkknodhaaAlike
import Derived.Test.YtgkocnnkknodhaaOpen
namespace Go.Proofs.Ytgkocnnkknodhaa
open Go.RowKit

/-- The batches as they lie. -/
def once.lies (xs : List Value) (cn : List Nat) : Prop := xs.length = cn.length * 6 ∧ ∀ k, k < cn.length → ∃ A, xs[k * 6]? = some (.int .i64 0) ∧ xs[k * 6 + 1]? = some (.int .i64 0) ∧ xs[k * 6 + 2]? = some (.int .i64 3) ∧ xs[k * 6 + 3]? = some (.int .i64 2) ∧
  xs[k * 6 + 4]? = some (.int .i64 (once.sq cn k)) ∧ xs[k * 6 + 5]? = some (.slice A (cn.getD k 0) (cn.getD k 0))
theorem once.sq_snoc (cn : List Nat) (n k : Nat) (hk : k ≤ cn.length) : once.sq (cn ++ [n]) k = once.sq cn k := by
  unfold once.sq
  rw [List.take_append_of_le_length hk]
theorem once.lies_snoc {xs : List Value} {cn : List Nat} (h : once.lies xs cn) (n : Nat) (A : Option Addr) :
    once.lies (xs ++ [.int .i64 0, .int .i64 0, .int .i64 3, .int .i64 2, .int .i64 (once.sq cn cn.length), .slice A n n]) (cn ++ [n]) := by
  obtain ⟨h1, h2⟩ := h
  refine ⟨by simp [h1]; omega, fun k hk => ?_⟩
  rw [List.length_append, List.length_singleton] at hk
  rw [once.sq_snoc cn n k (by omega)]
  by_cases h : k < cn.length
  · obtain ⟨A', q⟩ := h2 k h
    refine ⟨A', ?_⟩
    have e : (cn ++ [n]).getD k 0 = cn.getD k 0 := by simp [List.getD, List.getElem?_append_left h]
    rw [e, List.getElem?_append_left (by omega), List.getElem?_append_left (by omega), List.getElem?_append_left (by omega), List.getElem?_append_left (by omega), List.getElem?_append_left (by omega), List.getElem?_append_left (by omega)]
    exact q
  · obtain rfl : k = cn.length := by omega
    refine ⟨A, ?_⟩
    have e : (cn ++ [n]).getD cn.length 0 = n := by simp [List.getD]
    rw [e, List.getElem?_append_right (by omega), List.getElem?_append_right (by omega), List.getElem?_append_right (by omega), List.getElem?_append_right (by omega), List.getElem?_append_right (by omega), List.getElem?_append_right (by omega), h1]
    simp
def once.at' (cn : List Nat) (m : Nat) : List Value := (List.range m).map fun k => .int .i64 (once.sq cn k)

theorem infoBatch : (Try.prog.info? 46).map (fun i => (i.zero, i.size, i.bytes)) = some (some (.agg #[.int .i64 0, .int .i64 0, .int .i64 0, .int .i64 0, .int .i64 0, .slice none 0 0]), 6, 64) := by kernel_rfl
theorem infoInt1 : (Try.prog.info? 3).map (fun i => (i.zero, i.size, i.bytes)) = some (some (.int .i64 0), 1, 8) := by kernel_rfl

structure OnceAt (w2 : World) (cn : List Nat) (t m : Nat) (v : Value) (wr : World) : Prop where
  tab : ∃ N g Bs, PTab wr t N g Bs ∧ N ≤ m ∧ g 3 = once.row cn m ∧ (∀ k, Bs k → w2.heap.size ≤ k ∧ k < wr.heap.size) ∧ ∀ k, v.ownBlock = some k → ¬ Bs k
  own : wr.ownsRow w2.heap.size 3 1 v m (once.at' cn m)
  bel : Below w2.heap.size w2 wr

theorem OnceAt.below {w2 wr w' : World} {cn : List Nat} {t m : Nat} {v : Value} (h : OnceAt w2 cn t m v wr) (hb : Below wr.heap.size wr w') : OnceAt w2 cn t m v w' := by
  obtain ⟨N, g, Bs, h1, h2, h3, h4, h5⟩ := h.tab
  exact ⟨⟨N, g, Bs, h1.below hb, h2, h3, fun k hk => ⟨(h4 k hk).1, Nat.lt_of_lt_of_le (h4 k hk).2 hb.size⟩, h5⟩, own_below h.own hb, h.bel.trans (hb.mono h.bel.size)⟩
theorem once.ans {r : Option PRow} {ep seq n : Int} {x : Int × Bool × Int} (hx : prod.chk r 3 ep seq n = x) (h : x.2.2 ≠ 0 ∨ x.2.1 = true) : prod.ans true r 3 ep seq n = if x.2.2 ≠ 0 then x.2.2 else 9 := by
  unfold prod.ans
  rw [hx, if_neg (by decide)]
  split
  · rfl
  · rename_i h'
    rw [if_pos]
    rcases h with h | h
    · exact absurd h h'
    · exact h

set_option maxRecDepth 20000 in
set_option maxHeartbeats 1000000 in
theorem prod.lawOnce (A : Option Addr) (n c : Nat) (z : List Int) (B : Option Addr) (m d : Nat) (y : List Int) (w : World) (hat : At w A n (fun j => .int .i64 (z.getD j 0))) (hz : ∀ j, -9223372036854775808 ≤ z.getD j 0 ∧ z.getD j 0 ≤ 9223372036854775807)
    (hbt : At w B m (fun j => .int .i64 (y.getD j 0))) (hy : ∀ j, -9223372036854775808 ≤ y.getD j 0 ∧ y.getD j 0 ≤ 9223372036854775807) (hn0 : 0 < n) (hn : n ≤ 20) (hm : m ≤ 100) :
    Calls Try.prog 4 #[.slice A n c, .slice B m d] w fun e w' => e = .returned (.bool true) ∧ Below w.heap.size w w' := by
  have HAT := Lib.hid hat; clear hat
  have HBT := Lib.hid hbt; clear hbt
  have HZ := Lib.hid hz; clear hz
  have HY := Lib.hid hy; clear hy
  have hne : ((n : Int) == 0) = false := by simp; omega
  obtain ⟨ib, hib, hb0, hb1, hb2⟩ := info_parts infoBatch
  obtain ⟨ii, hii, hi0, hi1, hi2⟩ := info_parts infoInt1
  go_enter Try.func4, Try.ntmps4
  go_wp2_with fail
  go_loopw [5, 6, 7] (fun l s i wr => ∃ (cn : List Nat) (v : Value) (xs : List Value), cn.length ≤ n ∧ i = .int .i64 (cn.length : Int) ∧ s = .int .i64 (once.sq cn cn.length : Nat) ∧ v = l ∧ wr.ownsRow w.heap.size 46 6 v cn.length xs ∧ once.lies xs cn ∧ once.fit cn ∧ Below w.heap.size w wr) (fun _ _ i _ => n - (intOf i).toNat)
  case atStart => exact ⟨[], .slice none 0 0, [], by simp, rfl, rfl, rfl, World.ownsRow_nil _ _ _ _, ⟨rfl, fun k hk => absurd hk (by simp)⟩, fun x hx => absurd hx (by simp), Below.refl _ _⟩
  case round =>
    obtain ⟨cn, v, xs, hj, rfl, rfl, rfl, hown, hlies, hfit, hbel⟩ := hrel
    obtain ⟨j, hjl⟩ : ∃ j, j = cn.length := ⟨_, rfl⟩
    have hsq := once.sq_le cn hfit cn.length (Nat.le_refl _)
    obtain ⟨sq, hsqe⟩ : ∃ sq, sq = once.sq cn cn.length := ⟨_, rfl⟩
    have hsqb : sq ≤ 180 := by rw [hsqe]; omega
    have hl' := fun (n : Nat) (A : Option Addr) => once.lies_snoc hlies n A
    rw [← hsqe] at hl' ⊢
    rw [← hjl] at hj hown ⊢
    have HOWN := Lib.hid hown; clear hown
    have HLIES := Lib.hid hlies; clear hlies
    have HLIES' := Lib.hid hl'; clear hl'
    have HFIT := Lib.hid hfit; clear hfit
    have HBEL := Lib.hid hbel; clear hbel
    have HJ := Lib.hid hjl; clear hjl
    have HSQ := Lib.hid hsqe; clear hsqe hsq
    by_cases hlt : j < n
    · obtain ⟨b, off, rfl, hbb, hck⟩ := (HAT.out.below HBEL.out (Nat.le_refl _)) (by omega)
      have hcj := hck j hlt
      have hzj := HZ.out j
      dsimp only at hcj
      generalize z.getD j 0 = y0 at *
      clear hck
      go_wp2_with fail
      refine (round_any y0 9 wr hzj (by omega) (by omega)).mono ?_
      rintro e w' ⟨⟨r, rfl, hr⟩, rfl⟩
      obtain ⟨wm, hmk, hbm⟩ : ∃ wm, (Instr.makeSlice 44 (.int .i64 (1 + (r : Int))) (.int .i64 (1 + (r : Int)))).run Try.prog wr = .ok (.slice (some ⟨wr.heap.size, 0, none⟩) (1 + r) (1 + r)) wm ∧ Below wr.heap.size wr wm := by
        obtain ⟨cs, h⟩ := make_recs (1 + r) (by omega)
        have h2 := h wr
        rw [show (((1 + r : Nat)) : Int) = 1 + (r : Int) by omega] at h2
        exact ⟨_, h2, (Below.refl _ wr).alloc (Nat.le_refl _) _⟩
      have hown1 := own_below HOWN.out hbm
      have HOWN1 := Lib.hid hown1; clear hown1
      have HBM := Lib.hid (HBEL.out.trans (hbm.mono HBEL.out.size)); clear hbm
      go_wp2_with (at_builtin; refine wpList_app2 _ rfl (.tmp 48) (.tmp 53) 43 rfl w.heap.size 46 ib _ 6 64 Try.underlying43 hib hb0 hb1 hb2 rfl (by decide) v j xs rfl (HOWN1.out.alloc _) (some ⟨wm.heap.size, 0, none⟩) 1 1 (fun jj => (#[.int .i64 0, .int .i64 0, .int .i64 3, .int .i64 2, .int .i64 sq, .slice (some ⟨wr.heap.size, 0, none⟩) (1 + r) (1 + r)] : Array Value).getD jj undef) rfl (At.new wm #[.int .i64 0, .int .i64 0, .int .i64 3, .int .i64 2, .int .i64 sq, .slice (some ⟨wr.heap.size, 0, none⟩) (1 + r) (1 + r)] 46 (n := 1 * 6) rfl) (fun jj hjj => by match jj, hjj with | 0, _ => rfl | 1, _ => rfl | 2, _ => rfl | 3, _ => rfl | 4, _ => rfl | 5, _ => rfl) (by unfold maxLen; omega) (by omega) (by have := HBM.out.size; simp; omega) ?_; intro v' w3 hown3 hg3 hl3)
      have hb3 : Below w.heap.size w w3 := (HBM.out.alloc HBM.out.size _).grown hg3 (by have := HBM.out.size; simp; omega) (fun g hg => (HOWN1.out.lt g hg).1)
      refine ⟨⟨cn ++ [1 + r], v', _, by rw [List.length_append, ← HJ.out]; simp; omega, by rw [List.length_append, ← HJ.out]; rfl, ?_, rfl, ?_, HLIES'.out (1 + r) (some ⟨wr.heap.size, 0, none⟩), ?_, hb3⟩, ?_⟩
      · rw [List.length_append, List.length_singleton, once.sq_succ, once.sq_snoc _ _ _ (Nat.le_refl _), ← HSQ.out]
        refine num_eq ?_
        simp [List.getD]
      · rw [List.length_append, ← HJ.out]; exact hown3
      · intro x hx
        rcases List.mem_append.1 hx with h | h
        · exact HFIT.out x h
        · obtain rfl := List.mem_singleton.1 h
          omega
      · simp [intOf]; omega
    · obtain rfl : j = n := by omega
      obtain ⟨wo, rfl⟩ : ∃ wo : World, wo = wr := ⟨_, rfl⟩
      obtain ⟨gl, cl, hvl, hcl, hml, hgl, hgl2, hatl⟩ := own_pos HOWN.out hn0
      subst hvl
      have HATL := Lib.hid hatl; clear hatl
      go_wp2_with fail
      refine (prod.new_any wo).mono ?_
      rintro e w2 ⟨⟨t, rfl, h1⟩, hb1⟩
      have H1 := Lib.hid h1; clear h1
      have HB1 := Lib.hid hb1; clear hb1
      have hglr : gl < wo.heap.size := hgl2
      go_wp2_with fail
      go_loopw [10, 11, 12, 13] (fun b nx at' i wx => ∃ (q k : Nat) (v : Value), q ≤ m ∧ i = .int .i64 (q : Int) ∧ k ≤ j ∧ nx = .int .i64 (k : Int) ∧ b = .int .i64 (once.sq cn k : Nat) ∧ v = at' ∧ OnceAt wo cn t k v wx) (fun _ _ _ i _ => m - (intOf i).toNat)
      case atStart => exact ⟨0, 0, .slice none 0 0, by omega, rfl, by omega, rfl, rfl, rfl, ⟨0, _, _, H1.out.cut, Nat.le_refl _, rfl, fun k h => h, fun k h => nomatch h⟩, World.ownsRow_nil _ _ _ _, HB1.out⟩
      case round =>
        obtain ⟨q, k, v, hq, rfl, hk, rfl, rfl, rfl, hst⟩ := hrel
        have HST := Lib.hid hst; clear hst
        have hkc : k ≤ cn.length := by have := HJ.out; omega
        have hcn : cn.length ≤ 20 := by have := HJ.out; omega
        have hsqk := once.sq_le cn HFIT.out k hkc
        have hk20 : k ≤ 20 := by omega
        obtain ⟨sk, hske⟩ : ∃ sk, sk = once.sq cn k := ⟨_, rfl⟩
        have hskb : sk ≤ 180 := by omega
        rw [← hske]
        have HSKE := Lib.hid hske; clear hske hsqk
        by_cases hlt : q < m
        · obtain ⟨b2, off2, rfl, hbb2, hck2⟩ := (HBT.out.below (HBEL.out.trans (HST.out.bel.mono HBEL.out.size)) (Nat.le_refl _)) (by omega)
          have hcq := hck2 q hlt
          have hyq := HY.out q
          dsimp only at hcq
          generalize y.getD q 0 = y1 at *
          clear hck2
          go_wp2_with fail
          refine (round_any y1 j wr hyq (by omega) (by omega)).mono ?_
          rintro e w' ⟨⟨r, rfl, hr⟩, rfl⟩
          have hr' : r < j := by omega
          obtain ⟨Ar, x0, x1, x2, x3, x4, x5⟩ := HLIES.out.2 r (by have := HJ.out; omega)
          have hcell : ∀ i (u : Value), i < 6 → xs[r * 6 + i]? = some u → wr.cell? ⟨gl, r * 6 + i, none⟩ = some u := fun i u hi hx => by
            obtain ⟨b', off', h1, -, h3⟩ := (HATL.out.below HST.out.bel (Nat.le_refl _)) (by omega)
            cases h1
            have h4 := h3 (r * 6 + i) (by omega)
            rw [Nat.zero_add] at h4
            rw [h4]
            simp [List.getD, hx]
          have y0' : wr.cell? ⟨gl, r * 6, none⟩ = some (.int .i64 0) := hcell 0 _ (by omega) x0
          have y1' := hcell 1 _ (by omega) x1
          have y2' := hcell 2 _ (by omega) x2
          have y3' := hcell 3 _ (by omega) x3
          have y4' := hcell 4 _ (by omega) x4
          have y5' := hcell 5 _ (by omega) x5
          have hrc : r < cn.length := by have := HJ.out; omega
          have hnr := once.get cn HFIT.out hrc
          have hsr := once.sq_le cn HFIT.out r (by omega)
          have hchk := once.chk cn HFIT.out k r hkc hrc
          have hSF := once.S_fit cn HFIT.out r hrc (by omega)
          have hstep := once.step cn k
          unfold once.S at hstep
          obtain ⟨sr, hsre⟩ : ∃ sr, sr = once.sq cn r := ⟨_, rfl⟩
          obtain ⟨nr, hnre⟩ : ∃ nr, nr = cn.getD r 0 := ⟨_, rfl⟩
          rw [← hnre] at hnr y5' hchk
          rw [← hsre] at hsr y4' hchk
          have hsrb : sr ≤ 180 := by omega
          clear hcell x0 x1 x2 x3 x4 x5 hsr
          have HCHK := Lib.hid hchk; clear hchk
          have HSF := Lib.hid hSF; clear hSF
          have HSTEP := Lib.hid hstep; clear hstep
          have HSRE := Lib.hid hsre; clear hsre
          have HNRE := Lib.hid hnre; clear hnre
          obtain ⟨N, g, Bs, hT, hN, hg3, hBs, hvB⟩ := HST.out.tab
          have HT := Lib.hid hT; clear hT
          have HG3 := Lib.hid hg3; clear hg3
          have HBS := Lib.hid hBs; clear hBs
          have HVB := Lib.hid hvB; clear hvB
          have HNN := Lib.hid hN; clear hN
          have h6 : r * 6 + 6 ≤ j * 6 := by omega
          rcases (show r = k ∨ k < r ∨ (r < k ∧ k - 5 ≤ r) ∨ r < k - 5 by omega) with hc | hc | ⟨hc, hc'⟩ | hc
          · subst hc
            have hx : prod.chk (g 3) 3 2 sr nr = (0, false, 0) := by rw [HG3.out, HCHK.out]; exact if_pos rfl
            have HX := Lib.hid hx; clear hx
            go_wp2_with fail
            refine (prod.check_all (some ⟨t, 0, none⟩) N g Bs sk 0 3 2 sr Ar nr nr _ ⟨t, rfl, HT.out.below ((Below.refl _ wr).alloc (Nat.le_refl _) _)⟩ (intOk_small (by decide) (by decide))).mono ?_
            rw [HX.out]
            rintro e w2 ⟨rfl, hb2⟩
            have hbx := (chg_of (P := fun _ => False) hb2).blk (Blk.new wr 46 #[.int .i64 sk, .int .i64 0, .int .i64 3, .int .i64 2, .int .i64 sr, .slice Ar nr nr]) id
            have hb2' : Below wr.heap.size wr w2 := ((Below.refl _ wr).alloc (Nat.le_refl _) _).trans (hb2.mono (by simp))
            have q0 : w2.cell? ⟨wr.heap.size, 0, none⟩ = some (.int .i64 sk) := hbx.cell 0 rfl
            have q1 : w2.cell? ⟨wr.heap.size, 1, none⟩ = some (.int .i64 0) := hbx.cell 1 rfl
            have q2 : w2.cell? ⟨wr.heap.size, 2, none⟩ = some (.int .i64 3) := hbx.cell 2 rfl
            have q3 : w2.cell? ⟨wr.heap.size, 3, none⟩ = some (.int .i64 2) := hbx.cell 3 rfl
            have q4 : w2.cell? ⟨wr.heap.size, 4, none⟩ = some (.int .i64 sr) := hbx.cell 4 rfl
            have q5 : w2.cell? ⟨wr.heap.size, 5, none⟩ = some (.slice Ar nr nr) := hbx.cell 5 rfl
            have HBX := Lib.hid hbx; clear hbx hb2
            have HB2 := Lib.hid hb2'; clear hb2'
            unfold prod.tup
            dsimp only
            have HSS := Lib.hid (show sk = sr by rw [HSKE.out, HSRE.out])
            go_wp2_with fail
            refine (prod.add_ok t N g Bs sk 0 3 2 sr Ar nr nr w2 (HT.out.below HB2.out) (intOk_small (by decide) (by decide)) (by decide) HX.out (by omega) (by omega) (intOk_small (by decide) (by decide)) ⟨by omega, by omega⟩ (intOk_small (by omega) (by omega)) (by have := HNN.out; unfold maxLen; omega)).mono ?_
            rintro e w3 ⟨rfl, ht3, hc3⟩
            have hv3 := hc3.own (own_below HST.out.own HB2.out) HVB.out
            have hbx3 := hc3.blk HBX.out (fun h => by have := (HBS.out _ h).2; omega)
            have hkeep : ∀ w4, (w3.alloc (.cells #[.int .i64 sk] 3)).grownBy w4 v.ownBlock → Chg w3 w4 (fun k => v.ownBlock = some k) ∧ Blk w4 wr.heap.size 46 #[.int .i64 sk, .int .i64 0, .int .i64 3, .int .i64 2, .int .i64 sr, .slice Ar nr nr] := fun w4 h => by
              have h1 : Chg w3 w4 (fun k => v.ownBlock = some k) := (Chg.alloc w3 _ _).trans (Chg.grown h) fun _ _ h => h
              exact ⟨h1, h1.blk hbx3 (hbx3.not_row (by decide) hv3)⟩
            have HKEEP := Lib.hid hkeep; clear hkeep
            have HV3 := Lib.hid hv3; clear hv3
            have HT3 := Lib.hid (And.intro ht3 hc3); clear ht3 hc3 hbx3
            have h3w : wo.heap.size ≤ w3.heap.size := Nat.le_trans HST.out.bel.size (Nat.le_trans HB2.out.size HT3.out.2.size)
            go_wp2_with (at_builtin; refine wpList_app2 _ rfl (.tmp 113) (.tmp 115) 23 rfl wo.heap.size 3 ii _ 1 8 Try.underlying23 hii hi0 hi1 hi2 rfl (by decide) v r (once.at' cn r) rfl (HV3.out.alloc _) (some ⟨w3.heap.size, 0, none⟩) 1 1 (fun _ => .int .i64 sk) rfl (by rw [Nat.mul_one]; exact At.one w3 _ _) (fun _ _ => rfl) (by unfold maxLen; omega) (by omega) (by simp; omega) ?_; intro v4 w4 hown4 hg4 hl4; obtain ⟨hch4, hbx4⟩ := HKEEP.out w4 hg4; clear hg4; have HL4 := Lib.hid hl4; clear hl4; have HOWN4 := Lib.hid hown4; clear hown4; have HCH4 := Lib.hid hch4; clear hch4; have p5 : w4.cell? ⟨wr.heap.size, 5, none⟩ = some (.slice Ar nr nr) := hbx4.cell 5 rfl; clear hbx4)
            refine ⟨⟨q + 1, r + 1, v4, by omega, by go_num, by omega, rfl, ?_, rfl, ⟨⟨prod.cnt N (g 3), _, fun k => (Bs k ∨ w2.heap.size ≤ k) ∧ k < w3.heap.size, HT3.out.1.cut.chg HCH4.out ?_, ?_, ?_, ?_, ?_⟩, ?_, ?_⟩⟩, by simp [intOf]; omega⟩
            · refine num_eq ?_
              rw [once.sq_succ, ← HSKE.out, ← HNRE.out]
              omega
            · rintro k hk hvk ⟨h1 | h1, -⟩
              · exact HVB.out k hvk h1
              · have := (HST.out.own.lt k hvk).2
                have := HB2.out.size
                omega
            · have := HNN.out
              unfold prod.cnt
              split <;> omega
            · unfold prod.put
              rw [if_pos rfl, HG3.out, HSS.out, HSRE.out, HNRE.out, HSTEP.out]
              unfold once.row
              rw [if_neg (by omega)]
            · rintro k ⟨h1, h2⟩
              refine ⟨?_, Nat.lt_of_lt_of_le h2 HCH4.out.size⟩
              rcases h1 with h1 | h1
              · exact (HBS.out k h1).1
              · have := HB2.out.size
                have := HST.out.bel.size
                omega
            · rintro k hk ⟨h1, h2⟩
              rcases HL4.out with h | h
              · rw [h] at hk
                rcases h1 with h1 | h1
                · exact HVB.out k hk h1
                · have := (HST.out.own.lt k hk).2
                  have := HB2.out.size
                  omega
              · rw [h] at hk
                have : k = w3.heap.size + 1 := by simpa using hk.symm
                omega
            · have e : once.at' cn (r + 1) = once.at' cn r ++ cellsOf (1 * 1) (fun _ => Value.int .i64 sk) := by
                unfold once.at'
                rw [List.range_succ, List.map_append, HSKE.out]
                rfl
              rw [e]
              exact HOWN4.out
            · refine (HST.out.bel.trans (HB2.out.mono HST.out.bel.size)).trans ((HT3.out.2.below (Nat.le_trans HST.out.bel.size HB2.out.size) fun k hk => (HBS.out k hk).1).trans (HCH4.out.below h3w fun k hk => (HST.out.own.lt k hk).1))
          · have hd : ((r : Int) == (k : Int)) = false := by simp; omega
            have hx : prod.chk (g 3) 3 2 sr nr = (0, false, 10) := by rw [HG3.out, HCHK.out]; rw [if_neg (by omega), if_pos hc]
            have HX := Lib.hid hx; clear hx
            go_wp2_with fail
            refine (prod.check_all (some ⟨t, 0, none⟩) N g Bs sk 0 3 2 sr Ar nr nr _ ⟨t, rfl, HT.out.below ((Below.refl _ wr).alloc (Nat.le_refl _) _)⟩ (intOk_small (by decide) (by decide))).mono ?_
            rw [HX.out]
            rintro e w2 ⟨rfl, hb2⟩
            have hbx := (chg_of (P := fun _ => False) hb2).blk (Blk.new wr 46 #[.int .i64 sk, .int .i64 0, .int .i64 3, .int .i64 2, .int .i64 sr, .slice Ar nr nr]) id
            have hb2' : Below wr.heap.size wr w2 := ((Below.refl _ wr).alloc (Nat.le_refl _) _).trans (hb2.mono (by simp))
            have q0 : w2.cell? ⟨wr.heap.size, 0, none⟩ = some (.int .i64 sk) := hbx.cell 0 rfl
            have q1 : w2.cell? ⟨wr.heap.size, 1, none⟩ = some (.int .i64 0) := hbx.cell 1 rfl
            have q2 : w2.cell? ⟨wr.heap.size, 2, none⟩ = some (.int .i64 3) := hbx.cell 2 rfl
            have q3 : w2.cell? ⟨wr.heap.size, 3, none⟩ = some (.int .i64 2) := hbx.cell 3 rfl
            have q4 : w2.cell? ⟨wr.heap.size, 4, none⟩ = some (.int .i64 sr) := hbx.cell 4 rfl
            have q5 : w2.cell? ⟨wr.heap.size, 5, none⟩ = some (.slice Ar nr nr) := hbx.cell 5 rfl
            have HBX := Lib.hid hbx; clear hbx hb2
            have HB2 := Lib.hid hb2'; clear hb2'
            unfold prod.tup
            dsimp only
            go_wp2_with fail
            refine (prod.add_no (some ⟨t, 0, none⟩) N g Bs sk 0 3 2 sr Ar nr nr w2 ⟨t, rfl, HT.out.below HB2.out⟩ (intOk_small (by decide) (by decide)) (by decide) (by rw [HX.out]; exact .inl (by decide))).mono ?_
            rw [show prod.ans (some (⟨t, 0, none⟩ : Addr)).isSome (g 3) 3 2 sr nr = 10 by rw [Option.isSome_some, once.ans HX.out (.inl (by decide))]; rfl]
            rintro e w3 ⟨rfl, hb3⟩
            have HB3 := Lib.hid (HB2.out.trans (hb3.mono HB2.out.size)); clear hb3
            go_wp2_with fail
            exact ⟨⟨q + 1, k, _, by omega, by go_num, hk, rfl, by rw [← HSKE.out], rfl, HST.out.below HB3.out⟩, by simp [intOf]; omega⟩
          · have hd : ((r : Int) == (k : Int)) = false := by simp; omega
            obtain ⟨ga, ca, hva, hca, hma, hga, hga2, hata⟩ := own_pos HST.out.own (by omega)
            subst hva
            have hatr : wr.cell? ⟨ga, r, none⟩ = some (.int .i64 sr) := by
              obtain ⟨b', off', h1, -, h3⟩ := hata (by omega)
              cases h1
              have h4 := h3 r (by omega)
              rw [Nat.zero_add] at h4
              rw [h4, HSRE.out]
              simp [once.at', List.getD, hc]
            have HATR := Lib.hid hatr; clear hatr hata
            have hx : prod.chk (g 3) 3 2 sr nr = ((sr : Int), true, 0) := by rw [HG3.out, HCHK.out]; rw [if_neg (by omega), if_neg (by omega), if_pos hc']
            have HX := Lib.hid hx; clear hx
            go_wp2_with fail
            refine (prod.check_all (some ⟨t, 0, none⟩) N g Bs sk 0 3 2 sr Ar nr nr _ ⟨t, rfl, HT.out.below ((Below.refl _ wr).alloc (Nat.le_refl _) _)⟩ (intOk_small (by decide) (by decide))).mono ?_
            rw [HX.out]
            rintro e w2 ⟨rfl, hb2⟩
            have hbx := (chg_of (P := fun _ => False) hb2).blk (Blk.new wr 46 #[.int .i64 sk, .int .i64 0, .int .i64 3, .int .i64 2, .int .i64 sr, .slice Ar nr nr]) id
            have hb2' : Below wr.heap.size wr w2 := ((Below.refl _ wr).alloc (Nat.le_refl _) _).trans (hb2.mono (by simp))
            have q0 : w2.cell? ⟨wr.heap.size, 0, none⟩ = some (.int .i64 sk) := hbx.cell 0 rfl
            have q1 : w2.cell? ⟨wr.heap.size, 1, none⟩ = some (.int .i64 0) := hbx.cell 1 rfl
            have q2 : w2.cell? ⟨wr.heap.size, 2, none⟩ = some (.int .i64 3) := hbx.cell 2 rfl
            have q3 : w2.cell? ⟨wr.heap.size, 3, none⟩ = some (.int .i64 2) := hbx.cell 3 rfl
            have q4 : w2.cell? ⟨wr.heap.size, 4, none⟩ = some (.int .i64 sr) := hbx.cell 4 rfl
            have q5 : w2.cell? ⟨wr.heap.size, 5, none⟩ = some (.slice Ar nr nr) := hbx.cell 5 rfl
            have HBX := Lib.hid hbx; clear hbx hb2
            have HB2 := Lib.hid hb2'; clear hb2'
            unfold prod.tup
            dsimp only
            have hat2 : w2.cell? ⟨ga, r, none⟩ = some (.int .i64 sr) := by rw [HB2.out.cell hga2]; exact HATR.out
            go_wp2_with fail
            refine (prod.add_no (some ⟨t, 0, none⟩) N g Bs sk 0 3 2 sr Ar nr nr w2 ⟨t, rfl, HT.out.below HB2.out⟩ (intOk_small (by decide) (by decide)) (by decide) (by rw [HX.out]; exact .inr (.inl rfl))).mono ?_
            rw [show prod.ans (some (⟨t, 0, none⟩ : Addr)).isSome (g 3) 3 2 sr nr = 9 by rw [Option.isSome_some, once.ans HX.out (.inr rfl)]; rfl]
            rintro e w3 ⟨rfl, hb3⟩
            have HB3 := Lib.hid (HB2.out.trans (hb3.mono HB2.out.size)); clear hb3
            go_wp2_with fail
            exact ⟨⟨q + 1, k, _, by omega, by go_num, hk, rfl, by rw [← HSKE.out], rfl, HST.out.below HB3.out⟩, by simp [intOf]; omega⟩
          · have hd : ((r : Int) == (k : Int)) = false := by simp; omega
            have hx : prod.chk (g 3) 3 2 sr nr = (0, false, 9) := by rw [HG3.out, HCHK.out]; rw [if_neg (by omega), if_neg (by omega), if_neg (by omega)]
            have HX := Lib.hid hx; clear hx
            go_wp2_with fail
            refine (prod.check_all (some ⟨t, 0, none⟩) N g Bs sk 0 3 2 sr Ar nr nr _ ⟨t, rfl, HT.out.below ((Below.refl _ wr).alloc (Nat.le_refl _) _)⟩ (intOk_small (by decide) (by decide))).mono ?_
            rw [HX.out]
            rintro e w2 ⟨rfl, hb2⟩
            have hbx := (chg_of (P := fun _ => False) hb2).blk (Blk.new wr 46 #[.int .i64 sk, .int .i64 0, .int .i64 3, .int .i64 2, .int .i64 sr, .slice Ar nr nr]) id
            have hb2' : Below wr.heap.size wr w2 := ((Below.refl _ wr).alloc (Nat.le_refl _) _).trans (hb2.mono (by simp))
            have q0 : w2.cell? ⟨wr.heap.size, 0, none⟩ = some (.int .i64 sk) := hbx.cell 0 rfl
            have q1 : w2.cell? ⟨wr.heap.size, 1, none⟩ = some (.int .i64 0) := hbx.cell 1 rfl
            have q2 : w2.cell? ⟨wr.heap.size, 2, none⟩ = some (.int .i64 3) := hbx.cell 2 rfl
            have q3 : w2.cell? ⟨wr.heap.size, 3, none⟩ = some (.int .i64 2) := hbx.cell 3 rfl
            have q4 : w2.cell? ⟨wr.heap.size, 4, none⟩ = some (.int .i64 sr) := hbx.cell 4 rfl
            have q5 : w2.cell? ⟨wr.heap.size, 5, none⟩ = some (.slice Ar nr nr) := hbx.cell 5 rfl
            have HBX := Lib.hid hbx; clear hbx hb2
            have HB2 := Lib.hid hb2'; clear hb2'
            unfold prod.tup
            dsimp only
            go_wp2_with fail
            refine (prod.add_no (some ⟨t, 0, none⟩) N g Bs sk 0 3 2 sr Ar nr nr w2 ⟨t, rfl, HT.out.below HB2.out⟩ (intOk_small (by decide) (by decide)) (by decide) (by rw [HX.out]; exact .inl (by decide))).mono ?_
            rw [show prod.ans (some (⟨t, 0, none⟩ : Addr)).isSome (g 3) 3 2 sr nr = 9 by rw [Option.isSome_some, once.ans HX.out (.inl (by decide))]; rfl]
            rintro e w3 ⟨rfl, hb3⟩
            have HB3 := Lib.hid (HB2.out.trans (hb3.mono HB2.out.size)); clear hb3
            go_wp2_with fail
            exact ⟨⟨q + 1, k, _, by omega, by go_num, hk, rfl, by rw [← HSKE.out], rfl, HST.out.below HB3.out⟩, by simp [intOf]; omega⟩
        · obtain rfl : q = m := by omega
          obtain ⟨N, g, Bs, hT, hN, hg3, hBs, hvB⟩ := HST.out.tab
          have HT := Lib.hid hT; clear hT hN hBs hvB
          cases k with
          | zero =>
            clear hg3
            go_wp2_with fail
            refine (prod.awake_any wr).mono ?_
            rintro e w9 ⟨rfl, hb9⟩
            have HB9 := Lib.hid ((HBEL.out.trans (HST.out.bel.mono HBEL.out.size)).trans (hb9.mono (Nat.le_trans HBEL.out.size HST.out.bel.size))); clear hb9
            go_wp2
            go_ret
            exact ⟨rfl, HB9.out⟩
          | succ k =>
            have hnx : prod.nx (g 3) = .returned (.tuple #[.int .i64 2, .int .i64 sk, .bool true]) := by
              rw [hg3, HSKE.out, ← once.row_next]
              unfold once.row
              rw [if_neg (by omega)]
              rfl
            have HNX := Lib.hid hnx; clear hnx hg3
            have hd : (((k + 1 : Nat) : Int) == 0) = false := by simp; omega
            go_wp2_with fail
            refine (prod.tnext_any (some ⟨t, 0, none⟩) N g Bs 3 wr ⟨t, rfl, HT.out⟩ (intOk_small (by decide) (by decide))).mono ?_
            rw [HNX.out]
            rintro e w8 ⟨rfl, hb8⟩
            have HB8 := Lib.hid ((HBEL.out.trans (HST.out.bel.mono HBEL.out.size)).trans (hb8.mono (Nat.le_trans HBEL.out.size HST.out.bel.size))); clear hb8
            go_wp2_with fail
            refine (prod.awake_any w8).mono ?_
            rintro e w9 ⟨rfl, hb9⟩
            have HB9 := Lib.hid (HB8.out.trans (hb9.mono HB8.out.size)); clear hb9
            go_wp2
            go_ret
            exact ⟨rfl, HB9.out⟩

set_option maxRecDepth 20000 in
theorem prod.lawOnceAll (A : Option Addr) (n c : Nat) (z : List Int) (B : Option Addr) (m d : Nat) (y : List Int) (w : World) (hl : z.length = n ∧ n ≤ c ∧ c ≤ maxLen) (hat : At w A n (fun j => .int .i64 (z.getD j 0))) (hz : ∀ x ∈ z, (Lit.int .i64 x).wf = true)
    (hl2 : y.length = m ∧ m ≤ d ∧ d ≤ maxLen) (hbt : At w B m (fun j => .int .i64 (y.getD j 0))) (hy : ∀ x ∈ y, (Lit.int .i64 x).wf = true) :
    Calls Try.prog 4 #[.slice A n c, .slice B m d] w fun e w' => e = .returned (.bool true) ∧ Below w.heap.size w w' := by
  have hb : ∀ (l : List Int), (∀ x ∈ l, (Lit.int .i64 x).wf = true) → ∀ j, -9223372036854775808 ≤ l.getD j 0 ∧ l.getD j 0 ≤ 9223372036854775807 := fun l h j => by
    rcases Nat.lt_or_ge j l.length with hj | hj
    · have := wf_bd (h l[j] (List.getElem_mem _))
      simpa [List.getD, List.getElem?_eq_getElem hj] using this
    · simp [List.getD, List.getElem?_eq_none hj]
  by_cases hs : 0 < n ∧ n ≤ 20 ∧ m ≤ 100
  · exact prod.lawOnce A n c z B m d y w hat (hb z hz) hbt (hb y hy) hs.1 hs.2.1 hs.2.2
  · obtain ⟨hl, hnc, hcm⟩ := hl
    obtain ⟨hl2, hmd, hdm⟩ := hl2
    clear hat hz hbt hy hb
    unfold maxLen at hcm hdm
    rcases (show n = 0 ∨ (0 < n ∧ 20 < n) ∨ (0 < n ∧ n ≤ 20 ∧ 100 < m) by omega) with rfl | ⟨h, h'⟩ | ⟨h, h', h''⟩
    · go_enter Try.func4, Try.ntmps4
      go_wp2_with fail
      refine (prod.awake_any w).mono ?_
      rintro e w2 ⟨rfl, hb2⟩
      have HB2 := Lib.hid hb2; clear hb2
      go_wp2
      go_ret
      exact ⟨rfl, HB2.out⟩
    all_goals
      have hne : ((n : Int) == 0) = false := by simp; omega
      clear hs
      go_enter Try.func4, Try.ntmps4
      go_wp2_with fail
      refine (prod.awake_any w).mono ?_
      rintro e w2 ⟨rfl, hb2⟩
      have HB2 := Lib.hid hb2; clear hb2
      go_wp2
      go_ret
      exact ⟨rfl, HB2.out⟩
end Go.Proofs.Ytgkocnnkknodhaa

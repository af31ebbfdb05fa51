/- The walk of a map of keys (keymap.All), for any body. -/
import Derived.Test.YtbbekgliaedigaaKyM
import Derived.BigRegionIn
namespace Go.Proofs.Ytbbekgliaedigaa
open Go.RowKit Go.Maps
set_option maxRecDepth 20000

def ky.Post (S : List (List Nat × Int)) (J Jx : List KX → World → Prop) (e : Ending) (V : World) : Prop := (∃ v, e = .returned v) ∧ ((∃ xs, ky.S S xs V ∧ J xs V) ∨ (∃ pre, ky.Sp S pre V ∧ Jx pre V))
theorem keys_same {g : ByteArray → Option Int} {a c : List ByteArray} (h1 : IsKeys g a) (h2 : IsKeys g c) (h3 : a.Pairwise fun x y => pf.lt x y = true) (h4 : c.Pairwise fun x y => pf.lt x y = true) : a = c :=
  pf.rising_eq a c h3 h4 fun s => by rw [h1.2 s, h2.2 s]

theorem ky.two_ways {e : Ending} {P Q : Prop} (h : (e = .returned (.bool true) ∧ P) ∨ (e = .returned (.bool false) ∧ Q)) : ∃ b, e = .returned (.bool b) ∧ ((b = true ∧ P) ∨ (b = false ∧ Q)) := by
  rcases h with ⟨rfl, h⟩ | ⟨rfl, h⟩
  · exact ⟨true, rfl, .inl ⟨rfl, h⟩⟩
  · exact ⟨false, rfl, .inr ⟨rfl, h⟩⟩
theorem ky.pairs_take {ks : List ByteArray} {g : ByteArray → Option Int} {j : Nat} {s : ByteArray} (h : ks[j]? = some s) : ky.pairs (ks.take (j + 1)) g = ky.pairs (ks.take j) g ++ [(strNats s, (g s).getD 0)] := by
  obtain ⟨h1, h2⟩ := List.getElem?_eq_some_iff.1 h
  unfold ky.pairs
  rw [List.take_succ_eq_append_getElem h1, List.map_append, h2]
  rfl
theorem ky.pairs_split (ks : List ByteArray) (g : ByteArray → Option Int) (j : Nat) : ky.pairs (ks.take j) g ++ ky.pairs (ks.drop j) g = ky.pairs ks g := by
  unfold ky.pairs
  rw [← List.map_append, List.take_append_drop]

set_option maxHeartbeats 2000000 in
theorem key.all1_in (n : Nat) (hn : 3 ≤ n) (l Bp p b N : Nat) (most : Int) (g : ByteArray → Option Int) (ks : List ByteArray) (J Jx : List KX → World → Prop) (W : World) (hN : N ≤ 1000000) (hks : IsKeys g ks) (hri : ks.Pairwise fun x y => pf.lt x y = true)
    (hsrc : KSrc Bp p b N most g W) (hJ : AbidesFrom W.heap.size J)
    (hY : ∀ pre x V, J pre V → ky.R x V → ky.Nx (ky.pairs ks g) pre x → YieldAt Fence.wide (n - 1) Try.prog l (ky.encs x) V fun e V' =>
      (e = .returned (.bool true) ∧ J (pre ++ [x]) V' ∧ KKp b V V') ∨ (e = .returned (.bool false) ∧ Jx (pre ++ [x]) V' ∧ KKp b V V')) (h0 : J [] W) :
    CallsIn Fence.wide n Try.prog 93 #[.func (.yield l) #[] #[], .pointer (some ⟨Bp, 0, none⟩)] W (ky.Post (ky.pairs ks g) J Jx) := by
  refine callsIn_of_wp Try.func93 rfl trivial ?_ rfl
  simp only [Try.ntmps93, List.size_toArray, List.length_cons, List.length_nil, Nat.reduceAdd, Nat.reduceSub, Array.replicate_succ, Array.replicate_zero, List.push_toArray, List.append_toArray, List.nil_append, List.cons_append]
  have hJn : ∀ pre V V', J pre V → Below V.heap.size V V' → J pre V' := fun pre V V' h hb => hJ pre V V' none h (grown_by hb) fun r e => by cases e
  have HJN := Lib.hid hJn; clear hJn hJ
  have HY := Lib.hid hY; clear hY
  have H0 := Lib.hid h0; clear h0
  have HKS := Lib.hid (And.intro hks hri); clear hks hri
  have b0 := hsrc.box.cell 0 rfl
  have c1 : W.cell? ⟨p, 1, none⟩ = some (.map (some b)) := hsrc.km.blk.cell 1 rfl
  have HSRC := Lib.hid hsrc; clear hsrc
  gi_wp2_with fail
  refine ⟨trivial, fun _ => by omega, ?_⟩
  refine (callsIn_wide.2 (maps_keys (some b) W)).mono ?_
  rintro e w1 ⟨rfl, hw1⟩
  have hsort := keys_rising b N g W HSRC.out.km.map hN
  rw [← hw1] at hsort
  have hb1 : Below W.heap.size W w1 := by rw [hw1]; exact (Below.refl _ _).alloc (Nat.le_refl _) _
  have HSORT := Lib.hid hsort; clear hsort hw1 b0 c1
  gi_wp2_with fail
  refine ⟨trivial, fun _ => by omega, ?_⟩
  refine (callsIn_wide.2 HSORT.out).mono ?_
  rintro e w2 ⟨v, ks', rfl, hk', hl', hr', hrow, hb2⟩
  obtain rfl : ks' = ks := keys_same hk' HKS.out.1 hr' HKS.out.2
  obtain ⟨A, c, rfl, -⟩ := own_at hrow
  have hbb : Below W.heap.size W w2 := hb1.trans (hb2.mono hb1.size)
  have hsrc2 := HSRC.out.keep (KKp.below hbb)
  have hj0 := HJN.out [] W w2 H0.out hbb
  have HSRC2 := Lib.hid hsrc2; clear hsrc2 HSRC HSORT
  have HROW := Lib.hid (show w2.ownsRow 0 9 1 (.slice A N c) N (ks'.map .string) from ownsRow_base hrow (Nat.zero_le _)); clear hrow hb1 hb2 hbb hk' hr' H0
  have HL := Lib.hid hl'; clear hl'
  have HJ0 := Lib.hid hj0; clear hj0
  gi_wp2_with fail
  gi_loopw [14] (fun s14 wr => ∃ (pre : List KX) (j : Nat), s14 = .int .i64 (j : Int) ∧ j ≤ N ∧ pre.map Prod.fst = ky.pairs (ks'.take j) g ∧ J pre wr ∧ KSrc Bp p b N most g wr ∧ wr.ownsRow 0 9 1 (.slice A N c) N (ks'.map .string)) (fun s14 _ => N - (intOf s14).toNat)
  case atStart => exact ⟨[], 0, rfl, by omega, rfl, HJ0.out, HSRC2.out, HROW.out⟩
  case round =>
    obtain ⟨pre, j, rfl, hj, hpre, hjj, hsrc, hrow⟩ := hrel
    clear HSRC2 HROW HJ0
    have HPRE := Lib.hid hpre; clear hpre
    have HJ := Lib.hid hjj; clear hjj
    by_cases hlt : j < N
    · obtain ⟨s, hs⟩ : ∃ s, ks'[j]? = some s := ⟨_, List.getElem?_eq_getElem (by have := HL.out; omega)⟩
      obtain ⟨g1, rfl⟩ : ∃ g1, A = some ⟨g1, 0, none⟩ := by
        rcases hrow.2 with ⟨h, hz⟩ | ⟨g, cap, cur, h, _⟩
        · simp at h; omega
        · simp at h; exact ⟨g, h.1⟩
      have d0 : wr.cell? ⟨g1, j, none⟩ = some (.string s) := by
        have := hrow.cells (g := g1) rfl j (.string s) (by rw [List.getElem?_map, hs]; rfl)
        rw [add_none, Nat.zero_add] at this
        exact this
      have hsz : s.size ≤ maxLen := ((HKS.out.1.2 s).1 (List.mem_of_getElem? hs)).1
      obtain ⟨A3, c3, w3, hcv, hR3, hb3⟩ := ky.conv wr s ((g s).getD 0)
      have hsrc3 := hsrc.keep (KKp.below hb3)
      have hrow3 := (KKp.below (b := b) hb3).own hrow (.inr (.inr (.inl rfl)))
      have e0 : w3.cell? ⟨Bp, 0, none⟩ = some (.pointer (some ⟨p, 0, none⟩)) := hsrc3.box.cell 0 rfl
      have e1 : w3.cell? ⟨p, 1, none⟩ = some (.map (some b)) := hsrc3.km.blk.cell 1 rfl
      have hlk := hsrc3.km.map.look1 s hsz
      have hst := ky.pairs_take (g := g) hs
      have hnx : ky.Nx (ky.pairs ks' g) pre ((strNats s, (g s).getD 0), (A3, c3)) := by
        refine ⟨ky.pairs (ks'.drop (j + 1)) g, ?_⟩
        have h1 := ky.pairs_split ks' g (j + 1)
        rw [hst] at h1
        rw [HPRE.out, ← h1]
        simp
      have hy := HY.out pre ((strNats s, (g s).getD 0), (A3, c3)) w3 (HJN.out pre wr w3 HJ.out hb3) hR3 hnx
      have hsp : ∃ rest, (pre ++ [((strNats s, (g s).getD 0), (A3, c3))]).map Prod.fst ++ rest = ky.pairs ks' g := by
        obtain ⟨rest, hr⟩ := hnx
        exact ⟨rest, by rw [List.map_append, List.append_assoc]; exact hr⟩
      have htk : (pre ++ [((strNats s, (g s).getD 0), (A3, c3))]).map Prod.fst = ky.pairs (ks'.take (j + 1)) g := by rw [hst, List.map_append, HPRE.out]; rfl
      unfold ky.encs at hy
      dsimp only at hy
      rw [strNats_len] at hy
      obtain ⟨fn, tmps, assign, body, hyq, hRq⟩ := hy
      have HRQ := Lib.hid hRq; clear hRq
      have HK := Lib.hid (And.intro hsrc3 (And.intro hrow3 (And.intro hsp htk))); clear hsrc3 hrow3 hsp htk hnx hst hsrc hrow hR3 hb3
      gi_wp2_with fail
      refine ⟨fun _ => by omega, HRQ.out.mono ?_⟩
      rintro e W5 hres
      obtain ⟨bv, hbv, hr2⟩ := ky.two_ways hres
      subst hbv
      clear hres
      rcases hr2 with ⟨rfl, hJ3, hk3⟩ | ⟨rfl, hJx3, hk3⟩
      · have HK3 := Lib.hid (And.intro hJ3 (And.intro (HK.out.1.keep hk3) (hk3.own HK.out.2.1 (.inr (.inr (.inl rfl)))))); clear hJ3 hk3
        gi_wp2_with fail
        go_roundw
        case rel => exact ⟨_, j + 1, by go_num, by omega, HK.out.2.2.2, HK3.out.1, HK3.out.2.1, HK3.out.2.2⟩
        case measure => simp [intOf]; omega
      · have HK3 := Lib.hid hJx3; clear hJx3 hk3
        gi_wp2
        refine bodyPost_ret (results_none rfl _ _ _) rfl ?_
        exact ⟨⟨_, rfl⟩, .inr ⟨_, HK.out.2.2.1, HK3.out⟩⟩
    · obtain rfl : j = N := by omega
      have hend : pre.map Prod.fst = ky.pairs ks' g := by rw [HPRE.out, ← HL.out, List.take_length]
      have HEND := Lib.hid hend; clear hend hrow hsrc
      gi_wp2_with fail
      refine bodyPost_ret (results_none rfl _ _ _) rfl ?_
      exact ⟨⟨_, rfl⟩, .inl ⟨pre, HEND.out, HJ.out⟩⟩
end Go.Proofs.Ytbbekgliaedigaa

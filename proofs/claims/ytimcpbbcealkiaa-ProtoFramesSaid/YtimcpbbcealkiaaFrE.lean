/- proto: the law ProtoFrames (chapter 20). -/
import Derived.BigQuiet
import Derived.Test.YtimcpbbcealkiaaFrD
import Derived.Test.YtimcpbbcealkiaaPqK
import Derived.Test.YtimcpbbcealkiaaPqJ
namespace Go.Proofs.Ytimcpbbcealkiaa
open Go.RowKit Go.Maps
set_option maxRecDepth 20000
theorem frm.sum (s a : Nat) : alike.sum (min (s : Int) 1099511627776) [(a : Int), 4] = min ((s + a + 4 : Nat) : Int) 1099511627776 := by
  unfold alike.sum
  simp only [List.sum_cons, List.sum_nil]
  omega
/-- The frame at a place: its cell, and what it is as a text. -/
theorem frm.at_row {w0 w' : World} {v : Value} {Fs : List (List Nat)} (h : FrV w0 w' v Fs) : ∃ A c, v = .slice A Fs.length c ∧ ∀ (w2 : World), Below w'.heap.size w' w2 → ∀ j, j < Fs.length → ∃ b off Aj kj cj, A = some ⟨b, off, none⟩ ∧ b < w2.heap.size ∧ w2.cell? ⟨b, off + j, none⟩ = some (.slice Aj kj cj) ∧ kj = (Fs.getD j []).length ∧ At w2 Aj kj (byteAt (Fs.getD j [])) := by
  obtain ⟨xs, h1, h2, h3, h4⟩ := h
  have hl : Fs.length = xs.length := by rw [← h1, List.length_map]
  obtain ⟨A, c, rfl, hc, hat⟩ := own_at h2
  rw [Nat.mul_one] at hat
  refine ⟨A, c, by rw [hl], fun w2 hb j hj => ?_⟩
  obtain ⟨b, off, hA, hbl, hcl⟩ := (hat.below hb (Nat.le_refl _)) (show 0 < xs.length by omega)
  have hcj := hcl j (by omega)
  obtain ⟨x, hx⟩ : ∃ x, xs[j]? = some x := ⟨_, List.getElem?_eq_getElem (by omega)⟩
  have hg : Fs.getD j [] = x.1 := by rw [← h1]; simp [List.getD, hx]
  refine ⟨b, off, x.2.1, x.1.length, x.2.2, hA, hbl, ?_, by rw [hg], ?_⟩
  · rw [hcj]
    simp [List.getD, hx, frm.val]
  · rw [hg]
    exact (h3 x (List.mem_of_getElem? hx)).below hb (Nat.le_refl _)
theorem BytesAt.at_row {w : World} {A : Option Addr} {n : Nat} {l : List (List Nat)} (h : BytesAt w A n l) : ∀ (w2 : World), Below w.heap.size w w2 → ∀ j, j < n → ∃ b off Aj kj cj, A = some ⟨b, off, none⟩ ∧ b < w2.heap.size ∧ w2.cell? ⟨b, off + j, none⟩ = some (.slice Aj kj cj) ∧ kj = (l.getD j []).length ∧ At w2 Aj kj (byteAt (l.getD j [])) ∧ kj ≤ maxLen := by
  obtain ⟨V, h1, h2, h3⟩ := h
  intro w2 hb j hj
  obtain ⟨b, off, hA, hbl, hcl⟩ := (h1.below hb (Nat.le_refl _)) (show 0 < n by omega)
  obtain ⟨Aj, cj, hV, hat, hc1, hc2, -⟩ := h3 j hj
  have hcj := hcl j hj
  rw [hV] at hcj
  exact ⟨b, off, Aj, _, cj, hA, hbl, hcj, rfl, hat.below hb (Nat.le_refl _), Nat.le_trans hc1 hc2⟩
theorem BytesAt.byte {w : World} {A : Option Addr} {n : Nat} {l : List (List Nat)} (h : BytesAt w A n l) : ∀ f ∈ l, ∀ x ∈ f, x < 256 := by
  obtain ⟨V, h1, h2, h3⟩ := h
  intro f hf
  obtain ⟨j, hj⟩ := List.mem_iff_getElem?.1 hf
  have hj1 := (List.getElem?_eq_some_iff.1 hj).1
  obtain ⟨Aj, cj, hV, hat, hc1, hc2, hb⟩ := h3 j (by omega)
  rw [show l.getD j [] = f by simp [List.getD, hj]] at hb
  exact hb
theorem frm.join_byte {l : List (List Nat)} (h : ∀ f ∈ l, ∀ x ∈ f, x < 256) : ∀ x ∈ fr.join l, x < 256 := by
  intro x hx
  unfold fr.join at hx
  obtain ⟨y, hy, hxy⟩ := List.mem_flatten.1 hx
  obtain ⟨f, hf, rfl⟩ := List.mem_map.1 hy
  unfold fr.one at hxy
  rcases List.mem_append.1 hxy with h3 | h3
  · exact wire.be_byte _ _ x h3
  · exact h f hf x h3
set_option maxHeartbeats 8000000 in
theorem law20.frames (l : List (List Nat)) (A : Option Addr) (n c : Nat) (T : List Nat) (Bt : Option Addr) (ct : Nat) (k : Int) (w : World) (hl : BytesAt w A n l) (hT : BytesV w (.slice Bt T.length ct) T) (hn63 : n ≤ maxLen) (hk : k ≤ 9223372036854775807) :
    Calls Try.prog 5 #[.slice A n c, .slice Bt T.length ct, .int .i64 k] w fun e w' => e = .returned (.bool true) ∧ Below w.heap.size w w' := by
  have hgo : ∀ wx, Calls Try.prog 9 #[] wx fun e w' => e = .returned (.bool true) ∧ Below wx.heap.size wx w' := law20.awake
  have HGO := Lib.hid hgo; clear hgo
  have hnl : n = l.length := by obtain ⟨V, -, h, -⟩ := hl; exact h
  obtain ⟨Bt9, ct9, e9, hTat, -, -, hTb⟩ := hT
  obtain ⟨rfl, rfl⟩ : Bt = Bt9 ∧ ct = ct9 := by injection e9 with e1 e2 e3; exact ⟨e1, e3⟩
  clear e9
  obtain ⟨t, ht⟩ : ∃ t, t = T.length := ⟨_, rfl⟩
  rw [← ht] at hTat ⊢
  have hlen : l.take n = l := by rw [hnl, List.take_length]
  have H := Lib.hid (And.intro hl (And.intro hTat (And.intro hTb (And.intro ht (And.intro hnl hlen))))); clear hl hTat hTb ht hnl hlen
  unfold maxLen at hn63
  go_enter Try.func5, Try.ntmps5
  go_wp2_with fail
  go_loopw [7, 8] (fun s i wx => ∃ j : Nat, j ≤ n ∧ i = .int .i64 (j : Int) ∧ s = .int .i64 (min ((fr.join (l.take j)).length : Int) 1099511627776) ∧ Below w.heap.size w wx) (fun _ i _ => n - (intOf i).toNat)
  case atStart => exact ⟨0, by omega, rfl, by simp [fr.join] <;> omega, Below.refl _ _⟩
  case round =>
    obtain ⟨j, hj, rfl, rfl, hbw⟩ := hrel
    obtain ⟨s, hs⟩ : ∃ s, s = (fr.join (l.take j)).length := ⟨_, rfl⟩
    rw [← hs]
    have HB := Lib.hid (And.intro hbw hs); clear hbw hs
    by_cases hgo : j < n ∧ s ≤ 3000
    · obtain ⟨hlt, hs3⟩ := hgo
      have hlt' : (j : Int) < (n : Int) := by omega
      have hmin : min (s : Int) 1099511627776 = (s : Int) := by omega
      obtain ⟨b, off, Aj, kj, cj, hA, hbl, hcj, hkj, -, hkm⟩ := H.out.1.at_row wr HB.out.1 j hlt
      subst hA
      obtain ⟨f, hf⟩ : ∃ f, l[j]? = some f := ⟨_, List.getElem?_eq_getElem (by rw [← H.out.2.2.2.2.1]; exact hlt)⟩
      have hkf : kj = f.length := by rw [hkj]; simp [List.getD, hf]
      have hnext : (fr.join (l.take (j + 1))).length = s + kj + 4 := by
        rw [fr.join_take hf, List.length_append, fr.one_len, ← HB.out.2, hkf]
        omega
      unfold maxLen at hkm
      have hsum := alike.sum_all (s : Int) (some ⟨wr.heap.size, 0, none⟩) 2 2 [(kj : Int), 4] (wr.alloc (.cells #[.int .i64 (kj : Int), .int .i64 4] 3)) (by omega) (by omega) (by omega) rfl (pq.at_ints wr [(kj : Int), 4] 3) (fun x hx => by simp only [List.mem_cons, List.not_mem_nil, or_false] at hx; omega)
      have he : alike.sum (s : Int) [(kj : Int), 4] = min ((s + kj + 4 : Nat) : Int) 1099511627776 := by
        rw [← frm.sum, hmin]
      rw [he] at hsum
      obtain ⟨s2, hs2⟩ : ∃ s2 : Int, s2 = min ((s + kj + 4 : Nat) : Int) 1099511627776 := ⟨_, rfl⟩
      rw [← hs2] at hsum
      have HN := Lib.hid (And.intro hsum (And.intro hnext hs2)); clear hsum hnext hs2 he hkj hkf hf
      rw [hmin]
      have d3 : (s : Int) ≤ 3000 := by omega
      clear hmin
      go_wp2_with (go_at_call 22; refine HN.out.1.mono ?_; rintro en w2 ⟨rfl, h3⟩; have HW := Lib.hid h3; clear h3)
      go_roundw
      case rel => exact ⟨j + 1, by omega, by go_num, by rw [HN.out.2.1, HN.out.2.2], by rw [← HW.out]; exact HB.out.1.alloc HB.out.1.size _⟩
      case measure => simp [intOf]; omega
    · by_cases hs3 : 3000 < s
      · obtain ⟨sv, hsv⟩ : ∃ sv : Int, sv = min (s : Int) 1099511627776 := ⟨_, rfl⟩
        have hv3 : 3000 < sv := by omega
        rw [← hsv]
        clear hsv hgo hs3
        have d0 : ¬ sv ≤ 3000 := by omega
        have d1 : decide (3000 < sv) = true := decide_eq_true hv3
        have d2 : decide (sv ≤ 3000) = false := decide_eq_false d0
        rcases Nat.lt_or_ge j n with hlt | hge
        · have hlt' : (j : Int) < (n : Int) := by omega
          go_wp2_with fail
          refine (HGO.out wr).mono ?_
          rintro en w4 ⟨rfl, h9⟩
          have C4 := Lib.hid (HB.out.1.trans (h9.mono HB.out.1.size)); clear h9
          go_wp2_with fail
          go_ret
          exact ⟨rfl, C4.out⟩
        · have hlt' : ¬ (j : Int) < (n : Int) := by omega
          go_wp2_with fail
          refine (HGO.out wr).mono ?_
          rintro en w4 ⟨rfl, h9⟩
          have C4 := Lib.hid (HB.out.1.trans (h9.mono HB.out.1.size)); clear h9
          go_wp2_with fail
          go_ret
          exact ⟨rfl, C4.out⟩
      obtain rfl : n = j := by omega
      have hmin : min (s : Int) 1099511627776 = (s : Int) := by omega
      rw [hmin]
      have hsl : s = (fr.join l).length := by have := HB.out.2; rw [H.out.2.2.2.2.2] at this; exact this
      have HSL := Lib.hid (And.intro hsl (show s ≤ 3000 by omega))
      have d0 : ¬ (3000 : Int) < (s : Int) := by omega
      clear hmin hgo hs3 hsl
      by_cases ht : 1000 < t
      · have d1 : (1000 : Int) < (t : Int) := by omega
        have d1' : decide (1000 < t) = true := decide_eq_true ht
        go_wp2_with fail
        refine (HGO.out wr).mono ?_
        rintro en w4 ⟨rfl, h9⟩
        have C4 := Lib.hid (HB.out.1.trans (h9.mono HB.out.1.size)); clear h9
        go_wp2_with fail
        go_ret
        exact ⟨rfl, C4.out⟩
      have d1 : ¬ (1000 : Int) < (t : Int) := by omega
      have d1' : decide (1000 < t) = false := decide_eq_false ht
      by_cases hk0 : k < 0
      · have d2 : decide (k < 0) = true := decide_eq_true hk0
        go_wp2_with fail
        refine (HGO.out wr).mono ?_
        rintro en w4 ⟨rfl, h9⟩
        have C4 := Lib.hid (HB.out.1.trans (h9.mono HB.out.1.size)); clear h9
        go_wp2_with fail
        go_ret
        exact ⟨rfl, C4.out⟩
      obtain ⟨mo, rfl⟩ := Int.eq_ofNat_of_zero_le (show 0 ≤ k by omega)
      have d2 : decide ((mo : Int) < 0) = false := decide_eq_false hk0
      have hnum : n ≤ 1000 ∧ ∀ f ∈ l, f.length ≤ 131072 := by
        refine ⟨?_, fun f hf => ?_⟩
        · have h3 := fr.all_len _ (fr.join l) (Nat.le_refl _)
          have h5 : fr.all (fr.join l) = l ++ fr.all [] := by
            have h6 := fr.all_join l [] fun f hf => by have := fr.join_mem hf; have := HSL.out.1; have := HSL.out.2; omega
            rw [List.append_nil] at h6
            exact h6
          rw [h5, List.length_append, ← H.out.2.2.2.2.1] at h3
          have := HSL.out.1
          have := HSL.out.2
          omega
        · have := fr.join_mem hf
          have := HSL.out.1
          have := HSL.out.2
          omega
      have hjoin := frm.join_any l A n c wr (H.out.1.below HB.out.1 (Nat.le_refl _)) (by rw [← HSL.out.1]; have := HSL.out.2; omega) hnum.2
      have hfr1 : (fr.all (fr.join l)).take 10000 = l := by
        have h6 := fr.all_join l [] hnum.2
        rw [List.append_nil, show fr.all [] = [] from rfl, List.append_nil] at h6
        rw [h6, List.take_of_length_le (by rw [← H.out.2.2.2.2.1]; omega)]
      obtain ⟨hn1, hn2⟩ := hnum
      have hbyte := frm.join_byte H.out.1.byte
      have HJ := Lib.hid (And.intro hjoin (And.intro hfr1 (And.intro hn2 hbyte))); clear hjoin hfr1 hn2 hbyte ht hk0
      go_upto_region 11 with (go_at_call 23; refine HJ.out.1.mono ?_; rintro en w2 ⟨v, rfl, hacc⟩; obtain ⟨Ab, cb, rfl, hcb, hatb⟩ := hacc.at'; rw [← HSL.out.1] at hcb hatb ⊢; have HA := Lib.hid (And.intro hatb (And.intro hacc.2 hcb)); clear hacc hatb hcb)
      have hwalk := frm.walk_any Ab cb (fr.join l) 10000 w2 (by rw [← HSL.out.1]; exact HA.out.1) HJ.out.2.2.2 (by rw [← HSL.out.1]; have := HSL.out.2; omega) (by omega)
      rw [HJ.out.2.1, ← HSL.out.1] at hwalk
      have HWK := Lib.hid hwalk; clear hwalk
      go_upto_region 12 with (go_at_call 24; refine HWK.out.mono ?_; rintro en w3 ⟨v, rfl, hfv⟩; obtain ⟨Aw, cw, rfl, hrow⟩ := frm.at_row hfv; rw [← H.out.2.2.2.2.1]; have HR3 := Lib.hid (And.intro hrow hfv); clear hrow hfv)
      have hb03 : Below w.heap.size w w3 := by
        obtain ⟨xs, -, -, -, h9⟩ := HR3.out.2
        have h8 := HB.out.1.trans (HA.out.2.1.mono HB.out.1.size)
        exact h8.trans (h9.mono h8.size)
      have hb23 : Below w2.heap.size w2 w3 := by
        obtain ⟨xs, -, -, -, h9⟩ := HR3.out.2
        exact h9
      have HB3 := Lib.hid (And.intro hb03 hb23); clear hb03 hb23
      go_wp2_with fail
      go_loopw [12] (fun i wx => ∃ j : Nat, j ≤ n ∧ i = .int .i64 (j : Int) ∧ Below w3.heap.size w3 wx) (fun i _ => n - (intOf i).toNat)
      case atStart => exact ⟨0, by omega, rfl, Below.refl _ _⟩
      case round =>
        obtain ⟨j, hj, rfl, hbw⟩ := hrel
        have HBW := Lib.hid hbw; clear hbw
        by_cases hlt : j < n
        · have hlt' : (j : Int) < (n : Int) := by omega
          obtain ⟨b1, off1, A1, k1, c1, hA1, hbl1, hc1, hk1, hat1⟩ := HR3.out.1 _ HBW.out j (by rw [← H.out.2.2.2.2.1]; exact hlt)
          obtain ⟨b2, off2, A2, k2, c2, hA2, hbl2, hc2, hk2, hat2, -⟩ := H.out.1.at_row _ (HB3.out.1.trans (HBW.out.mono HB3.out.1.size)) j hlt
          subst hA1
          subst hA2
          obtain ⟨f, hf⟩ : ∃ f, f = l.getD j [] := ⟨_, rfl⟩
          rw [← hf] at hk1 hat1 hk2 hat2
          have hcv1 := fun q => conv_any (P := Try.prog) (c := c1) Try.underlying23 Try.underlying5 Try.underlying9 f hk1.symm (hat1.drew q)
          have hcv2 := fun q => conv_any (P := Try.prog) (c := c2) Try.underlying23 Try.underlying5 Try.underlying9 f hk2.symm (hat2.drew q)
          obtain ⟨sf, hsf⟩ : ∃ sf, sf = strOf f := ⟨_, rfl⟩
          rw [← hsf] at hcv1 hcv2
          clear hsf hf hk1 hk2 hat1 hat2
          go_wp2_with fail
          go_quiet (fail)
          go_wp2_with fail
          go_roundw
          case rel => exact ⟨j + 1, by omega, by go_num, bdrew HBW.out nq⟩
          case measure => simp [intOf]; omega
        · obtain rfl : n = j := by omega
          have hlt' : ¬ (n : Int) < (n : Int) := by omega
          clear hlt
          have hb0r : Below w.heap.size w wr := HB3.out.1.trans (HBW.out.mono HB3.out.1.size)
          have hatb := HA.out.1.below (HB3.out.2.trans (HBW.out.mono HB3.out.2.size)) (Nat.le_refl _)
          have hatt := H.out.2.1.below hb0r (Nat.le_refl _)
          obtain ⟨L2, hL2⟩ : ∃ L2, L2 = fr.join l ++ T := ⟨_, rfl⟩
          have hL2l : L2.length = s + t := by rw [hL2, List.length_append, ← HSL.out.1, ← H.out.2.2.2.1]
          have hL2b : ∀ x ∈ L2, x < 256 := fun x hx => by
            rw [hL2] at hx
            rcases List.mem_append.1 hx with h3 | h3
            · exact HJ.out.2.2.2 x h3
            · exact H.out.2.2.1 x h3
          have hs3 := HSL.out.2
          have ht1 : t ≤ 1000 := by omega
          have hF := fr.all_len _ L2 (Nat.le_refl _)
          obtain ⟨Fs, hFs⟩ : ∃ Fs, Fs = fr.all L2 := ⟨_, rfl⟩
          rw [← hFs, hL2l] at hF
          have htk : Fs.take 10000 = Fs := List.take_of_length_le (by omega)
          obtain ⟨q, hq⟩ : ∃ q, q = Fs.length := ⟨_, rfl⟩
          have HX := Lib.hid (And.intro hb0r (And.intro (hatb.alloc (.cells #[] 5)) (And.intro hatt (And.intro hL2 (And.intro hL2l (And.intro hL2b (And.intro hs3 (And.intro ht1 (And.intro hF (And.intro hFs (And.intro htk hq))))))))))); clear hb0r hatb hatt hL2 hL2l hL2b hs3 ht1 hF hFs htk hq
          go_upto_region 20 with (first
            | (at_builtin; refine wpList_acc rfl (.tmp 80) (.tmp 81) rfl _ _ rfl HA6.out.1 Bt t ct T rfl H.out.2.2.2.1.symm (HX.out.2.2.1.below HA6.out.1.2 (Nat.le_refl _)) (by have h1 := HX.out.2.2.2.2.1; have h2 := HX.out.2.2.2.1; rw [h2, List.length_append] at h1; have := HX.out.2.2.2.2.2.2.1; have := HX.out.2.2.2.2.2.2.2.1; omega) ?_; intro v8 w8 hA; rw [← HX.out.2.2.2.1] at hA; obtain ⟨A8, c8, hv8, hle8, hat8⟩ := hA.at'; subst hv8; have hcm8 : c8 ≤ maxLen := own_cap hA.1; have HA8 := Lib.hid (And.intro hat8 (And.intro hle8 (And.intro hcm8 hA.2))); clear hA hle8 hat8 hcm8)
            | (at_builtin; refine wpList_acc rfl (.tmp 78) (.tmp 79) rfl _ _ rfl (qs.empty wr wr (Below.refl _ _)) Ab s cb (fr.join l) rfl HSL.out.1.symm HX.out.2.1 (by have := HX.out.2.2.2.2.2.2.1; have := HSL.out.1; rw [List.length_nil]; omega) ?_; intro v6 w6 hA; rw [List.nil_append] at hA; have HA6 := Lib.hid (And.intro hA True.intro); clear hA))
          have hb8 : Below w.heap.size w w8 := HX.out.1.trans (HA8.out.2.2.2.mono HX.out.1.size)
          have hw8 := fun (m : Nat) (hm : m ≤ 9223372036854775807) wx (hb : Below w8.heap.size w8 wx) => frm.walk_any A8 c8 L2 m wx (HA8.out.1.below hb (Nat.le_refl _)) HX.out.2.2.2.2.2.1 (by rw [HX.out.2.2.2.2.1]; have := HX.out.2.2.2.2.2.2.1; have := HX.out.2.2.2.2.2.2.2.1; omega) hm
          have hr8 := fun wx (hb : Below w8.heap.size w8 wx) => frm.ref_any A8 c8 L2 wx (HA8.out.1.below hb (Nat.le_refl _)) HA8.out.2.1 HA8.out.2.2.1 HX.out.2.2.2.2.2.1 (by rw [HX.out.2.2.2.2.1]; have := HX.out.2.2.2.2.2.2.1; have := HX.out.2.2.2.2.2.2.2.1; omega)
          rw [← HX.out.2.2.2.2.2.2.2.2.2.1] at hw8 hr8
          have hw8a := hw8 10000 (by omega)
          rw [HX.out.2.2.2.2.2.2.2.2.2.2.1] at hw8a
          have hw8b := hw8 mo (by omega)
          obtain ⟨m8, hm8⟩ : ∃ m8, m8 = L2.length := ⟨_, rfl⟩
          rw [← hm8] at hw8a hw8b hr8 ⊢
          clear hm8 hw8
          have H8 := Lib.hid (And.intro hb8 (And.intro hw8a (And.intro hw8b hr8))); clear hb8 hw8a hw8b hr8
          go_upto_region 21 with (first
            | (go_at_call 25; refine (H8.out.2.2.2 w9 HV9.out.1).mono ?_; rintro en w10 ⟨v, rfl, hfv⟩; obtain ⟨Ay, cy, rfl, hrow⟩ := frm.at_row hfv; rw [← HX.out.2.2.2.2.2.2.2.2.2.2.2]; have hbb : Below w9.heap.size w9 w10 := (by obtain ⟨xs, -, -, -, h9⟩ := hfv; exact h9); have HV10 := Lib.hid (And.intro (HV9.out.1.trans (hbb.mono HV9.out.1.size)) (And.intro hrow hbb)); clear hrow hfv hbb)
            | (go_at_call 24; refine (H8.out.2.1 w8 (Below.refl _ _)).mono ?_; rintro en w9 ⟨v, rfl, hfv⟩; obtain ⟨Ax, cx, rfl, hrow⟩ := frm.at_row hfv; rw [← HX.out.2.2.2.2.2.2.2.2.2.2.2]; have HV9 := Lib.hid (And.intro (by obtain ⟨xs, -, -, -, h9⟩ := hfv; exact h9 : Below w8.heap.size w8 w9) hrow); clear hrow hfv))
          have hmin : ((Fs.take mo).length : Int) = min (mo : Int) (q : Int) := by rw [List.length_take, ← HX.out.2.2.2.2.2.2.2.2.2.2.2]; omega
          obtain ⟨z, hz⟩ : ∃ z : Nat, z = (Fs.take mo).length := ⟨_, rfl⟩
          rw [← hz] at hmin
          have hif : (if q < mo then (q : Int) else (mo : Int)) = (z : Int) := by
            split <;> omega
          have HMN := Lib.hid (And.intro hmin hz); clear hmin hz
          go_wp2_with (go_at_call 24; refine (H8.out.2.2.1 w10 HV10.out.1).mono ?_; rintro en w11 ⟨v, rfl, hfv⟩; obtain ⟨Az, cz, rfl, -⟩ := frm.at_row hfv; rw [← HMN.out.2]; have hbb : Below w10.heap.size w10 w11 := (by obtain ⟨xs, -, -, -, h9⟩ := hfv; exact h9); have HV11 := Lib.hid hbb; clear hfv hbb)
          clear hif
          have hbx : Below w9.heap.size w9 w11 := HV10.out.2.2.trans (HV11.out.mono HV10.out.2.2.size)
          have hbw11 : Below w.heap.size w w11 := by
            have h3 := H8.out.1.trans (HV10.out.1.mono H8.out.1.size)
            exact h3.trans (HV11.out.mono h3.size)
          have HB11 := Lib.hid (And.intro hbx hbw11); clear hbx hbw11
          have hq1 : q ≤ 1000 := by
            have g1 := HX.out.2.2.2.2.2.2.2.2.1
            have g2 := HX.out.2.2.2.2.2.2.2.2.2.2.2
            have g3 := HX.out.2.2.2.2.2.2.1
            have g4 := HX.out.2.2.2.2.2.2.2.1
            omega
          go_loopw [16] (fun i wx => ∃ j : Nat, j ≤ q ∧ i = .int .i64 (j : Int) ∧ Below w11.heap.size w11 wx) (fun i _ => q - (intOf i).toNat)
          case atStart => exact ⟨0, by omega, rfl, Below.refl _ _⟩
          case round =>
            obtain ⟨j, hj, rfl, hbw⟩ := hrel
            have HBZ := Lib.hid hbw; clear hbw
            by_cases hlt : j < q
            · have hlt3 : (j : Int) < (q : Int) := by omega
              obtain ⟨b1, off1, A1, k1, c1, hA1, hbl1, hc1, hk1, hat1⟩ := HV9.out.2 _ (HB11.out.1.trans (HBZ.out.mono HB11.out.1.size)) j (by rw [← HX.out.2.2.2.2.2.2.2.2.2.2.2]; exact hlt)
              obtain ⟨b2, off2, A2, k2, c2, hA2, hbl2, hc2, hk2, hat2⟩ := HV10.out.2.1 _ (HV11.out.trans (HBZ.out.mono HV11.out.size)) j (by rw [← HX.out.2.2.2.2.2.2.2.2.2.2.2]; exact hlt)
              subst hA1
              subst hA2
              obtain ⟨f, hf⟩ : ∃ f, f = Fs.getD j [] := ⟨_, rfl⟩
              rw [← hf] at hk1 hat1 hk2 hat2
              have hcv1 := fun q => conv_any (P := Try.prog) (c := c1) Try.underlying23 Try.underlying5 Try.underlying9 f hk1.symm (hat1.drew q)
              have hcv2 := fun q => conv_any (P := Try.prog) (c := c2) Try.underlying23 Try.underlying5 Try.underlying9 f hk2.symm (hat2.drew q)
              obtain ⟨sf, hsf⟩ : ∃ sf, sf = strOf f := ⟨_, rfl⟩
              rw [← hsf] at hcv1 hcv2
              clear hsf hf hk1 hk2 hat1 hat2
              go_wp2_with fail
              go_quiet (fail)
              go_wp2_with fail
              go_roundw
              case rel => exact ⟨j + 1, by omega, by go_num, bdrew HBZ.out nq⟩
              case measure => simp [intOf]; omega
            · obtain rfl : q = j := by omega
              have hlt3 : ¬ (q : Int) < (q : Int) := by omega
              clear hlt
              go_wp2_with fail
              refine (HGO.out _).mono ?_
              rintro en w13 ⟨rfl, h9⟩
              have h3 := HB11.out.2.trans (HBZ.out.mono HB11.out.2.size)
              have C13 := Lib.hid (h3.trans (h9.mono h3.size)); clear h9 h3
              go_wp2_with fail
              go_ret
              exact ⟨rfl, C13.out⟩
end Go.Proofs.Ytimcpbbcealkiaa

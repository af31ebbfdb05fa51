/- commits: the document's GenRecord (cordwainref16; chapter 18). -/
import Derived.BigQuiet
import Derived.Test.YtkkpbnhagobhmaaCmF
namespace Go.Proofs.Ytkkpbnhagobhmaa
open Go.RowKit
set_option maxRecDepth 20000
set_option maxHeartbeats 4000000 in
theorem cm.rgenrec_any (g : ByteArray) (n now : Int) (w : World) (h : g.size ≤ maxLen) : Calls Try.prog 26 #[.string g, .int .i64 n, .int .i64 now] w (cm.recPost w (if cm.gmay g n now = true then cm.grec g n now else cm.zero) (if cm.gmay g n now = true then 0 else 1)) := by
  have hck := fun wx => cm.reftopic_any g wx h
  obtain ⟨R, hR⟩ : ∃ R : Int, R = if cm.gmay g n now = true then 0 else 1 := ⟨_, rfl⟩
  obtain ⟨X, hX⟩ : ∃ X : Rec, X = if cm.gmay g n now = true then cm.grec g n now else cm.zero := ⟨_, rfl⟩
  rw [← hR, ← hX]
  have hno : cm.gmay g n now = false → R = 1 ∧ X = cm.zero := fun h => by rw [h] at hR hX; exact ⟨hR, hX⟩
  have hyes : cm.gmay g n now = true → R = 0 ∧ X = cm.grec g n now := fun h => by rw [h] at hR hX; exact ⟨hR, hX⟩
  have hmay : cm.gmay g n now = (cm.topic g && decide (0 ≤ n) && decide (n ≤ 1099511627776) && (decide (0 ≤ now) && decide (now ≤ 1125899906842624))) := rfl
  have hfacts := fun (h0 : cm.gmay g n now = true) => cm.gen_facts (g := g) (n := n) (by unfold cm.gmay at h0; simp only [Bool.and_eq_true] at h0; exact h0.1)
  clear hR hX h
  obtain ⟨b, hb⟩ : ∃ b, b = cm.topic g := ⟨_, rfl⟩
  rw [← hb] at hck hmay
  clear hb
  obtain ⟨b0, hb0⟩ : ∃ b, b = w.heap.size := ⟨_, rfl⟩
  obtain ⟨w1, hw1⟩ : ∃ w1, w1 = w.alloc (.cells #[.int .i64 0, .int .i64 0, .bool false, .slice none 0 0, .bool false, .slice none 0 0] 37) := ⟨_, rfl⟩
  have hz1 : Blk w1 b0 37 #[.int .i64 0, .int .i64 0, .bool false, .slice none 0 0, .bool false, .slice none 0 0] := by rw [hw1, hb0]; exact Blk.new _ _ _
  have hb1 : Below w.heap.size w w1 := by rw [hw1]; exact (Below.refl _ _).alloc (Nat.le_refl _) _
  have HM := Lib.hid (And.intro hno (And.intro hyes (And.intro hmay hfacts))); clear hno hyes hmay hfacts
  have H := Lib.hid hck; clear hck
  have H2 := Lib.hid (And.intro True.intro (And.intro hz1 (And.intro hb1 hb0))); clear hz1 hb1
  go_enter Try.func26, Try.ntmps26
  go_upto_region 1 with fail
  rw [← hw1, ← hb0]
  clear hw1 hb0
  go_wp2_with fail
  refine (H.out w1).mono ?_
  rintro en w2 ⟨rfl, h2⟩
  subst h2
  clear H
  cases b with
  | false =>
    have HX := Lib.hid (HM.out.1 (by rw [HM.out.2.2.1, Bool.false_and, Bool.false_and, Bool.false_and]))
    go_wp2_with (refine wpList_store_row rfl 37 (.tmp 6) (.tmp 27) rfl (b0) #[.int .i64 0, .int .i64 0, .bool false, .slice none 0 0, .bool false, .slice none 0 0] rfl rfl 37 _ H2.out.2.1 cm.info_rec rfl (by simp [Value.oneCell']) ?_)
    have hz3 := H2.out.2.1.row #[.int .i64 0, .int .i64 0, .bool false, .slice none 0 0, .bool false, .slice none 0 0]
    have hb3 := H2.out.2.2.1.trans ((Chg.setRow w1 (b0) #[.int .i64 0, .int .i64 0, .bool false, .slice none 0 0, .bool false, .slice none 0 0]).below H2.out.2.2.1.size fun k hk => by have hk : k = b0 := hk; have := H2.out.2.2.2; omega)
    refine bodyPost_ret (res_cell2 rfl _ _ (b0) _ _ rfl hz3 Try.underlying37 rfl cm.info_rec) rfl ?_
    refine ⟨⟨_, by rw [HX.out.1]; rfl, ?_⟩, hb3⟩
    rw [HX.out.2]
    exact cm.zero_v _
  | true =>
    by_cases q0 : n < 0
    · have d0 : decide (n < 0) = true := decide_eq_true q0
      have HX := Lib.hid (HM.out.1 (by rw [HM.out.2.2.1, decide_eq_false (p := 0 ≤ n) (by omega), Bool.and_false, Bool.false_and, Bool.false_and]))
      go_wp2_with (refine wpList_store_row rfl 37 (.tmp 6) (.tmp 27) rfl (b0) #[.int .i64 0, .int .i64 0, .bool false, .slice none 0 0, .bool false, .slice none 0 0] rfl rfl 37 _ H2.out.2.1 cm.info_rec rfl (by simp [Value.oneCell']) ?_)
      have hz3 := H2.out.2.1.row #[.int .i64 0, .int .i64 0, .bool false, .slice none 0 0, .bool false, .slice none 0 0]
      have hb3 := H2.out.2.2.1.trans ((Chg.setRow w1 (b0) #[.int .i64 0, .int .i64 0, .bool false, .slice none 0 0, .bool false, .slice none 0 0]).below H2.out.2.2.1.size fun k hk => by have hk : k = b0 := hk; have := H2.out.2.2.2; omega)
      refine bodyPost_ret (res_cell2 rfl _ _ (b0) _ _ rfl hz3 Try.underlying37 rfl cm.info_rec) rfl ?_
      refine ⟨⟨_, by rw [HX.out.1]; rfl, ?_⟩, hb3⟩
      rw [HX.out.2]
      exact cm.zero_v _
    have d0 : decide (n < 0) = false := decide_eq_false q0
    by_cases q1 : 1099511627776 < n
    · have d1 : decide (1099511627776 < n) = true := decide_eq_true q1
      have HX := Lib.hid (HM.out.1 (by rw [HM.out.2.2.1, decide_eq_false (p := n ≤ 1099511627776) (by omega), Bool.and_false, Bool.false_and]))
      go_wp2_with (refine wpList_store_row rfl 37 (.tmp 6) (.tmp 27) rfl (b0) #[.int .i64 0, .int .i64 0, .bool false, .slice none 0 0, .bool false, .slice none 0 0] rfl rfl 37 _ H2.out.2.1 cm.info_rec rfl (by simp [Value.oneCell']) ?_)
      have hz3 := H2.out.2.1.row #[.int .i64 0, .int .i64 0, .bool false, .slice none 0 0, .bool false, .slice none 0 0]
      have hb3 := H2.out.2.2.1.trans ((Chg.setRow w1 (b0) #[.int .i64 0, .int .i64 0, .bool false, .slice none 0 0, .bool false, .slice none 0 0]).below H2.out.2.2.1.size fun k hk => by have hk : k = b0 := hk; have := H2.out.2.2.2; omega)
      refine bodyPost_ret (res_cell2 rfl _ _ (b0) _ _ rfl hz3 Try.underlying37 rfl cm.info_rec) rfl ?_
      refine ⟨⟨_, by rw [HX.out.1]; rfl, ?_⟩, hb3⟩
      rw [HX.out.2]
      exact cm.zero_v _
    have d1 : decide (1099511627776 < n) = false := decide_eq_false q1
    by_cases q2 : now < 0
    · have d2 : decide (now < 0) = true := decide_eq_true q2
      have HX := Lib.hid (HM.out.1 (by rw [HM.out.2.2.1, decide_eq_false (p := 0 ≤ now) (by omega), Bool.false_and, Bool.and_false]))
      go_wp2_with (refine wpList_store_row rfl 37 (.tmp 6) (.tmp 27) rfl (b0) #[.int .i64 0, .int .i64 0, .bool false, .slice none 0 0, .bool false, .slice none 0 0] rfl rfl 37 _ H2.out.2.1 cm.info_rec rfl (by simp [Value.oneCell']) ?_)
      have hz3 := H2.out.2.1.row #[.int .i64 0, .int .i64 0, .bool false, .slice none 0 0, .bool false, .slice none 0 0]
      have hb3 := H2.out.2.2.1.trans ((Chg.setRow w1 (b0) #[.int .i64 0, .int .i64 0, .bool false, .slice none 0 0, .bool false, .slice none 0 0]).below H2.out.2.2.1.size fun k hk => by have hk : k = b0 := hk; have := H2.out.2.2.2; omega)
      refine bodyPost_ret (res_cell2 rfl _ _ (b0) _ _ rfl hz3 Try.underlying37 rfl cm.info_rec) rfl ?_
      refine ⟨⟨_, by rw [HX.out.1]; rfl, ?_⟩, hb3⟩
      rw [HX.out.2]
      exact cm.zero_v _
    have d2 : decide (now < 0) = false := decide_eq_false q2
    by_cases q3 : 1125899906842624 < now
    · have d3 : decide (1125899906842624 < now) = true := decide_eq_true q3
      have HX := Lib.hid (HM.out.1 (by rw [HM.out.2.2.1, decide_eq_false (p := now ≤ 1125899906842624) (by omega), Bool.and_false, Bool.and_false]))
      go_wp2_with (refine wpList_store_row rfl 37 (.tmp 6) (.tmp 27) rfl (b0) #[.int .i64 0, .int .i64 0, .bool false, .slice none 0 0, .bool false, .slice none 0 0] rfl rfl 37 _ H2.out.2.1 cm.info_rec rfl (by simp [Value.oneCell']) ?_)
      have hz3 := H2.out.2.1.row #[.int .i64 0, .int .i64 0, .bool false, .slice none 0 0, .bool false, .slice none 0 0]
      have hb3 := H2.out.2.2.1.trans ((Chg.setRow w1 (b0) #[.int .i64 0, .int .i64 0, .bool false, .slice none 0 0, .bool false, .slice none 0 0]).below H2.out.2.2.1.size fun k hk => by have hk : k = b0 := hk; have := H2.out.2.2.2; omega)
      refine bodyPost_ret (res_cell2 rfl _ _ (b0) _ _ rfl hz3 Try.underlying37 rfl cm.info_rec) rfl ?_
      refine ⟨⟨_, by rw [HX.out.1]; rfl, ?_⟩, hb3⟩
      rw [HX.out.2]
      exact cm.zero_v _
    have d3 : decide (1125899906842624 < now) = false := decide_eq_false q3
    have hm : cm.gmay g n now = true := by rw [HM.out.2.2.1, decide_eq_true (p := 0 ≤ n) (by omega), decide_eq_true (p := n ≤ 1099511627776) (by omega), decide_eq_true (p := 0 ≤ now) (by omega), decide_eq_true (p := now ≤ 1125899906842624) (by omega)]; rfl
    have HX := Lib.hid (And.intro (HM.out.2.1 hm) (HM.out.2.2.2 hm)); clear hm
    clear HM
    have hl : (cm.text ⟨#[103]⟩).length ≤ 11 ∧ (cm.text g).length ≤ 30 := by
      have h1 := HX.out.2.1
      have h3 := (cm.text_len g).2
      have h6 : (cm.text ⟨#[103]⟩).length ≤ 11 := (cm.text_len ⟨#[103]⟩).2
      omega
    have hT0 := fun wx => cm.acc_text ⟨#[103]⟩ wx (by decide)
    have hT1 := fun wx => cm.acc_text g wx (by have := HX.out.2.1; omega)
    have hT4 := fun wx => cm.acc_put n wx (by have := HX.out.2.2.1; omega) (by have := HX.out.2.2.2; omega)
    have hkk : cm.gkey g = cm.text ⟨#[103]⟩ ++ cm.text g := rfl
    have hkb : ∀ x ∈ cm.gkey g, x < 256 := cm.gkey_byte (by have := HX.out.2.1; omega)
    have hvb : ∀ x ∈ num.put n, x < 256 := num.put_byte n (by have := HX.out.2.2.1; omega) (by have := HX.out.2.2.2; omega)
    have hRX : R = 0 ∧ X = ⟨0, now, true, cm.gkey g, true, num.put n⟩ := HX.out.1
    clear HX
    obtain ⟨K, hK⟩ : ∃ K, K = cm.gkey g := ⟨_, rfl⟩
    rw [← hK] at hkk hkb hRX
    clear hK
    obtain ⟨x0, hx0⟩ : ∃ x, x = cm.text ⟨#[103]⟩ := ⟨_, rfl⟩
    obtain ⟨x1, hx1⟩ : ∃ x, x = cm.text g := ⟨_, rfl⟩
    obtain ⟨x4, hx4⟩ : ∃ x, x = num.put n := ⟨_, rfl⟩
    rw [← hx0] at hl hkk hT0
    rw [← hx1] at hl hkk hT1
    rw [← hx4] at hvb hT4 hRX
    have HT := Lib.hid (And.intro hT0 (And.intro hT1 hT4))
    have HL := Lib.hid (And.intro hl (And.intro hkk (And.intro hkb (And.intro hvb hRX))))
    clear hl hT0 hT1 hT4 hkk hkb hvb hRX hx0 hx1 hx4
    go_upto_region 3 with fail
    clear d0 d1 d2 d3 q0 q1 q2 q3
    go_wp2_with fail
    refine (HT.out.1 w1).mono ?_
    rintro en t0 ⟨A0, m0, c0, rfl, h0, -, -⟩
    have A0' := Lib.hid h0; clear h0
    go_wp2_with fail
    refine (HT.out.2.1 t0).mono ?_
    rintro en t1 ⟨A1, m1, c1, rfl, h1, hm1, hat1⟩
    have hA := A0'.out.keep h1.2
    have B1 := Lib.hid (And.intro hA (And.intro hm1 hat1)); clear hA hm1 hat1 h1 A0'
    go_wp2_with (at_builtin; go_loud (refine wpList_acc rfl (.tmp 29) (.tmp 31) rfl (.slice A0 m0 c0) x0 rfl B1.out.1 A1 m1 c1 x1 rfl B1.out.2.1.symm B1.out.2.2 (by have := HL.out.1; omega) ?_; intro v2 t2 h2; rw [← HL.out.2.1] at h2; obtain ⟨A6, c6, rfl, -, -⟩ := h2.at'; obtain ⟨m6, hm6⟩ : ∃ m, m = K.length := ⟨_, rfl⟩; rw [← hm6] at h2 ⊢; clear hm6; have B6 := Lib.hid h2; clear h2))
    go_wp2_with fail
    refine (HT.out.2.2 t2).mono ?_
    rintro en w4 ⟨Au, nu, cu, rfl, h4, hnu, hu⟩
    have hbk := cm.acc_bv (B6.out.keep h4.2) HL.out.2.2.1
    have hbu := cm.acc_bv h4 HL.out.2.2.2.1
    have hc4 : Chg w1 w4 (fun _ => False) := (chg_of B6.out.2).trans (chg_of h4.2) fun _ _ q => q
    have hz4 := hc4.blk H2.out.2.1 fun q => q
    have hb4 := H2.out.2.2.1.trans (hc4.below H2.out.2.2.1.size fun _ q => q.elim)
    have H4 := Lib.hid (And.intro hbk (And.intro hbu (And.intro hb4 hz4))); clear hu hb4 hz4 hbk hbu hc4 h4 hnu
    go_wp2_with (refine wpList_store_row rfl 37 (.tmp 6) (.tmp 35) rfl b0 #[.int .i64 0, .int .i64 now, .bool true, .slice A6 m6 c6, .bool true, .slice Au nu cu] rfl rfl 37 _ H4.out.2.2.2 cm.info_rec rfl (by simp [Value.oneCell']) ?_)
    have hfin := cm.rec_end (b0 := b0) (w := w) (X := X) H4.out.2.2.2 H4.out.1 H4.out.2.1 H4.out.2.2.1 (by have := H2.out.2.2.2; omega) 0 now true true HL.out.2.2.2.2.2
    refine bodyPost_ret (res_cell2 rfl _ _ b0 _ _ rfl hfin.1 Try.underlying37 rfl cm.info_rec) rfl ?_
    exact ⟨⟨_, by rw [HL.out.2.2.2.2.1]; rfl, hfin.2.1⟩, hfin.2.2⟩
end Go.Proofs.Ytkkpbnhagobhmaa

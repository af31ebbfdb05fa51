/- commits: the document's place, Record, GenRecord (cordwainref16; chapter 18). -/
import Derived.BigQuiet
import Derived.Test.YtkkpbnhagobhmaaCmE
import Derived.Test.YtkkpbnhagobhmaaRefX
import Derived.Test.YtkkpbnhagobhmaaBwB
namespace Go.Proofs.Ytkkpbnhagobhmaa
open Go.RowKit
set_option maxRecDepth 20000
theorem cm.acc_text (s : ByteArray) (w : World) (hs : s.size ≤ 1000) : Calls Try.prog 46 #[.string s] w fun e w' => ∃ A m c, e = .returned (.slice A m c) ∧ Acc w (.slice A m c) (cm.text s) w' ∧ m = (cm.text s).length ∧ At w' A m (byteAt (cm.text s)) := by
  refine (wire.reftext_any s w (by omega)).mono ?_
  rintro e w' ⟨⟨v, rfl, h1⟩, h2⟩
  have h : Acc w v (cm.text s) w' := ⟨h1, h2⟩
  obtain ⟨A, c, rfl, -, h3⟩ := h.at'
  exact ⟨A, _, c, rfl, h, rfl, h3⟩
theorem cm.acc_put (n : Int) (w : World) (h1 : -9223372036854775808 ≤ n) (h2 : n ≤ 9223372036854775807) : Calls Try.prog 47 #[.int .i64 n] w fun e w' => ∃ A m c, e = .returned (.slice A m c) ∧ Acc w (.slice A m c) (num.put n) w' ∧ m = (num.put n).length ∧ At w' A m (byteAt (num.put n)) := by
  refine (num.refput_any n w h1 h2).mono ?_
  rintro e w' ⟨⟨v, rfl, h1⟩, h2⟩
  have h : Acc w v (num.put n) w' := ⟨h1, h2⟩
  obtain ⟨A, c, rfl, -, h3⟩ := h.at'
  exact ⟨A, _, c, rfl, h, rfl, h3⟩
theorem cm.acc_bv {w w' : World} {v : Value} {L : List Nat} (h : Acc w v L w') (hl : ∀ x ∈ L, x < 256) : BytesV w' v L := cm.own_bv h.1 hl
theorem cm.rec_end {w w4 : World} {b0 : Nat} {X : Rec} {T : TypeId} {Ak Au : Option Addr} {nk ck nu cu : Nat} {K U : List Nat} (hz4 : Blk w4 b0 T #[.int .i64 0, .int .i64 0, .bool false, .slice none 0 0, .bool false, .slice none 0 0]) (hk : BytesV w4 (.slice Ak nk ck) K) (hu : BytesV w4 (.slice Au nu cu) U) (hb : Below w.heap.size w w4) (h0 : w.heap.size ≤ b0) (xo xt : Int) (xk xv : Bool) (hX : X = ⟨xo, xt, xk, K, xv, U⟩) :
    Blk (w4.setRow b0 #[.int .i64 xo, .int .i64 xt, .bool xk, .slice Ak nk ck, .bool xv, .slice Au nu cu]) b0 T #[.int .i64 xo, .int .i64 xt, .bool xk, .slice Ak nk ck, .bool xv, .slice Au nu cu]
    ∧ cm.RecV (w4.setRow b0 #[.int .i64 xo, .int .i64 xt, .bool xk, .slice Ak nk ck, .bool xv, .slice Au nu cu]) (.agg #[.int .i64 xo, .int .i64 xt, .bool xk, .slice Ak nk ck, .bool xv, .slice Au nu cu]) X
    ∧ Below w.heap.size w (w4.setRow b0 #[.int .i64 xo, .int .i64 xt, .bool xk, .slice Ak nk ck, .bool xv, .slice Au nu cu]) := by
  subst hX
  have hc5 := Chg.setRow w4 b0 #[.int .i64 xo, .int .i64 xt, .bool xk, .slice Ak nk ck, .bool xv, .slice Au nu cu]
  have hz5 := hz4.row #[.int .i64 xo, .int .i64 xt, .bool xk, .slice Ak nk ck, .bool xv, .slice Au nu cu]
  have hno : ∀ (j : Nat) (u : Value) (L : List Nat), (#[.int .i64 0, .int .i64 0, .bool false, .slice none 0 0, .bool false, .slice none 0 0] : Array Value)[j]? = some u → u ≠ byteAt L 0 := fun j u L hj => by
    have hj6 : j < 6 := by
      have := (Array.getElem?_eq_some_iff.1 hj).1
      simpa using this
    unfold byteAt
    rcases (by omega : j = 0 ∨ j = 1 ∨ j = 2 ∨ j = 3 ∨ j = 4 ∨ j = 5) with rfl | rfl | rfl | rfl | rfl | rfl <;> (injection hj with hj; rw [← hj]; intro h; cases h)
  obtain ⟨A1, c1, e1, hk1, hk2⟩ := hk
  obtain ⟨A2, c2, e2, hu1, hu2⟩ := hu
  have hk5 := hc5.at' hk1 fun hn b off e q => hk1.not_blk hn hz4 (fun j u hj => hno j u _ hj) b off e q
  have hu5 := hc5.at' hu1 fun hn b off e q => hu1.not_blk hn hz4 (fun j u hj => hno j u _ hj) b off e q
  exact ⟨hz5, ⟨_, _, rfl, ⟨A1, c1, e1, hk5, hk2⟩, ⟨A2, c2, e2, hu5, hu2⟩⟩, hb.trans (hc5.below hb.size fun k q => by have q : k = b0 := q; omega)⟩
theorem cm.rplace_any (e : CEnt) (w : World) (h : e.fit) : Calls Try.prog 32 #[.agg e.cells] w fun en w' => en = .returned (.bool (cm.place e.grp e.top e.part)) ∧ Below w.heap.size w w' := by
  obtain ⟨g, t, p, o⟩ := e
  have hcg := fun wx => cm.reftopic_any g wx h.1
  have hct := fun wx => cm.reftopic_any t wx h.2
  unfold cm.place CEnt.cells
  simp only
  obtain ⟨b1, hb1⟩ : ∃ b, b = cm.topic g := ⟨_, rfl⟩
  obtain ⟨b2, hb2⟩ : ∃ b, b = cm.topic t := ⟨_, rfl⟩
  rw [← hb1] at hcg ⊢
  rw [← hb2] at hct ⊢
  clear hb1 hb2 h
  obtain ⟨R, hR⟩ : ∃ R, R = (b1 && b2 && decide (0 ≤ p) && decide (p ≤ 999)) := ⟨_, rfl⟩
  rw [← hR]
  have HR := Lib.hid hR; clear hR
  have HG := Lib.hid hcg; have HT := Lib.hid hct
  clear hcg hct
  cases b1 with
  | false =>
    go_enter Try.func32, Try.ntmps32
    go_wp2_with fail
    refine (HG.out _).mono ?_
    rintro en wx ⟨rfl, h3⟩
    subst h3
    go_wp2_with fail
    go_ret
    exact ⟨by rw [HR.out]; rfl, (Below.refl w.heap.size w).alloc (Nat.le_refl _) _⟩
  | true =>
    cases b2 with
    | false =>
      go_enter Try.func32, Try.ntmps32
      go_wp2_with fail
      refine (HG.out _).mono ?_
      rintro en wx ⟨rfl, h3⟩
      subst h3
      go_wp2_with fail
      refine (HT.out _).mono ?_
      rintro en wx ⟨rfl, h3⟩
      subst h3
      go_wp2_with fail
      go_ret
      exact ⟨by rw [HR.out]; rfl, (Below.refl w.heap.size w).alloc (Nat.le_refl _) _⟩
    | true =>
      by_cases h1 : 0 ≤ p
      · have d1 : decide (0 ≤ p) = true := decide_eq_true h1
        by_cases h2 : p ≤ 999
        · have d2 : decide (p ≤ 999) = true := decide_eq_true h2
          go_enter Try.func32, Try.ntmps32
          go_wp2_with fail
          refine (HG.out _).mono ?_
          rintro en wx ⟨rfl, h3⟩
          subst h3
          go_wp2_with fail
          refine (HT.out _).mono ?_
          rintro en wx ⟨rfl, h3⟩
          subst h3
          go_wp2_with fail
          go_ret
          exact ⟨by rw [HR.out, decide_eq_true (p := 0 ≤ p) (by omega), decide_eq_true (p := p ≤ 999) (by omega)]; rfl, (Below.refl w.heap.size w).alloc (Nat.le_refl _) _⟩
        · have d2 : decide (p ≤ 999) = false := decide_eq_false h2
          go_enter Try.func32, Try.ntmps32
          go_wp2_with fail
          refine (HG.out _).mono ?_
          rintro en wx ⟨rfl, h3⟩
          subst h3
          go_wp2_with fail
          refine (HT.out _).mono ?_
          rintro en wx ⟨rfl, h3⟩
          subst h3
          go_wp2_with fail
          go_ret
          exact ⟨by rw [HR.out, decide_eq_true (p := 0 ≤ p) (by omega), decide_eq_false (p := p ≤ 999) (by omega)]; rfl, (Below.refl w.heap.size w).alloc (Nat.le_refl _) _⟩
      · have d1 : decide (0 ≤ p) = false := decide_eq_false h1
        go_enter Try.func32, Try.ntmps32
        go_wp2_with fail
        refine (HG.out _).mono ?_
        rintro en wx ⟨rfl, h3⟩
        subst h3
        go_wp2_with fail
        refine (HT.out _).mono ?_
        rintro en wx ⟨rfl, h3⟩
        subst h3
        go_wp2_with fail
        go_ret
        exact ⟨by rw [HR.out, decide_eq_false (p := 0 ≤ p) (by omega)]; rfl, (Below.refl w.heap.size w).alloc (Nat.le_refl _) _⟩
theorem cm.info_rent : (Try.prog.info? 24).map (·.size) = some 4 := by kernel_rfl
set_option maxHeartbeats 4000000 in
theorem cm.rrecord_any (e : CEnt) (now : Int) (w : World) (h : e.fit) : Calls Try.prog 24 #[.agg e.cells, .int .i64 now] w (cm.recPost w (if e.may now = true then e.told now else cm.zero) (if e.may now = true then 0 else 1)) := by
  have hck := fun wx => cm.rplace_any e wx h
  obtain ⟨R, hR⟩ : ∃ R : Int, R = if e.may now = true then 0 else 1 := ⟨_, rfl⟩
  obtain ⟨X, hX⟩ : ∃ X : Rec, X = if e.may now = true then e.told now else cm.zero := ⟨_, rfl⟩
  rw [← hR, ← hX]
  have hno : e.may now = false → R = 1 ∧ X = cm.zero := fun h => by rw [h] at hR hX; exact ⟨hR, hX⟩
  have hyes : e.may now = true → R = 0 ∧ X = e.told now := fun h => by rw [h] at hR hX; exact ⟨hR, hX⟩
  have hmay : e.may now = (cm.place e.grp e.top e.part && decide (0 ≤ e.off) && decide (e.off ≤ 4611686018427387904) && (decide (0 ≤ now) && decide (now ≤ 1125899906842624))) := rfl
  have hfacts := fun (h0 : e.may now = true) => CEnt.ok_place (e := e) (by unfold CEnt.may at h0; simp only [Bool.and_eq_true] at h0; exact h0.1)
  clear hR hX h
  obtain ⟨b, hb⟩ : ∃ b, b = cm.place e.grp e.top e.part := ⟨_, rfl⟩
  rw [← hb] at hck hmay
  clear hb
  obtain ⟨g, t, p, o⟩ := e
  unfold CEnt.cells at hck ⊢
  simp only at hck hmay
  obtain ⟨b0, hb0⟩ : ∃ b, b = w.heap.size := ⟨_, rfl⟩
  obtain ⟨w1, hw1⟩ : ∃ w1, w1 = (w.alloc (.cells #[.string g, .string t, .int .i64 p, .int .i64 o] 24)).alloc (.cells #[.int .i64 0, .int .i64 0, .bool false, .slice none 0 0, .bool false, .slice none 0 0] 37) := ⟨_, rfl⟩
  have hk1 : Blk w1 b0 24 #[.string g, .string t, .int .i64 p, .int .i64 o] := by rw [hw1, hb0]; exact (Chg.alloc _ _ (fun _ => False)).blk (Blk.new _ _ _) fun q => q
  have hz1 : Blk w1 (b0 + 1) 37 #[.int .i64 0, .int .i64 0, .bool false, .slice none 0 0, .bool false, .slice none 0 0] := by rw [hw1, hb0]; exact heap_alloc2_new w _ _
  have hb1 : Below w.heap.size w w1 := by rw [hw1]; exact ((Below.refl _ _).alloc (Nat.le_refl _) _).alloc (by simp) _
  have HM := Lib.hid (And.intro hno (And.intro hyes (And.intro hmay hfacts))); clear hno hyes hmay hfacts
  have H := Lib.hid (And.intro hck (And.intro hk1 (And.intro hz1 (And.intro hb1 hb0)))); clear hck hk1 hz1 hb1
  go_enter Try.func24, Try.ntmps24
  go_upto_region 1 with fail
  rw [← hw1, ← hb0]
  clear hw1 hb0
  go_wp2_with (first
    | (show Go.wpList _ _ _ (⟨_, .load _ (.tmp 2), _, _, _, _⟩ :: _) _ _; refine wpList_load_row rfl 24 (.tmp 2) rfl b0 rfl 24 #[.string g, .string t, .int .i64 p, .int .i64 o] (0, 0) _ H.out.2.1 Try.underlying24 rfl cm.info_rent ?_)
    | fail)
  refine (H.out.1 w1).mono ?_
  rintro en w2 ⟨rfl, h2⟩
  have hc2 : Chg w1 w2 (fun _ => False) := chg_of h2
  have hk2 := hc2.blk H.out.2.1 fun q => q
  have hz2 := hc2.blk H.out.2.2.1 fun q => q
  have hb2 := H.out.2.2.2.1.trans (h2.mono H.out.2.2.2.1.size)
  have c3 := hk2.cell 3 (v := .int .i64 o) rfl
  have cl := hk2.lt
  have H2 := Lib.hid (And.intro hk2 (And.intro hz2 (And.intro hb2 H.out.2.2.2.2))); clear hk2 hz2 hb2 hc2 h2
  clear H
  cases b with
  | false =>
    have HX := Lib.hid (HM.out.1 (by rw [HM.out.2.2.1, Bool.false_and, Bool.false_and, Bool.false_and]))
    go_wp2_with (refine wpList_store_row rfl 37 (.tmp 4) (.tmp 28) rfl (b0 + 1) #[.int .i64 0, .int .i64 0, .bool false, .slice none 0 0, .bool false, .slice none 0 0] rfl rfl 37 _ H2.out.2.1 cm.info_rec rfl (by simp [Value.oneCell']) ?_)
    have hz3 := H2.out.2.1.row #[.int .i64 0, .int .i64 0, .bool false, .slice none 0 0, .bool false, .slice none 0 0]
    have hb3 := H2.out.2.2.1.trans ((Chg.setRow w2 (b0 + 1) #[.int .i64 0, .int .i64 0, .bool false, .slice none 0 0, .bool false, .slice none 0 0]).below H2.out.2.2.1.size fun k hk => by have hk : k = b0 + 1 := hk; have := H2.out.2.2.2; omega)
    refine bodyPost_ret (res_cell2 rfl _ _ (b0 + 1) _ _ rfl hz3 Try.underlying37 rfl cm.info_rec) rfl ?_
    refine ⟨⟨_, by rw [HX.out.1]; rfl, ?_⟩, hb3⟩
    rw [HX.out.2]
    exact cm.zero_v _
  | true =>
    by_cases q0 : o < 0
    · have d0 : decide (o < 0) = true := decide_eq_true q0
      have HX := Lib.hid (HM.out.1 (by rw [HM.out.2.2.1, decide_eq_false (p := 0 ≤ o) (by omega), Bool.and_false, Bool.false_and, Bool.false_and]))
      go_wp2_with (refine wpList_store_row rfl 37 (.tmp 4) (.tmp 28) rfl (b0 + 1) #[.int .i64 0, .int .i64 0, .bool false, .slice none 0 0, .bool false, .slice none 0 0] rfl rfl 37 _ H2.out.2.1 cm.info_rec rfl (by simp [Value.oneCell']) ?_)
      have hz3 := H2.out.2.1.row #[.int .i64 0, .int .i64 0, .bool false, .slice none 0 0, .bool false, .slice none 0 0]
      have hb3 := H2.out.2.2.1.trans ((Chg.setRow w2 (b0 + 1) #[.int .i64 0, .int .i64 0, .bool false, .slice none 0 0, .bool false, .slice none 0 0]).below H2.out.2.2.1.size fun k hk => by have hk : k = b0 + 1 := hk; have := H2.out.2.2.2; omega)
      refine bodyPost_ret (res_cell2 rfl _ _ (b0 + 1) _ _ rfl hz3 Try.underlying37 rfl cm.info_rec) rfl ?_
      refine ⟨⟨_, by rw [HX.out.1]; rfl, ?_⟩, hb3⟩
      rw [HX.out.2]
      exact cm.zero_v _
    have d0 : decide (o < 0) = false := decide_eq_false q0
    by_cases q1 : 4611686018427387904 < o
    · have d1 : decide (4611686018427387904 < o) = true := decide_eq_true q1
      have HX := Lib.hid (HM.out.1 (by rw [HM.out.2.2.1, decide_eq_false (p := o ≤ 4611686018427387904) (by omega), Bool.and_false, Bool.false_and]))
      go_wp2_with (refine wpList_store_row rfl 37 (.tmp 4) (.tmp 28) rfl (b0 + 1) #[.int .i64 0, .int .i64 0, .bool false, .slice none 0 0, .bool false, .slice none 0 0] rfl rfl 37 _ H2.out.2.1 cm.info_rec rfl (by simp [Value.oneCell']) ?_)
      have hz3 := H2.out.2.1.row #[.int .i64 0, .int .i64 0, .bool false, .slice none 0 0, .bool false, .slice none 0 0]
      have hb3 := H2.out.2.2.1.trans ((Chg.setRow w2 (b0 + 1) #[.int .i64 0, .int .i64 0, .bool false, .slice none 0 0, .bool false, .slice none 0 0]).below H2.out.2.2.1.size fun k hk => by have hk : k = b0 + 1 := hk; have := H2.out.2.2.2; omega)
      refine bodyPost_ret (res_cell2 rfl _ _ (b0 + 1) _ _ rfl hz3 Try.underlying37 rfl cm.info_rec) rfl ?_
      refine ⟨⟨_, by rw [HX.out.1]; rfl, ?_⟩, hb3⟩
      rw [HX.out.2]
      exact cm.zero_v _
    have d1 : decide (4611686018427387904 < o) = false := decide_eq_false q1
    by_cases q2 : now < 0
    · have d2 : decide (now < 0) = true := decide_eq_true q2
      have HX := Lib.hid (HM.out.1 (by rw [HM.out.2.2.1, decide_eq_false (p := 0 ≤ now) (by omega), Bool.false_and, Bool.and_false]))
      go_wp2_with (refine wpList_store_row rfl 37 (.tmp 4) (.tmp 28) rfl (b0 + 1) #[.int .i64 0, .int .i64 0, .bool false, .slice none 0 0, .bool false, .slice none 0 0] rfl rfl 37 _ H2.out.2.1 cm.info_rec rfl (by simp [Value.oneCell']) ?_)
      have hz3 := H2.out.2.1.row #[.int .i64 0, .int .i64 0, .bool false, .slice none 0 0, .bool false, .slice none 0 0]
      have hb3 := H2.out.2.2.1.trans ((Chg.setRow w2 (b0 + 1) #[.int .i64 0, .int .i64 0, .bool false, .slice none 0 0, .bool false, .slice none 0 0]).below H2.out.2.2.1.size fun k hk => by have hk : k = b0 + 1 := hk; have := H2.out.2.2.2; omega)
      refine bodyPost_ret (res_cell2 rfl _ _ (b0 + 1) _ _ rfl hz3 Try.underlying37 rfl cm.info_rec) rfl ?_
      refine ⟨⟨_, by rw [HX.out.1]; rfl, ?_⟩, hb3⟩
      rw [HX.out.2]
      exact cm.zero_v _
    have d2 : decide (now < 0) = false := decide_eq_false q2
    by_cases q3 : 1125899906842624 < now
    · have d3 : decide (1125899906842624 < now) = true := decide_eq_true q3
      have HX := Lib.hid (HM.out.1 (by rw [HM.out.2.2.1, decide_eq_false (p := now ≤ 1125899906842624) (by omega), Bool.and_false, Bool.and_false]))
      go_wp2_with (refine wpList_store_row rfl 37 (.tmp 4) (.tmp 28) rfl (b0 + 1) #[.int .i64 0, .int .i64 0, .bool false, .slice none 0 0, .bool false, .slice none 0 0] rfl rfl 37 _ H2.out.2.1 cm.info_rec rfl (by simp [Value.oneCell']) ?_)
      have hz3 := H2.out.2.1.row #[.int .i64 0, .int .i64 0, .bool false, .slice none 0 0, .bool false, .slice none 0 0]
      have hb3 := H2.out.2.2.1.trans ((Chg.setRow w2 (b0 + 1) #[.int .i64 0, .int .i64 0, .bool false, .slice none 0 0, .bool false, .slice none 0 0]).below H2.out.2.2.1.size fun k hk => by have hk : k = b0 + 1 := hk; have := H2.out.2.2.2; omega)
      refine bodyPost_ret (res_cell2 rfl _ _ (b0 + 1) _ _ rfl hz3 Try.underlying37 rfl cm.info_rec) rfl ?_
      refine ⟨⟨_, by rw [HX.out.1]; rfl, ?_⟩, hb3⟩
      rw [HX.out.2]
      exact cm.zero_v _
    have d3 : decide (1125899906842624 < now) = false := decide_eq_false q3
    have hm : CEnt.may ⟨g, t, p, o⟩ now = true := by rw [HM.out.2.2.1, decide_eq_true (p := 0 ≤ o) (by omega), decide_eq_true (p := o ≤ 4611686018427387904) (by omega), decide_eq_true (p := 0 ≤ now) (by omega), decide_eq_true (p := now ≤ 1125899906842624) (by omega)]; rfl
    have HX := Lib.hid (And.intro (HM.out.2.1 hm) (HM.out.2.2.2 hm)); clear hm
    clear HM
    go_upto_region 3 with fail
    clear d0 d1 d2 d3 q0 q1 q2 q3 c3 cl
    have hl : (cm.text ⟨#[111]⟩).length ≤ 11 ∧ (cm.text g).length ≤ 30 ∧ (cm.text t).length ≤ 30 ∧ (num.put p).length ≤ 10 := by
      have h1 := HX.out.2.1
      have h2 := HX.out.2.2.1
      have h3 := (cm.text_len g).2
      have h4 := (cm.text_len t).2
      have h5 := (num.put_bd p).2
      have h6 : (cm.text ⟨#[111]⟩).length ≤ 11 := (cm.text_len ⟨#[111]⟩).2
      omega
    have hT0 := fun wx => cm.acc_text ⟨#[111]⟩ wx (by decide)
    have hT1 := fun wx => cm.acc_text g wx (by have := HX.out.2.1; omega)
    have hT2 := fun wx => cm.acc_text t wx (by have := HX.out.2.2.1; omega)
    have hT3 := fun wx => cm.acc_put p wx (by have := HX.out.2.2.2.1; omega) (by have := HX.out.2.2.2.2.1; omega)
    have hT4 := fun wx => cm.acc_put o wx (by have := HX.out.2.2.2.2.2.1; omega) (by have := HX.out.2.2.2.2.2.2; omega)
    have hkk : CEnt.key ⟨g, t, p, o⟩ = cm.text ⟨#[111]⟩ ++ cm.text g ++ cm.text t ++ num.put p := rfl
    have hkb : ∀ x ∈ CEnt.key ⟨g, t, p, o⟩, x < 256 := CEnt.key_byte (e := ⟨g, t, p, o⟩) (show g.size ≤ 100 by have := HX.out.2.1; omega) (show t.size ≤ 100 by have := HX.out.2.2.1; omega) (show -9223372036854775808 ≤ p by have := HX.out.2.2.2.1; omega) (show p ≤ 9223372036854775807 by have := HX.out.2.2.2.2.1; omega)
    have hvb : ∀ x ∈ num.put o, x < 256 := num.put_byte o (by have := HX.out.2.2.2.2.2.1; omega) (by have := HX.out.2.2.2.2.2.2; omega)
    have hRX : R = 0 ∧ X = ⟨0, now, true, CEnt.key ⟨g, t, p, o⟩, true, num.put o⟩ := HX.out.1
    clear HX
    obtain ⟨K, hK⟩ : ∃ K, K = CEnt.key ⟨g, t, p, o⟩ := ⟨_, rfl⟩
    rw [← hK] at hkk hkb hRX
    clear hK
    obtain ⟨x0, hx0⟩ : ∃ x, x = cm.text ⟨#[111]⟩ := ⟨_, rfl⟩
    obtain ⟨x1, hx1⟩ : ∃ x, x = cm.text g := ⟨_, rfl⟩
    obtain ⟨x2, hx2⟩ : ∃ x, x = cm.text t := ⟨_, rfl⟩
    obtain ⟨x3, hx3⟩ : ∃ x, x = num.put p := ⟨_, rfl⟩
    obtain ⟨x4, hx4⟩ : ∃ x, x = num.put o := ⟨_, rfl⟩
    rw [← hx0] at hl hkk hT0
    rw [← hx1] at hl hkk hT1
    rw [← hx2] at hl hkk hT2
    rw [← hx3] at hl hkk hT3
    rw [← hx4] at hvb hT4 hRX
    have HT := Lib.hid (And.intro hT0 (And.intro hT1 (And.intro hT2 (And.intro hT3 hT4))))
    have HL := Lib.hid (And.intro hl (And.intro hkk (And.intro hkb (And.intro hvb hRX))))
    clear hl hT0 hT1 hT2 hT3 hT4 hkk hkb hvb hRX hx0 hx1 hx2 hx3 hx4
    have hkd : ∀ x : Later w2 (fun _ => False), Blk x.1 b0 24 #[.string g, .string t, .int .i64 p, .int .i64 o] := fun x => x.2.blk H2.out.1 fun q => q
    have z0 : ∀ x : Later w2 (fun _ => False), x.1.cell? ⟨b0, 0, none⟩ = some (.string g) := fun x => (hkd x).cell 0 rfl
    have z1 : ∀ x : Later w2 (fun _ => False), x.1.cell? ⟨b0, 1, none⟩ = some (.string t) := fun x => (hkd x).cell 1 rfl
    have z2 : ∀ x : Later w2 (fun _ => False), x.1.cell? ⟨b0, 2, none⟩ = some (.int .i64 p) := fun x => (hkd x).cell 2 rfl
    have HKD := Lib.hid hkd; clear hkd
    have hS0 : later w2 (fun _ => False) w2.drew := later_of ((Chg.refl _ _).drew)
    obtain ⟨wd, hwd⟩ : ∃ wd, wd = w2.drew := ⟨_, rfl⟩
    have hcd : Chg w2 wd (fun _ => False) := by rw [hwd]; exact (Chg.refl _ _).drew
    have HD := Lib.hid hcd
    refine wp_plan (S := fun w0 => ∃ x : Later w2 (fun _ => False), w0 = x.1) (by kernel_rfl) hS0 ?_
    intro hS' K5 hK5
    have HS := Lib.hid hS'; clear hS' hS0
    rw [← hwd] at HS ⊢
    clear hwd hcd
    refine plan_group [false, true, true, false, false, true, true, false, false, true, true] [1, 2, 5, 6, 9, 10] 8 (by dsimp only [sel]) (by rfl) rfl (by kernel_rfl) (by kernel_rfl) HS.out ?_
    (repeat go_big_quiet_step (fail)); refine wpQuiet_nil ?_
    clear z0 z1 z2
    have hlt : ∀ (v : Value) (L : List Nat) (wx : World), Acc wd v L wx → later w2 (fun _ => False) wx := fun _ _ _ h => later_of (HD.out.trans (chg_of h.2) fun _ _ q => q)
    have HLT := Lib.hid hlt; clear hlt
    refine plan_one [true] 0 7 (by dsimp only [sel]) (by rfl) rfl (by kernel_rfl) ?_; intro K0 hK0
    go_wp2_with fail
    refine (HT.out.1 wd).mono ?_
    rintro en t0 ⟨A0, m0, c0, rfl, h0, -, -⟩
    have hq := HLT.out _ _ _ h0
    have A0' := Lib.hid h0; clear h0
    go_wp2_with fail
    refine ⟨by first | exact hq | exact fun _ => hq, ?_⟩
    clear hq
    refine plan_one [false, false, false, true] 3 6 (by dsimp only [sel]) (by rfl) rfl (by kernel_rfl) ?_; intro K1 hK1
    go_wp2_with fail
    refine (HT.out.2.1 t0).mono ?_
    rintro en t1 ⟨A1, m1, c1, rfl, h1, hm1, hat1⟩
    have hA := A0'.out.keep h1.2
    have hq := HLT.out _ _ _ hA
    have B1 := Lib.hid (And.intro hA (And.intro hm1 hat1)); clear hA hm1 hat1 h1
    go_wp2_with fail
    refine ⟨by first | exact hq | exact fun _ => hq, ?_⟩
    clear hq A0'
    refine plan_one [false, false, false, false, true] 4 5 (by dsimp only [sel]) (by rfl) rfl (by kernel_rfl) ?_; intro K2 hK2
    go_wp2_with (refine wpList_acc rfl (.tmp 29) (.tmp 32) rfl (.slice A0 m0 c0) x0 rfl B1.out.1 A1 m1 c1 x1 rfl B1.out.2.1.symm B1.out.2.2 (by have := HL.out.1; omega) ?_; intro v2 t2 h2; obtain ⟨A2, c2, rfl, -, -⟩ := h2.at'; obtain ⟨m2, hm2⟩ : ∃ m, m = (x0 ++ x1).length := ⟨_, rfl⟩; rw [← hm2] at h2 ⊢; clear hm2; have hq := HLT.out _ _ _ h2; have B2 := Lib.hid h2; clear h2)
    refine ⟨by first | exact hq | exact fun _ => hq, ?_⟩
    clear hq B1
    refine plan_one [false, false, false, false, false, false, false, true] 7 4 (by dsimp only [sel]) (by rfl) rfl (by kernel_rfl) ?_; intro K3 hK3
    go_wp2_with fail
    refine (HT.out.2.2.1 t2).mono ?_
    rintro en t3 ⟨A3, m3, c3, rfl, h3, hm3, hat3⟩
    have hA := B2.out.keep h3.2
    have hq := HLT.out _ _ _ hA
    have B3 := Lib.hid (And.intro hA (And.intro hm3 hat3)); clear hA hm3 hat3 h3
    go_wp2_with fail
    refine ⟨by first | exact hq | exact fun _ => hq, ?_⟩
    clear hq B2
    refine plan_one [false, false, false, false, false, false, false, false, true] 8 3 (by dsimp only [sel]) (by rfl) rfl (by kernel_rfl) ?_; intro K4 hK4
    go_wp2_with (refine wpList_acc rfl (.tmp 33) (.tmp 36) rfl (.slice A2 m2 c2) (x0 ++ x1) rfl B3.out.1 A3 m3 c3 x2 rfl B3.out.2.1.symm B3.out.2.2 (by have := HL.out.1; rw [List.length_append]; omega) ?_; intro v4 t4 h4; obtain ⟨A4, c4, rfl, -, -⟩ := h4.at'; obtain ⟨m4, hm4⟩ : ∃ m, m = (x0 ++ x1 ++ x2).length := ⟨_, rfl⟩; rw [← hm4] at h4 ⊢; clear hm4; have hq := HLT.out _ _ _ h4; have B4 := Lib.hid h4; clear h4)
    refine ⟨by first | exact hq | exact fun _ => hq, ?_⟩
    clear hq B3
    refine plan_one [false, false, false, false, false, false, false, false, false, false, false, true] 11 2 (by dsimp only [sel]) (by rfl) rfl (by kernel_rfl) ?_; intro K5' hK5'
    go_wp2_with fail
    refine (HT.out.2.2.2.1 t4).mono ?_
    rintro en t5 ⟨A5, m5, c5, rfl, h5, hm5, hat5⟩
    have hA := B4.out.keep h5.2
    have hq := HLT.out _ _ _ hA
    have B5 := Lib.hid (And.intro hA (And.intro hm5 hat5)); clear hA hm5 hat5 h5
    go_wp2_with fail
    refine ⟨by first | exact hq | exact fun _ => hq, ?_⟩
    clear hq B4
    refine plan_one [false, false, false, false, false, false, false, false, false, false, false, false, true] 12 1 (by dsimp only [sel]) (by rfl) rfl (by kernel_rfl) ?_; intro K6 hK6
    go_wp2_with (refine wpList_acc rfl (.tmp 37) (.tmp 40) rfl (.slice A4 m4 c4) (x0 ++ x1 ++ x2) rfl B5.out.1 A5 m5 c5 x3 rfl B5.out.2.1.symm B5.out.2.2 (by have := HL.out.1; rw [List.length_append, List.length_append]; omega) ?_; intro v6 t6 h6; rw [← HL.out.2.1] at h6; obtain ⟨A6, c6, rfl, -, -⟩ := h6.at'; obtain ⟨m6, hm6⟩ : ∃ m, m = K.length := ⟨_, rfl⟩; rw [← hm6] at h6 ⊢; have hq := HLT.out _ _ _ h6; have B6 := Lib.hid (And.intro h6 hm6); clear h6 hm6)
    refine ⟨by first | exact hq | exact fun _ => hq, ?_⟩
    clear B5
    refine plan_group [false, false, false, false, false, false, false, false, false, false, false, false, false, true] [13] 0 (by dsimp only [sel]) (by rfl) rfl (by kernel_rfl) (by kernel_rfl) hq ?_
    clear hq
    go_simp
    (repeat go_big_quiet_step (fail)); refine wpQuiet_nil ?_
    refine wp_plan_end (by kernel_rfl) ?_
    refine hK5 _ _ ?_
    clear HS
    have hc6 : Chg w2 t6 (fun _ => False) := HD.out.trans (chg_of B6.out.1.2) fun _ _ q => q
    have hk6 := hc6.blk H2.out.1 fun q => q
    have c3 := hk6.cell 3 (v := .int .i64 o) rfl
    have cl := hk6.lt
    have HC6 := Lib.hid hc6; clear hc6 hk6
    go_wp2_with fail
    refine (HT.out.2.2.2.2 t6).mono ?_
    rintro en w4 ⟨Au, nu, cu, rfl, h4, hnu, hu⟩
    have hk := (B6.out.1.keep h4.2).at'
    obtain ⟨A6', c6', e6, hkc, hk⟩ := hk
    obtain ⟨rfl, rfl⟩ : A6 = A6' ∧ c6 = c6' := by injection e6 with q1 q2 q3; exact ⟨q1, q3⟩
    have hbk := cm.acc_bv (B6.out.1.keep h4.2) HL.out.2.2.1
    have hbu := cm.acc_bv h4 HL.out.2.2.2.1
    have hc4 : Chg w2 w4 (fun _ => False) := HC6.out.trans (chg_of h4.2) fun _ _ q => q
    have hz4 := hc4.blk H2.out.2.1 fun q => q
    have hb4 := H2.out.2.2.1.trans (hc4.below H2.out.2.2.1.size fun _ q => q.elim)
    have H4 := Lib.hid (And.intro hbk (And.intro hbu (And.intro hb4 (And.intro hz4 (And.intro hk hu))))); clear hk hu hb4 hz4 hbk hbu hc4 h4 e6 c3 cl hkc hnu
    go_wp2_with (refine wpList_store_row rfl 37 (.tmp 4) (.tmp 47) rfl (b0 + 1) #[.int .i64 0, .int .i64 now, .bool true, .slice A6 m6 c6, .bool true, .slice Au nu cu] rfl rfl 37 _ H4.out.2.2.2.1 cm.info_rec rfl (by simp [Value.oneCell']) ?_)
    have hfin := cm.rec_end (b0 := b0 + 1) (w := w) (X := X) H4.out.2.2.2.1 H4.out.1 H4.out.2.1 H4.out.2.2.1 (by have := H2.out.2.2.2; omega) 0 now true true HL.out.2.2.2.2.2
    refine bodyPost_ret (res_cell2 rfl _ _ (b0 + 1) _ _ rfl hfin.1 Try.underlying37 rfl cm.info_rec) rfl ?_
    exact ⟨⟨_, by rw [HL.out.2.2.2.2.1]; rfl, hfin.2.1⟩, hfin.2.2⟩
end Go.Proofs.Ytkkpbnhagobhmaa

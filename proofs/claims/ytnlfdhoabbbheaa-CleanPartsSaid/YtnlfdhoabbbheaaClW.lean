/- The law CleanParts (cordwainlaw14): it answers true, whatever the input. -/
import Derived.Test.YtnlfdhoabbbheaaClQ
import Derived.Test.YtnlfdhoabbbheaaClR
import Derived.Test.YtnlfdhoabbbheaaClH
import Derived.Test.YtnlfdhoabbbheaaClD
import Derived.Test.YtnlfdhoabbbheaaCrX
import Derived.Test.YtnlfdhoabbbheaaSbT
import Derived.Test.YtnlfdhoabbbheaaOpenS
import Derived.BigQuiet
namespace Go.Proofs.Ytnlfdhoabbbheaa
open Go.ChangeShapes Go.WideShapes Go.ChangeAt Go.RowKit Go.Maps
set_option maxRecDepth 100000

theorem open_rec {H : Type} {enc : TypeId × Value → H} {W : World} {base : Nat} {v : Value} {d : DataW H} {p : List MemPlace}
    (hv : Value.okWide Try.prog W .any base 34 v) (h : DataW.Trod enc Try.prog W 0 (fun _ => true) true 34 v d p) (hlt : ∀ x ∈ p, x.block < W.heap.size) :
    ∃ (r : Rec) (Ak : Option Addr) (kk : Nat) (Av : Option Addr) (kv : Nat), v = .agg #[.int .i64 r.off, .int .i64 r.time, .bool r.hasKey, .slice Ak r.key.length kk, .bool r.hasVal, .slice Av r.val.length kv] ∧ (BytesV W (.slice Ak r.key.length kk) r.key ∧ BytesV W (.slice Av r.val.length kv) r.val ∧ i64ok r.off ∧ i64ok r.time) := by
  obtain ⟨cs, rfl, hsz⟩ := okWide_struct Try.underlying34 hv
  obtain ⟨fuel, hf⟩ := h
  have hc : Value.cells (.agg cs) = cs := rfl
  rw [hc] at hf
  obtain ⟨r, k, u, h1, h2, h3, h4, h5⟩ := rec_of_trod hf hlt
  have h2' := h2
  have h3' := h3
  obtain ⟨Ak, kk, rfl, -⟩ := h2
  obtain ⟨Av, kv, rfl, -⟩ := h3
  refine ⟨r, Ak, kk, Av, kv, ?_, h2', h3', h4, h5⟩
  congr 1
  apply Array.toList_inj.1
  rw [h1]
/-- One batch of a slice, as a slice of its own. -/
theorem BatsAt.one {w : World} {b off : Nat} {bs : List Bat} (h : BatsAt w (some ⟨b, off, none⟩) bs) {i : Nat} {x : Bat} (hx : bs[i]? = some x) : BatsAt w (some ⟨b, off + i * 6, none⟩) [x] := by
  obtain ⟨V, h1, h2⟩ := h
  have hi := (List.getElem?_eq_some_iff.1 hx).1
  refine ⟨fun j => V (i * 6 + j), fun _ => ?_, fun k y hy => ?_⟩
  · obtain ⟨b', off', e1, e2, e3⟩ := h1 (by omega)
    obtain ⟨rfl, rfl⟩ : b = b' ∧ off = off' := by simpa using e1
    refine ⟨b, off + i * 6, rfl, e2, fun j hj => ?_⟩
    simp only [List.length_singleton] at hj
    rw [Nat.add_assoc]
    exact e3 _ (by omega)
  · match k, hy with
    | 0, hy =>
      obtain rfl : x = y := by simpa using hy
      have h3 := h2 i x hx
      rw [show cellsAt (fun j => V (i * 6 + j)) 0 6 = cellsAt V i 6 from cellsAt_congr fun k _ => by simp]
      exact h3
    | k + 1, hy => simp at hy
theorem cw.segs {w : World} {A : Option Addr} {n c : Nat} {bs : List Bat} {T : TypeId} (hn : bs.length = n) (hc : n ≤ c ∧ c ≤ maxLen) (h : BatsAt w A bs) : cl.SegsAt (w.alloc (.cells #[.slice A n c] T)) (some ⟨w.heap.size, 0, none⟩) [bs] := by
  refine ⟨fun _ => .slice A n c, At.one w _ _, fun i b hi => ?_⟩
  match i, hi with
  | 0, hi =>
    obtain rfl : bs = b := by simpa using hi
    exact ⟨A, c, by rw [hn], by omega, hc.2, h.below ((Below.refl _ _).alloc (Nat.le_refl _) _) (Nat.le_refl _)⟩
  | i + 1, hi => simp at hi

/-- The sum of two lengths, held at a limit. -/
theorem cw.sum_any (n v : Nat) (A : Option Addr) (w : World) (hn : n ≤ 9223372036854775807) (hv : v ≤ 9223372036854775807) (hat : At w A 1 (fun _ => .int .i64 (v : Int))) :
    Calls Try.prog 13 #[.int .i64 (n : Int), .slice A 1 1] w fun e w' => ∃ S : Int, e = .returned (.int .i64 S) ∧ (S ≤ 1000 → n ≤ 1000) ∧ w = w' := by
  by_cases hb : (n : Int) ≤ 1099511627776
  · refine (alike.sum_any (n : Int) A 1 1 [(v : Int)] w (by omega) hb (by omega) rfl (hat.congr fun q hq => by
      obtain rfl : q = 0 := by omega
      rfl) (by intro q hq; simp only [List.mem_cons, List.not_mem_nil, or_false] at hq; omega)).mono ?_
    rintro e w' ⟨rfl, rfl⟩
    refine ⟨_, rfl, fun h => ?_, rfl⟩
    have hs : alike.sum (n : Int) [(v : Int)] = min ((n : Int) + v) 1099511627776 := by unfold alike.sum; simp
    rw [hs] at h
    omega
  · obtain ⟨b, off, rfl, hbb, hc⟩ := hat (by omega)
    have hc0 : w.cell? ⟨b, off, none⟩ = some (.int .i64 (v : Int)) := hc 0 (by omega)
    clear hat hc
    have hbig : (1099511627776 : Int) < (n : Int) := by omega
    obtain ⟨N, hN⟩ : ∃ N : Int, N = (n : Int) := ⟨_, rfl⟩
    rw [← hN] at hbig hb ⊢
    have HN := Lib.hid hN; clear hN
    go_enter Try.func13, Try.ntmps13
    go_wp2
    go_loop [0, 5] (fun x i => i = .int .i64 0 ∧ x = .int .i64 N) (fun _ _ => 0)
    case atStart => exact ⟨rfl, rfl⟩
    case round =>
      obtain ⟨rfl, rfl⟩ := hrel
      go_wp2
      go_ret
      exact ⟨_, rfl, fun h => absurd h (by decide), rfl⟩

set_option maxHeartbeats 16000000 in
theorem law14.parts (A : Option Addr) (n c : Nat) (bs : List Bat) (f most upto now grace : Int) (r : Rec) (Ak : Option Addr) (kk : Nat) (Av : Option Addr) (kv : Nat) (w : World) (hcm : bs.length = n ∧ n ≤ c ∧ c ≤ maxLen) (hbs : BatsAt w A bs) (hrb : BytesV w (.slice Ak r.key.length kk) r.key ∧ BytesV w (.slice Av r.val.length kv) r.val ∧ i64ok r.off ∧ i64ok r.time) :
    Calls Try.prog 4 #[.slice A n c, .int .i64 f, .int .i64 most, .int .i64 upto, .int .i64 now, .int .i64 grace, .agg #[.int .i64 r.off, .int .i64 r.time, .bool r.hasKey, .slice Ak r.key.length kk, .bool r.hasVal, .slice Av r.val.length kv]] w fun e w' => e = .returned (.bool true) ∧ Below w.heap.size w w' := by
  obtain ⟨hn, hnc, hcm⟩ := hcm
  obtain ⟨⟨Ak', kk', hke, hka, hkl, hkm, -⟩, ⟨Av', kv', hve, -, hvl, hvm, -⟩, -, -⟩ := hrb
  obtain ⟨rfl, rfl⟩ : Ak = Ak' ∧ kk = kk' := by simpa using hke
  obtain ⟨rfl, rfl⟩ : Av = Av' ∧ kv = kv' := by simpa using hve
  clear hke hve
  have HBS := Lib.hid hbs; clear hbs
  have HKA := Lib.hid hka; clear hka
  have HAW := Lib.hid (fun wx => law14.awake_any wx)
  obtain ⟨g, hg⟩ : ∃ g, g = w.heap.size := ⟨_, rfl⟩
  obtain ⟨w1, hw1⟩ : ∃ w1, w1 = w.alloc (.cells #[.int .i64 r.off, .int .i64 r.time, .bool r.hasKey, .slice Ak r.key.length kk, .bool r.hasVal, .slice Av r.val.length kv] 34) := ⟨_, rfl⟩
  have hk1 : Blk w1 g 34 #[.int .i64 r.off, .int .i64 r.time, .bool r.hasKey, .slice Ak r.key.length kk, .bool r.hasVal, .slice Av r.val.length kv] := by rw [hw1, hg]; exact Blk.new _ _ _
  have hb1 : Below w.heap.size w w1 := by rw [hw1]; exact (Below.refl _ _).alloc (Nat.le_refl _) _
  obtain ⟨w2, hw2⟩ : ∃ w2, w2 = w1.alloc (.cells #[.slice A n c] 31) := ⟨_, rfl⟩
  have hb2 : Below w1.heap.size w1 w2 := by rw [hw2]; exact (Below.refl _ _).alloc (Nat.le_refl _) _
  have hmay := law14.may_any (some ⟨w1.heap.size, 0, none⟩) 1 1 [bs] w2 (by rw [hw2]; exact cw.segs hn ⟨hnc, hcm⟩ (HBS.out.below hb1 (Nat.le_refl _))) rfl (by unfold maxLen; omega)
  have hk2 : Blk w2 g 34 #[.int .i64 r.off, .int .i64 r.time, .bool r.hasKey, .slice Ak r.key.length kk, .bool r.hasVal, .slice Av r.val.length kv] := (hb2.block g hk1.lt).trans hk1
  have H2 := Lib.hid (And.intro hk2 (hb1.trans (hb2.mono hb1.size))); clear hk1 hb1 hk2 hb2
  have HW := Lib.hid (And.intro hg (And.intro hw1 hw2)); clear hg hw1 hw2
  have HMAY := Lib.hid hmay; clear hmay
  have HN := Lib.hid hn; clear hn
  unfold maxLen at hcm hkm hvm
  have hkk : r.key.length ≤ 9223372036854775807 := by omega
  have hvv : r.val.length ≤ 9223372036854775807 := by omega
  obtain ⟨lk, hlk⟩ : ∃ lk, lk = r.key.length := ⟨_, rfl⟩
  obtain ⟨lv, hlv⟩ : ∃ lv, lv = r.val.length := ⟨_, rfl⟩
  rw [← hlk] at H2 HW hkl hkk HKA ⊢
  rw [← hlv] at H2 HW hvl hvv ⊢
  have HLK := Lib.hid hlk; clear hlk hlv
  go_enter Try.func4, Try.ntmps4
  go_upto_region 1 with fail
  rw [← HW.out.2.1, ← HW.out.1]
  go_wp2_with fail
  rw [← HW.out.2.2]
  refine HMAY.out.mono ?_
  rintro e w3 ⟨⟨b, rfl, hm⟩, hb3⟩
  have HM := Lib.hid hm; clear hm HMAY HW
  have HB3 := Lib.hid (And.intro (H2.out.2.trans (hb3.mono H2.out.2.size)) ((chg_of (P := fun _ => False) hb3).blk H2.out.1 id)); clear hb3 H2
  have f1 := HB3.out.2.cell 1 (v := .int .i64 r.time) rfl
  have f3 := HB3.out.2.cell 3 (v := .slice Ak lk kk) rfl
  have f5 := HB3.out.2.cell 5 (v := .slice Av lv kv) rfl
  have hgw := HB3.out.2.lt
  by_cases hbad : b = false ∨ (b = true ∧ now < 0) ∨ (b = true ∧ ¬ now < 0 ∧ 1125899906842624 < now) ∨ (b = true ∧ ¬ now < 0 ∧ ¬ 1125899906842624 < now ∧ grace < 0) ∨ (b = true ∧ ¬ now < 0 ∧ ¬ 1125899906842624 < now ∧ ¬ grace < 0 ∧ 1125899906842624 < grace) ∨
      (b = true ∧ ¬ now < 0 ∧ ¬ 1125899906842624 < now ∧ ¬ grace < 0 ∧ ¬ 1125899906842624 < grace ∧ r.time < 0) ∨ (b = true ∧ ¬ now < 0 ∧ ¬ 1125899906842624 < now ∧ ¬ grace < 0 ∧ ¬ 1125899906842624 < grace ∧ ¬ r.time < 0 ∧ 1125899906842624 < r.time)
  · as_aux_lemma =>
      rcases hbad with rfl | ⟨rfl, h1⟩ | ⟨rfl, h1, h2⟩ | ⟨rfl, h1, h2, h3⟩ | ⟨rfl, h1, h2, h3, h4⟩ | ⟨rfl, h1, h2, h3, h4, h5⟩ | ⟨rfl, h1, h2, h3, h4, h5, h6⟩
      all_goals
        go_wp2_with fail
        refine (HAW.out w3).mono ?_
        rintro e w4 ⟨rfl, hb4⟩
        have HB4 := Lib.hid (show Below w.heap.size w w4 from HB3.out.1.trans (hb4.mono HB3.out.1.size)); clear hb4
        go_wp2_with fail
        go_ret
        exact ⟨rfl, HB4.out⟩
  have hb : b = true := by
    cases b with
    | false => exact absurd (.inl rfl) hbad
    | true => rfl
  subst hb
  have HMY := Lib.hid (HM.out rfl)
  have h0 : ¬ now < 0 := fun h => hbad (.inr (.inl ⟨rfl, h⟩))
  have h1 : ¬ 1125899906842624 < now := fun h => hbad (.inr (.inr (.inl ⟨rfl, h0, h⟩)))
  have h2 : ¬ grace < 0 := fun h => hbad (.inr (.inr (.inr (.inl ⟨rfl, h0, h1, h⟩))))
  have h3 : ¬ 1125899906842624 < grace := fun h => hbad (.inr (.inr (.inr (.inr (.inl ⟨rfl, h0, h1, h2, h⟩)))))
  have h4 : ¬ r.time < 0 := fun h => hbad (.inr (.inr (.inr (.inr (.inr (.inl ⟨rfl, h0, h1, h2, h3, h⟩))))))
  have h5 : ¬ 1125899906842624 < r.time := fun h => hbad (.inr (.inr (.inr (.inr (.inr (.inr ⟨rfl, h0, h1, h2, h3, h4, h⟩))))))
  clear hbad
  go_wp2_with fail
  refine (cw.sum_any lk lv (some ⟨w3.heap.size, 0, none⟩) _ hkk hvv (At.one w3 (.int .i64 (lv : Int)) _)).mono ?_
  rintro e w' ⟨S, rfl, hS, rfl⟩
  obtain ⟨w4, hw4⟩ : ∃ w4, w4 = w3.alloc (.cells #[.int .i64 (lv : Int)] 3) := ⟨_, rfl⟩
  rw [← hw4]
  have hb34 : Below w3.heap.size w3 w4 := by rw [hw4]; exact (Below.refl _ _).alloc (Nat.le_refl _) _
  have HB4 := Lib.hid (And.intro (HB3.out.1.trans (hb34.mono HB3.out.1.size)) ((chg_of (P := fun _ => False) hb34).blk HB3.out.2 id)); clear hb34 hw4 HB3 f1 f3 f5 hgw
  by_cases hS1 : 1000 < S
  · clear hS
    go_wp2_with fail
    refine (HAW.out w4).mono ?_
    rintro e w5 ⟨rfl, hb5⟩
    have HB5 := Lib.hid (show Below w.heap.size w w5 from HB4.out.1.trans (hb5.mono HB4.out.1.size)); clear hb5
    go_wp2_with fail
    go_ret
    exact ⟨rfl, HB5.out⟩
  have hlk1 : lk ≤ 1000 := hS (by omega)
  have hM := HMY.out
  obtain ⟨hs1, hs2, hs3, hs4⟩ := cp.small hM.sum
  have hti := hM.times
  have hfl : [bs].flatten = bs := by simp
  rw [hfl] at hs1 hs2 hs3 hs4 hti
  rw [HN.out] at hs1
  obtain ⟨M, hMM⟩ : ∃ M, M = min (max most 1) 1000000 := ⟨_, rfl⟩
  have hkb := fun (wx : World) (hb : Below w.heap.size w wx) => kb.build_any A bs n c f most M wx (HBS.out.below hb (Nat.le_refl _)) HN.out (by omega) (fun b hb => ⟨(hs2.2 b hb).1, (hti b hb).1⟩) hMM
  have hrb := fun (wx : World) (hb : Below w.heap.size w wx) => rb.build_any A bs n c f most M wx (HBS.out.below hb (Nat.le_refl _)) HN.out (by omega) (fun b hb => (hti b hb).1) ⟨by omega, fun r hr => by have := (hs4 r hr).1; omega⟩ hMM
  unfold kb.Post at hkb
  unfold rb.Post at hrb
  generalize kb.go f M 0 (fun _ => none) f bs = R at *
  obtain ⟨N0, g0, U0⟩ := R
  dsimp only at hkb hrb
  have HKB := Lib.hid hkb; clear hkb
  have HRB := Lib.hid hrb; clear hrb
  have HSM := Lib.hid (And.intro hs2 (And.intro hti hs3)); clear hs2 hti hs3 hs4 hfl hM hMM hS HM HMY
  go_wp2_with fail
  refine (HKB.out w4 HB4.out.1).mono ?_
  rintro e w5 ⟨⟨p, b5, rfl, hkm5, -, -⟩, hb5⟩
  have HB5 := Lib.hid (And.intro (HB4.out.1.trans (hb5.mono HB4.out.1.size)) ((chg_of (P := fun _ => False) hb5).blk HB4.out.2 id)); clear hb5 HB4 HKB
  have HKM5 := Lib.hid hkm5; clear hkm5
  go_wp2_with fail
  refine (HRB.out w5 HB5.out.1).mono ?_
  rintro e w6 ⟨⟨q, l, rfl, hrm, his, -, hl10⟩, hb6⟩
  have HB6 := Lib.hid (And.intro (HB5.out.1.trans (hb6.mono HB5.out.1.size)) ((chg_of (P := fun _ => False) hb6).blk HB5.out.2 id))
  have hkm6 := HKM5.out.keep hb6
  have hlook : pf.look l = g0 := funext fun s => (his.look s).symm
  -- what is answered, at any later world
  have hrec := fun (wx : World) (hb : Below w6.heap.size w6 wx) => cl.record_any r Ak kk Av lv kv p b5 M N0 g0 upto now grace wx (hkm6.keep hb) (by unfold maxLen; rw [← HLK.out]; omega) ((by rw [← HLK.out]; exact (HKA.out.below HB6.out.1 (Nat.le_refl _)).below hb (Nat.le_refl _))) ⟨by omega, by omega⟩ ⟨by omega, by omega⟩ ⟨by omega, by omega⟩
  have hsta := fun (wx : World) (hb : Below w6.heap.size w6 wx) => cr.record_any r Ak kk Av lv kv w5 q M l upto now grace wx (hrm.chg (P := fun _ => False) (chg_of hb) fun _ h => h.elim) (hb6.trans (hb.mono hb6.size)) hl10 (by unfold maxLen; rw [← HLK.out]; omega) ((by rw [← HLK.out]; exact (HKA.out.below HB6.out.1 (Nat.le_refl _)).below hb (Nat.le_refl _))) ⟨by omega, by omega⟩ ⟨by omega, by omega⟩ ⟨by omega, by omega⟩
  have hbat := fun (x : Bat) (A4 : Option Addr) (m c4 : Nat) (wx : World) (hb : Below w6.heap.size w6 wx) (hx : BatR wx [.int .i64 x.base, .int .i64 x.last, .int .i64 x.prod, .int .i64 x.epoch, .int .i64 x.seq, .slice A4 m c4] x) (hsm : fo.Small [x]) (htm : ∀ r ∈ x.recs, 0 ≤ r.time) => cl.batch_any x A4 m c4 p b5 M N0 g0 upto now grace wx hx hsm htm (hkm6.keep hb) ⟨by omega, by omega⟩ ⟨by omega, by omega⟩
  have hcs := fun (A4 : Option Addr) (n4 c4 : Nat) (l4 : List Bat) (wx : World) (hb : Below w6.heap.size w6 wx) (hat : BatsAt wx A4 l4) (hn4 : l4.length = n4) (hsm : fo.Small l4) (htm : ∀ x ∈ l4, ∀ r ∈ x.recs, 0 ≤ r.time) => cr.segment_any A4 n4 c4 l4 w5 q M l upto now grace wx hat hn4 hsm htm (hrm.chg (P := fun _ => False) (chg_of hb) fun _ h => h.elim) (hb6.trans (hb.mono hb6.size)) hl10 ⟨by omega, by omega⟩ ⟨by omega, by omega⟩
  have hsg := fun (wx : World) (hb : Below w6.heap.size w6 wx) => cl.segment_any A n c bs p b5 M N0 g0 upto now grace wx ((HBS.out.below HB6.out.1 (Nat.le_refl _)).below hb (Nat.le_refl _)) HN.out HSM.out.1 (fun x hx => (HSM.out.2.1 x hx).2) (hkm6.keep hb) ⟨by omega, by omega⟩ ⟨by omega, by omega⟩
  rw [hlook] at hsta hcs
  rw [← HLK.out] at hrec hsta
  have hbs6 := HBS.out.below HB6.out.1 (Nat.le_refl _)
  obtain ⟨F, hF⟩ : ∃ F, F = cl.stays g0 upto now grace := ⟨_, rfl⟩
  rw [← hF] at hrec hsta hbat hcs hsg
  have HREC := Lib.hid hrec; clear hrec
  have HSTA := Lib.hid hsta; clear hsta
  have HBAT := Lib.hid hbat; clear hbat
  have HCS := Lib.hid hcs; clear hcs
  have HSG := Lib.hid hsg; clear hsg
  have HB6S := Lib.hid hbs6; clear hbs6 hF hlook hkm6 hb6 hrm his HKM5 HRB HB5
  have l0 : ∀ z : Later w6 (fun _ => False), z.1.cell? ⟨g, 0, none⟩ = some (.int .i64 r.off) := fun z => (z.2.blk HB6.out.2 id).cell 0 rfl
  have l1 : ∀ z : Later w6 (fun _ => False), z.1.cell? ⟨g, 1, none⟩ = some (.int .i64 r.time) := fun z => (z.2.blk HB6.out.2 id).cell 1 rfl
  have l2 : ∀ z : Later w6 (fun _ => False), z.1.cell? ⟨g, 2, none⟩ = some (.bool r.hasKey) := fun z => (z.2.blk HB6.out.2 id).cell 2 rfl
  have l3 : ∀ z : Later w6 (fun _ => False), z.1.cell? ⟨g, 3, none⟩ = some (.slice Ak lk kk) := fun z => (z.2.blk HB6.out.2 id).cell 3 rfl
  have l4 : ∀ z : Later w6 (fun _ => False), z.1.cell? ⟨g, 4, none⟩ = some (.bool r.hasVal) := fun z => (z.2.blk HB6.out.2 id).cell 4 rfl
  have l5 : ∀ z : Later w6 (fun _ => False), z.1.cell? ⟨g, 5, none⟩ = some (.slice Av lv kv) := fun z => (z.2.blk HB6.out.2 id).cell 5 rfl
  go_upto_region 5 with fail
  have hS0 : later w6 (fun _ => False) w6.drew := later_of ((Chg.refl _ _).drew)
  refine wp_plan (S := fun w0 => ∃ x : Later w6 (fun _ => False), w0 = x.1) (by kernel_rfl) hS0 ?_
  intro hS K5 hK5
  have HS := Lib.hid hS; clear hS hS0
  refine plan_group [true, true, true, true, true, true, true, true, false, true, true, true, true, true] [0, 1, 2, 3, 4, 5, 6, 7, 9, 10, 11, 12, 13] 4 (by dsimp only [sel]) (by rfl) rfl (by kernel_rfl) (by kernel_rfl) HS.out ?_
  (repeat go_big_quiet_step (fail)); refine wpQuiet_nil ?_
  refine plan_one [false, false, false, false, false, false, false, false, true] 8 3 (by dsimp only [sel]) (by rfl) rfl (by kernel_rfl) ?_; intro K1 hK1; go_wp2_with fail
  refine (HREC.out _ (bdrew (Below.refl _ w6) 1)).mono ?_
  rintro e w7 ⟨rfl, hb7⟩
  have HB7 := Lib.hid (show Below w6.heap.size w6 w7 from (bdrew (Below.refl _ w6) 1).trans (hb7.mono (Nat.le_refl _))); clear hb7
  go_wp2_with fail
  refine ⟨later_of (chg_of HB7.out), ?_⟩
  refine plan_one [false, false, false, false, false, false, false, false, false, false, false, false, false, false, true] 14 2 (by dsimp only [sel]) (by rfl) rfl (by kernel_rfl) ?_; intro K1 hK1; go_wp2_with fail
  refine (HSTA.out _ HB7.out).mono ?_
  rintro e w8 ⟨rfl, hb8⟩
  have HB8 := Lib.hid (show Below w6.heap.size w6 w8 from HB7.out.trans (hb8.mono HB7.out.size)); clear hb8 HB7 HS
  go_wp2_with fail
  refine ⟨later_of (chg_of HB8.out), ?_⟩
  refine plan_group [false, false, false, false, false, false, false, false, false, false, false, false, false, false, false, true, true] [15, 16] 0 (by dsimp only [sel]) (by rfl) rfl (by kernel_rfl) (by kernel_rfl) (later_of (chg_of HB8.out)) ?_
  (repeat go_big_quiet_step (fail)); refine wpQuiet_nil ?_
  refine wp_plan_end (by kernel_rfl) ?_
  clear l0 l1 l2 l3 l4 l5 HREC HSTA
  generalize F r = fv at *
  have hfr : (fv != fv) = false := by simp
  go_wp2_with fail
  go_loopw [19] (fun s19 wx => ∃ i : Nat, s19 = .int .i64 (i : Int) ∧ i ≤ n ∧ Below w6.heap.size w6 wx) (fun s19 _ => n - (intOf s19).toNat)
  case atStart => exact ⟨0, rfl, by omega, HB8.out⟩
  case round =>
    obtain ⟨i, rfl, hi, hbw⟩ := hrel
    have HBW := Lib.hid hbw; clear hbw HB8
    by_cases hlt : i < n
    · have hlt' : (i : Int) < (n : Int) := by omega
      obtain ⟨x, hx⟩ : ∃ x, bs[i]? = some x := ⟨_, List.getElem?_eq_getElem (by rw [HN.out]; exact hlt)⟩
      have hxm := List.mem_of_getElem? hx
      have hat := HB6S.out.below HBW.out (Nat.le_refl _)
      obtain ⟨b2, o2, v2, hA, hb2, d0, d1, d2, d3, d4, d5, hrv, j0, j1, j2, j3, j4⟩ := hat.at' hx
      subst hA
      have hone := hat.one hx
      obtain ⟨A4, c4, V4, rfl, hrl, hrm, -⟩ := id hrv
      have hbx : BatR wr [.int .i64 x.base, .int .i64 x.last, .int .i64 x.prod, .int .i64 x.epoch, .int .i64 x.seq, .slice A4 x.recs.length c4] x := ⟨_, rfl, hrv, j0, j1, j2, j3, j4⟩
      have hsx : fo.Small [x] := ⟨by simp, fun y hy => by rw [List.mem_singleton.1 hy]; exact HSM.out.1.2 x hxm⟩
      have htx : ∀ r ∈ x.recs, 0 ≤ r.time := (HSM.out.2.1 x hxm).2
      have hbat := HBAT.out x A4 x.recs.length c4 wr HBW.out hbx hsx htx
      have hps : ps.all F [x] = if 0 < (ps.cut F x).recs.length then [ps.cut F x] else [] := by
        unfold ps.all
        rw [List.map_singleton]
        by_cases h : 0 < (ps.cut F x).recs.length
        · rw [if_pos h, List.filter_cons_of_pos (by simpa using h)]
          rfl
        · rw [if_neg h, List.filter_cons_of_neg (by simpa using h)]
          rfl
      have hcsx := fun (cx : Nat) (wx : World) (hb : Below wr.heap.size wr wx) => HCS.out (some ⟨b2, o2 + i * 6, none⟩) 1 cx [x] wx (HBW.out.trans (hb.mono HBW.out.size)) (hone.below hb (Nat.le_refl _)) rfl hsx (fun y hy => by rw [List.mem_singleton.1 hy]; exact htx)
      rw [hps] at hcsx
      have HB1 := Lib.hid hbat; clear hbat
      have HC1 := Lib.hid hcsx; clear hcsx hps hone hat hbx hsx htx hxm hx hrv j0 j1 j2 j3 j4
      obtain ⟨m, hm⟩ : ∃ m, m = x.recs.length := ⟨_, rfl⟩
      rw [← hm] at d5 HB1 hrl
      unfold maxLen at hrm
      clear hm
      go_wp2_with fail
      refine HB1.out.mono ?_
      rintro e w9 ⟨hpost, hb9⟩
      have HB9 := Lib.hid hb9; clear hb9
      rcases hpost with ⟨hz, rfl⟩ | ⟨hpos, A5, c5, rfl, hrv5⟩
      · have hz' : ¬ 0 < (ps.cut F x).recs.length := by omega
        have hc1 := HC1.out
        rw [if_neg hz'] at hc1
        unfold fr.Post at hc1
        simp only [List.length_nil] at hc1
        have HC2 := Lib.hid hc1; clear hc1 HC1 HB1 hz hz'
        go_wp2_with fail
        obtain ⟨w10, hw10⟩ : ∃ w10, w10 = w9.alloc (.cells #[.int .i64 0, .int .i64 0, .int .i64 0, .int .i64 0, .int .i64 0, .slice none 0 0] 46) := ⟨_, rfl⟩
        rw [← hw10]
        have hb10 : Below wr.heap.size wr w10 := by rw [hw10]; exact HB9.out.trans (((Below.refl _ _).alloc (Nat.le_refl _) _).mono HB9.out.size)
        have HB10 := Lib.hid hb10; clear hb10 hw10
        refine (HC2.out (c - i) w10 HB10.out).mono ?_
        rintro e w11 ⟨A6, c6, rfl, -, -, -, hb11⟩
        have HB11 := Lib.hid (HBW.out.trans ((HB10.out.trans (hb11.mono HB10.out.size)).mono HBW.out.size)); clear hb11
        go_wp2_with fail
        go_quiet (fail)
        go_wp2_with fail
        go_roundw
        case rel => exact ⟨i + 1, by go_num, by omega, bdrew HB11.out _⟩
        case measure => simp [intOf]; omega
      · have hc1 := HC1.out
        rw [if_pos hpos] at hc1
        unfold fr.Post at hc1
        rw [show x.base = (ps.cut F x).base from rfl, show x.last = (ps.cut F x).last from rfl, show x.prod = (ps.cut F x).prod from rfl, show x.epoch = (ps.cut F x).epoch from rfl, show x.seq = (ps.cut F x).seq from rfl]
        clear d0 d1 d2 d3 d4 d5 HB1 HC1
        generalize ps.cut F x = y at *
        simp only [List.length_singleton] at hc1
        have HC2 := Lib.hid hc1; clear hc1
        have HRV := Lib.hid hrv5; clear hrv5
        obtain ⟨L, hL⟩ : ∃ L, L = y.recs.length := ⟨_, rfl⟩
        rw [← hL] at HRV ⊢
        have HL := Lib.hid hL; clear hL hpos
        go_wp2_with fail
        obtain ⟨w10, hw10⟩ : ∃ w10, w10 = w9.alloc (.cells #[.int .i64 y.base, .int .i64 y.last, .int .i64 y.prod, .int .i64 y.epoch, .int .i64 y.seq, .slice A5 L c5] 46) := ⟨_, rfl⟩
        obtain ⟨z9, hz9⟩ : ∃ z9, z9 = w9.heap.size := ⟨_, rfl⟩
        rw [← hw10, ← hz9]
        have hb910 : Below w9.heap.size w9 w10 := by rw [hw10]; exact (Below.refl _ _).alloc (Nat.le_refl _) _
        have hk10 : Blk w10 z9 46 #[.int .i64 y.base, .int .i64 y.last, .int .i64 y.prod, .int .i64 y.epoch, .int .i64 y.seq, .slice A5 L c5] := by rw [hw10, hz9]; exact Blk.new _ _ _
        have HB10 := Lib.hid (And.intro (HB9.out.trans (hb910.mono HB9.out.size)) (And.intro hk10 (HRV.out.below hb910 (Nat.le_refl _)))); clear hb910 hk10 hw10 hz9
        refine (HC2.out (c - i) w10 HB10.out.1).mono ?_
        rintro e w11 ⟨A6, c6, rfl, -, -, hat6, hb11⟩
        obtain ⟨p6, o6, v6, hA6, hp6, e0, e1, e2, e3, e4, e5, hrv6, -⟩ := hat6.at' (k := 0) (x := y) rfl
        subst hA6
        obtain ⟨A7, c7, V7, rfl, -⟩ := id hrv6
        have hsame := fun (wx : World) (hb : Below w11.heap.size w11 wx) => ref.same_any y y A5 c5 A7 c7 wx (by rw [← HL.out]; exact (HB10.out.2.2.below hb11 (Nat.le_refl _)).below hb (Nat.le_refl _)) (hrv6.below hb (Nat.le_refl _))
        rw [Bat.same_self] at hsame
        unfold Bat.sval at hsame
        rw [← HL.out] at hsame e5
        have HSAME := Lib.hid hsame; clear hsame hrv6 hat6
        have HB11 := Lib.hid (And.intro (HBW.out.trans ((HB10.out.1.trans (hb11.mono HB10.out.1.size)).mono HBW.out.size)) ((chg_of (P := fun _ => False) hb11).blk HB10.out.2.1 id)); clear hb11
        have l0 : ∀ z : Later w11 (fun _ => False), z.1.cell? ⟨z9, 0, none⟩ = some (.int .i64 y.base) := fun z => (z.2.blk HB11.out.2 id).cell 0 rfl
        have l1 : ∀ z : Later w11 (fun _ => False), z.1.cell? ⟨z9, 1, none⟩ = some (.int .i64 y.last) := fun z => (z.2.blk HB11.out.2 id).cell 1 rfl
        have l2 : ∀ z : Later w11 (fun _ => False), z.1.cell? ⟨z9, 2, none⟩ = some (.int .i64 y.prod) := fun z => (z.2.blk HB11.out.2 id).cell 2 rfl
        have l3 : ∀ z : Later w11 (fun _ => False), z.1.cell? ⟨z9, 3, none⟩ = some (.int .i64 y.epoch) := fun z => (z.2.blk HB11.out.2 id).cell 3 rfl
        have l4 : ∀ z : Later w11 (fun _ => False), z.1.cell? ⟨z9, 4, none⟩ = some (.int .i64 y.seq) := fun z => (z.2.blk HB11.out.2 id).cell 4 rfl
        have l5 : ∀ z : Later w11 (fun _ => False), z.1.cell? ⟨z9, 5, none⟩ = some (.slice A5 L c5) := fun z => (z.2.blk HB11.out.2 id).cell 5 rfl
        have m0 : w11.drew.cell? ⟨p6, o6, none⟩ = some (.int .i64 y.base) := e0
        have n0 : ∀ z : Later w11 (fun _ => False), z.1.cell? ⟨p6, o6, none⟩ = some (.int .i64 y.base) := fun z => ((z.2.below (Nat.le_refl _) fun _ q => q.elim).cell (p := ⟨p6, o6, none⟩) hp6).trans m0
        have m1 : w11.drew.cell? ⟨p6, o6 + 1, none⟩ = some (.int .i64 y.last) := e1
        have n1 : ∀ z : Later w11 (fun _ => False), z.1.cell? ⟨p6, o6 + 1, none⟩ = some (.int .i64 y.last) := fun z => ((z.2.below (Nat.le_refl _) fun _ q => q.elim).cell (p := ⟨p6, o6 + 1, none⟩) hp6).trans m1
        have m2 : w11.drew.cell? ⟨p6, o6 + 2, none⟩ = some (.int .i64 y.prod) := e2
        have n2 : ∀ z : Later w11 (fun _ => False), z.1.cell? ⟨p6, o6 + 2, none⟩ = some (.int .i64 y.prod) := fun z => ((z.2.below (Nat.le_refl _) fun _ q => q.elim).cell (p := ⟨p6, o6 + 2, none⟩) hp6).trans m2
        have m3 : w11.drew.cell? ⟨p6, o6 + 3, none⟩ = some (.int .i64 y.epoch) := e3
        have n3 : ∀ z : Later w11 (fun _ => False), z.1.cell? ⟨p6, o6 + 3, none⟩ = some (.int .i64 y.epoch) := fun z => ((z.2.below (Nat.le_refl _) fun _ q => q.elim).cell (p := ⟨p6, o6 + 3, none⟩) hp6).trans m3
        have m4 : w11.drew.cell? ⟨p6, o6 + 4, none⟩ = some (.int .i64 y.seq) := e4
        have n4 : ∀ z : Later w11 (fun _ => False), z.1.cell? ⟨p6, o6 + 4, none⟩ = some (.int .i64 y.seq) := fun z => ((z.2.below (Nat.le_refl _) fun _ q => q.elim).cell (p := ⟨p6, o6 + 4, none⟩) hp6).trans m4
        have m5 : w11.drew.cell? ⟨p6, o6 + 5, none⟩ = some (.slice A7 L c7) := e5
        have n5 : ∀ z : Later w11 (fun _ => False), z.1.cell? ⟨p6, o6 + 5, none⟩ = some (.slice A7 L c7) := fun z => ((z.2.below (Nat.le_refl _) fun _ q => q.elim).cell (p := ⟨p6, o6 + 5, none⟩) hp6).trans m5
        clear e0 e1 e2 e3 e4 e5
        go_upto_region 12 with fail
        have hS0 : later w11 (fun _ => False) w11.drew := later_of ((Chg.refl _ _).drew)
        refine wp_plan (S := fun w0 => ∃ x : Later w11 (fun _ => False), w0 = x.1) (by kernel_rfl) hS0 ?_
        intro hS K5 hK5
        have HS := Lib.hid hS; clear hS hS0
        refine plan_group [true, true, true, true, true, true, true, true, true, true, true] [0, 1, 2, 3, 4, 5, 6, 7, 8, 9, 10] 5 (by dsimp only [sel]) (by rfl) rfl (by kernel_rfl) (by kernel_rfl) HS.out ?_
        (repeat go_big_quiet_step (fail)); refine wpQuiet_nil ?_
        refine plan_one [false, false, false, false, false, false, false, false, false, false, false, true] 11 4 (by dsimp only [sel]) (by rfl) rfl (by kernel_rfl) ?_; intro K1 hK1; go_wp2_with fail
        refine ⟨later_of ((Chg.refl _ _).drew), ?_⟩
        refine plan_one [false, false, false, false, false, false, false, false, false, false, false, false, true] 12 3 (by dsimp only [sel]) (by rfl) rfl (by kernel_rfl) ?_; intro K1 hK1; go_wp2_with fail
        refine (HSAME.out _ (bdrew (Below.refl _ w11) 1)).mono ?_
        rintro e w12 ⟨rfl, hb12⟩
        have HB12 := Lib.hid (show Below w11.heap.size w11 w12 from (bdrew (Below.refl _ w11) 1).trans (hb12.mono (Nat.le_refl _))); clear hb12
        go_wp2_with fail
        refine ⟨later_of (chg_of HB12.out), ?_⟩
        refine plan_group [false, false, false, false, false, false, false, false, false, false, false, false, false, true, true, true] [13, 14, 15] 0 (by dsimp only [sel]) (by rfl) rfl (by kernel_rfl) (by kernel_rfl) (later_of (chg_of HB12.out)) ?_
        (repeat go_big_quiet_step (fail)); refine wpQuiet_nil ?_
        refine wp_plan_end (by kernel_rfl) ?_
        clear l0 l1 l2 l3 l4 l5 m0 m1 m2 m3 m4 m5 n0 n1 n2 n3 n4 n5
        go_wp2_with fail
        go_roundw
        case rel => exact ⟨i + 1, by go_num, by omega, HB11.out.1.trans (HB12.out.mono HB11.out.1.size)⟩
        case measure => simp [intOf]; omega
    · obtain rfl : i = n := by omega
      have hsg := HSG.out wr HBW.out
      unfold cl.SegPost at hsg
      have hcs := fun (wx : World) (hb : Below w6.heap.size w6 wx) => HCS.out A i c bs wx hb (HB6S.out.below hb (Nat.le_refl _)) HN.out HSM.out.1 (fun x hx => (HSM.out.2.1 x hx).2)
      unfold fr.Post at hcs
      have hal := ps.all_len F bs
      rw [HN.out] at hal
      obtain ⟨lo, hlo⟩ : ∃ lo, lo = ps.all F bs := ⟨_, rfl⟩
      rw [← hlo] at hsg hcs hal
      obtain ⟨L, hL⟩ : ∃ L, L = lo.length := ⟨_, rfl⟩
      rw [← hL] at hsg hcs hal
      have HSGL := Lib.hid hsg; clear hsg hlo
      have HCSL := Lib.hid hcs; clear hcs
      have HL := Lib.hid hL; clear hL
      go_wp2_with fail
      refine HSGL.out.mono ?_
      rintro e w9 ⟨A5, c5, rfl, -, -, hdep, -, hb9⟩
      have HB9 := Lib.hid (And.intro (HBW.out.trans (hb9.mono HBW.out.size)) hdep.now); clear hdep hb9
      go_wp2_with fail
      refine (HCSL.out w9 HB9.out.1).mono ?_
      rintro e w10 ⟨A6, c6, rfl, -, -, hat6, hb10⟩
      have hst := sb.true_any A5 L c5 A6 c6 lo w10 HL.out.symm (by omega) (HB9.out.2.below hb10 (Nat.le_refl _)) hat6
      have HST := Lib.hid hst; clear hst hat6
      have HB10 := Lib.hid (HB9.out.1.trans (hb10.mono HB9.out.1.size)); clear hb10
      go_wp2_with fail
      refine HST.out.mono ?_
      rintro e w11 ⟨rfl, hb11⟩
      have hb611 := HB10.out.trans (hb11.mono HB10.out.size)
      have HB11 := Lib.hid (HB6.out.1.trans (hb611.mono HB6.out.1.size)); clear hb11 hb611
      go_wp2_with fail
      refine (HAW.out w11).mono ?_
      rintro e w12 ⟨rfl, hb12⟩
      have HB12 := Lib.hid (show Below w.heap.size w w12 from HB11.out.trans (hb12.mono HB11.out.size)); clear hb12
      go_wp2_with fail
      go_ret
      exact ⟨rfl, HB12.out⟩
end Go.Proofs.Ytnlfdhoabbbheaa

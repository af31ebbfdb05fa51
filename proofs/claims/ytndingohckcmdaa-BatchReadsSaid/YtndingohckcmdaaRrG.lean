/- The walk of the law BatchReads: it answers true, whatever the input. -/
import Derived.Test.YtndingohckcmdaaRrF
import Derived.Test.YtndingohckcmdaaBsC
namespace Go.Proofs.Ytndingohckcmdaa
open Go.RowKit

/-- What stands for no batch. -/
def Bat.none6 : Bat := ⟨0, 0, 0, 0, 0, []⟩
def Bat.orNone (o : Option Bat) : Bat := match o with | none => Bat.none6 | some b => b
def Bat.err (o : Option Bat) : Int := match o with | none => 2 | some _ => 0
def Bat.firstB (o : Option (Bat × Nat)) : Bat := match o with | none => Bat.none6 | some (b, _) => b
def Bat.firstU (o : Option (Bat × Nat)) : Nat := match o with | none => 0 | some (_, u) => u

theorem bat.decode_uni (A : Option Addr) (c : Nat) (L : List Nat) (w : World) (hat : At w A L.length (byteAt L)) (hb : ∀ x ∈ L, x < 256) (hn : L.length ≤ c) (hc : c ≤ maxLen) :
    Calls Try.prog 21 #[.slice A L.length c] w fun e w' => (∃ A' c', e = .returned (.tuple #[(Bat.orNone (dec.decode L)).hval A' (Bat.orNone (dec.decode L)).recs.length c', .int .i64 (Bat.err (dec.decode L))]) ∧ RecsV w' (.slice A' (Bat.orNone (dec.decode L)).recs.length c') (Bat.orNone (dec.decode L)).recs) ∧ Below w.heap.size w w' := by
  refine (bat.decode_any A c L w hat hb hn hc).mono ?_
  rintro e w' ⟨h | ⟨b, A', c', h1, h2, h3⟩, hb⟩
  · rw [h.1, h.2]
    exact ⟨⟨none, 0, rfl, RecsV.none5 _⟩, hb⟩
  · rw [h1, h3]
    exact ⟨⟨A', c', rfl, h2⟩, hb⟩
theorem ref.decode_uni (A : Option Addr) (c : Nat) (L : List Nat) (w : World) (hat : At w A L.length (byteAt L)) (hb : ∀ x ∈ L, x < 256) (hn : L.length ≤ c) (hc : c ≤ maxLen) (hl : L.length ≤ 1000000) :
    Calls Try.prog 22 #[.slice A L.length c] w fun e w' => (∃ A' c', e = .returned (.tuple #[(Bat.orNone (dec.decode L)).hval A' (Bat.orNone (dec.decode L)).recs.length c', .int .i64 (Bat.err (dec.decode L))]) ∧ RecsV w' (.slice A' (Bat.orNone (dec.decode L)).recs.length c') (Bat.orNone (dec.decode L)).recs) ∧ Below w.heap.size w w' := by
  refine (ref.decode_any A c L w hat hb hn hc hl).mono ?_
  rintro e w' ⟨h | ⟨b, A', c', h1, h2, h3⟩, hb⟩
  · rw [h.1, h.2]
    exact ⟨⟨none, 0, rfl, RecsV.none5 _⟩, hb⟩
  · rw [h1, h3]
    exact ⟨⟨A', c', rfl, h2⟩, hb⟩
theorem bat.first_uni (A : Option Addr) (c : Nat) (L : List Nat) (w : World) (hat : At w A L.length (byteAt L)) (hb : ∀ x ∈ L, x < 256) (hn : L.length ≤ c) (hc : c ≤ maxLen) :
    Calls Try.prog 23 #[.slice A L.length c] w fun e w' => (∃ A' c', e = .returned (.tuple #[(Bat.firstB (dec.first L)).hval A' (Bat.firstB (dec.first L)).recs.length c', .int .i64 (Bat.firstU (dec.first L) : Nat), .int .i64 (Bat.err ((dec.first L).map Prod.fst))]) ∧ RecsV w' (.slice A' (Bat.firstB (dec.first L)).recs.length c') (Bat.firstB (dec.first L)).recs) ∧ Below w.heap.size w w' := by
  refine (bat.first_any A c L w hat hb hn hc).mono ?_
  rintro e w' ⟨h | ⟨b, u, A', c', h1, h2, h3⟩, hb⟩
  · rw [h.1, h.2]
    exact ⟨⟨none, 0, rfl, RecsV.none5 _⟩, hb⟩
  · rw [h1, h3]
    obtain ⟨A2, c2, e, h4⟩ := h2.recsV
    obtain ⟨rfl, rfl⟩ : A' = A2 ∧ c' = c2 := by simpa using e
    exact ⟨⟨A', c', rfl, h4⟩, hb⟩
theorem ref.first_uni (A : Option Addr) (c : Nat) (L : List Nat) (w : World) (hat : At w A L.length (byteAt L)) (hb : ∀ x ∈ L, x < 256) (hn : L.length ≤ c) (hc : c ≤ maxLen) (hl : L.length ≤ 1000000) :
    Calls Try.prog 24 #[.slice A L.length c] w fun e w' => (∃ A' c', e = .returned (.tuple #[(Bat.firstB (dec.first L)).hval A' (Bat.firstB (dec.first L)).recs.length c', .int .i64 (Bat.firstU (dec.first L) : Nat)]) ∧ RecsV w' (.slice A' (Bat.firstB (dec.first L)).recs.length c') (Bat.firstB (dec.first L)).recs) ∧ Below w.heap.size w w' := by
  refine (ref.first_any A c L.length L w rfl hat hb hn hc hl).mono ?_
  rintro e w' ⟨h | ⟨b, u, A', c', h1, -, -, h2, h3⟩, hb⟩
  · rw [h.1, h.2]
    exact ⟨⟨none, 0, rfl, RecsV.none5 _⟩, hb⟩
  · rw [h1, h3]
    obtain ⟨A2, c2, e, h4⟩ := h2.recsV
    obtain ⟨rfl, rfl⟩ : A' = A2 ∧ c' = c2 := by simpa using e
    exact ⟨⟨A', c', rfl, h4⟩, hb⟩
theorem bytes_all {L : List Nat} {n : Nat} (hl : L.length = n) (h : ∀ j, j < n → L.getD j 0 < 256) : ∀ x ∈ L, x < 256 := by
  intro x hx
  obtain ⟨j, hj⟩ := List.mem_iff_getElem?.1 hx
  have h1 := (List.getElem?_eq_some_iff.1 hj).1
  have h2 := h j (by omega)
  simpa [List.getD, hj] using h2
theorem Bat.first_err {L : List Nat} (hL : ∀ x ∈ L, x < 256) : (Bat.firstU (dec.first L) = 0 ∧ Bat.err ((dec.first L).map Prod.fst) = 2) ∨ (0 < Bat.firstU (dec.first L) ∧ Bat.err ((dec.first L).map Prod.fst) = 0) := by
  cases h : dec.first L with
  | none => exact .inl ⟨rfl, rfl⟩
  | some x =>
    obtain ⟨b, u⟩ := x
    obtain ⟨-, -, h3, -⟩ := rr.of_first hL h
    exact .inr ⟨by show 0 < u; omega, rfl⟩

set_option maxRecDepth 20000 in
set_option maxHeartbeats 4000000 in
theorem bat.lawReads (A : Option Addr) (n c : Nat) (z : List Int) (w : World) (hm : z.length = n ∧ n ≤ c ∧ c ≤ maxLen) (hat0 : At w A n (fun j => .int .u8 (z.getD j 0))) (hz : ∀ x ∈ z, (Lit.int .u8 x).wf = true) :
    Calls Try.prog 4 #[.slice A n c] w fun e w' => e = .returned (.bool true) ∧ Below w.heap.size w w' := by
  obtain ⟨hzn, hnc, hcm⟩ := hm
  obtain ⟨hat, hby0⟩ := ints_bytes hat0 hzn hz
  obtain ⟨L, hL⟩ : ∃ L, L = z.map Int.toNat := ⟨_, rfl⟩
  have hln : L.length = n := by rw [hL, List.length_map]; exact hzn
  rw [← hL] at hat hby0
  have hby := bytes_all hln hby0
  clear hby0 hat0 hz hzn hL
  by_cases hbig : n ≤ 5000
  · have hd1 := fun wx (h : Below w.heap.size w wx) => bat.decode_uni A c L wx (by rw [hln]; exact hat.below h (Nat.le_refl _)) hby (by omega) hcm
    have hd2 := fun wx (h : Below w.heap.size w wx) => ref.decode_uni A c L wx (by rw [hln]; exact hat.below h (Nat.le_refl _)) hby (by omega) hcm (by omega)
    have hf1 := fun wx (h : Below w.heap.size w wx) => bat.first_uni A c L wx (by rw [hln]; exact hat.below h (Nat.le_refl _)) hby (by omega) hcm
    have hf2 := fun wx (h : Below w.heap.size w wx) => ref.first_uni A c L wx (by rw [hln]; exact hat.below h (Nat.le_refl _)) hby (by omega) hcm (by omega)
    have hue := Bat.first_err hby
    rw [hln] at hd1 hd2 hf1 hf2
    clear hat hby hln
    generalize Bat.orNone (dec.decode L) = B1 at hd1 hd2
    generalize Bat.err (dec.decode L) = E1 at hd1 hd2
    generalize Bat.firstB (dec.first L) = B2 at hf1 hf2
    generalize Bat.firstU (dec.first L) = U at hf1 hf2 hue
    generalize Bat.err ((dec.first L).map Prod.fst) = E2 at hf1 hue
    unfold Bat.hval at hd1 hd2 hf1 hf2
    have hs1 := fun wx A c A' c' hv hu => ref.same_any B1 B1 A c A' c' wx hv hu
    have hs2 := fun wx A c A' c' hv hu => ref.same_any B2 B2 A c A' c' wx hv hu
    simp only [Bat.same_self] at hs1 hs2
    unfold Bat.hval at hs1 hs2
    generalize B1.recs.length = n1 at hd1 hd2 hs1
    generalize B2.recs.length = n2 at hf1 hf2 hs2
    have HS1 := Lib.hid hs1; clear hs1
    have HS2 := Lib.hid hs2; clear hs2
    have HD1 := Lib.hid hd1; clear hd1
    have HD2 := Lib.hid hd2; clear hd2
    have HF1 := Lib.hid hf1; clear hf1
    have HF2 := Lib.hid hf2; clear hf2
    have HAW := Lib.hid (fun wx => law5.awake wx)
    rcases hue with ⟨rfl, rfl⟩ | ⟨hU, rfl⟩
    all_goals
      go_enter Try.func4, Try.ntmps4
      go_wp2_with fail
      refine (HD1.out w (Below.refl _ _)).mono ?_
      rintro e w1 ⟨⟨A1, c1, rfl, hv1⟩, hb1⟩
      go_upto_region 4 with fail
      obtain ⟨wa, hwa⟩ : ∃ wa, wa = w1.alloc (.cells #[.int .i64 B1.base, .int .i64 B1.last, .int .i64 B1.prod, .int .i64 B1.epoch, .int .i64 B1.seq, .slice A1 n1 c1] 24) := ⟨_, rfl⟩
      rw [← hwa]
      have ka : Blk wa w1.heap.size 24 #[.int .i64 B1.base, .int .i64 B1.last, .int .i64 B1.prod, .int .i64 B1.epoch, .int .i64 B1.seq, .slice A1 n1 c1] := by rw [hwa]; exact Blk.new _ _ _
      have hbwa : Below w.heap.size w wa := by rw [hwa]; exact hb1.alloc hb1.size _
      have huwa : Below w1.heap.size w1 wa := by rw [hwa]; exact (Below.refl _ _).alloc (Nat.le_refl _) _
      clear hwa
      replace hv1 := hv1.below huwa (Nat.le_refl _)
      have KA := Lib.hid ka; clear ka
      have HV1 := Lib.hid hv1; clear hv1
      have hlwa : w1.heap.size < wa.heap.size := KA.out.lt
      have HBwa := Lib.hid hbwa; clear hbwa huwa hb1
      go_wp2_with fail
      refine (HD2.out wa HBwa.out).mono ?_
      rintro e w2 ⟨⟨A2, c2, rfl, hv2⟩, hbq⟩
      have hb2 : Below w.heap.size w w2 := HBwa.out.trans (hbq.mono HBwa.out.size)
      have hzw2 : wa.heap.size ≤ w2.heap.size := hbq.size
      have hv1 := HV1.out.below hbq (Nat.le_refl _); clear HV1
      have ka := (chg_of (P := fun _ => False) hbq).blk KA.out id; clear KA
      clear hbq
      go_upto_region 5 with fail
      obtain ⟨wb, hwb⟩ : ∃ wb, wb = w2.alloc (.cells #[.int .i64 B1.base, .int .i64 B1.last, .int .i64 B1.prod, .int .i64 B1.epoch, .int .i64 B1.seq, .slice A2 n1 c2] 24) := ⟨_, rfl⟩
      rw [← hwb]
      have kb : Blk wb w2.heap.size 24 #[.int .i64 B1.base, .int .i64 B1.last, .int .i64 B1.prod, .int .i64 B1.epoch, .int .i64 B1.seq, .slice A2 n1 c2] := by rw [hwb]; exact Blk.new _ _ _
      have hbwb : Below w.heap.size w wb := by rw [hwb]; exact hb2.alloc hb2.size _
      have huwb : Below w2.heap.size w2 wb := by rw [hwb]; exact (Below.refl _ _).alloc (Nat.le_refl _) _
      clear hwb
      replace hv1 := hv1.below huwb (Nat.le_refl _)
      replace hv2 := hv2.below huwb (Nat.le_refl _)
      replace ka := (chg_of (P := fun _ => False) huwb).blk ka id
      have KA := Lib.hid ka; clear ka
      have KB := Lib.hid kb; clear kb
      have HV1 := Lib.hid hv1; clear hv1
      have HV2 := Lib.hid hv2; clear hv2
      have hlwb : w2.heap.size < wb.heap.size := KB.out.lt
      have HBwb := Lib.hid hbwb; clear hbwb huwb hb2
      go_wp2_with fail
      refine (HF1.out wb HBwb.out).mono ?_
      rintro e w3 ⟨⟨A3, c3, rfl, hv3⟩, hbq⟩
      have hb3 : Below w.heap.size w w3 := HBwb.out.trans (hbq.mono HBwb.out.size)
      have hzw3 : wb.heap.size ≤ w3.heap.size := hbq.size
      have hv1 := HV1.out.below hbq (Nat.le_refl _); clear HV1
      have hv2 := HV2.out.below hbq (Nat.le_refl _); clear HV2
      have ka := (chg_of (P := fun _ => False) hbq).blk KA.out id; clear KA
      have kb := (chg_of (P := fun _ => False) hbq).blk KB.out id; clear KB
      clear hbq
      go_upto_region 6 with fail
      obtain ⟨wc, hwc⟩ : ∃ wc, wc = w3.alloc (.cells #[.int .i64 B2.base, .int .i64 B2.last, .int .i64 B2.prod, .int .i64 B2.epoch, .int .i64 B2.seq, .slice A3 n2 c3] 24) := ⟨_, rfl⟩
      rw [← hwc]
      have kc : Blk wc w3.heap.size 24 #[.int .i64 B2.base, .int .i64 B2.last, .int .i64 B2.prod, .int .i64 B2.epoch, .int .i64 B2.seq, .slice A3 n2 c3] := by rw [hwc]; exact Blk.new _ _ _
      have hbwc : Below w.heap.size w wc := by rw [hwc]; exact hb3.alloc hb3.size _
      have huwc : Below w3.heap.size w3 wc := by rw [hwc]; exact (Below.refl _ _).alloc (Nat.le_refl _) _
      clear hwc
      replace hv1 := hv1.below huwc (Nat.le_refl _)
      replace hv2 := hv2.below huwc (Nat.le_refl _)
      replace hv3 := hv3.below huwc (Nat.le_refl _)
      replace ka := (chg_of (P := fun _ => False) huwc).blk ka id
      replace kb := (chg_of (P := fun _ => False) huwc).blk kb id
      have KA := Lib.hid ka; clear ka
      have KB := Lib.hid kb; clear kb
      have KC := Lib.hid kc; clear kc
      have HV1 := Lib.hid hv1; clear hv1
      have HV2 := Lib.hid hv2; clear hv2
      have HV3 := Lib.hid hv3; clear hv3
      have hlwc : w3.heap.size < wc.heap.size := KC.out.lt
      have HBwc := Lib.hid hbwc; clear hbwc huwc hb3
      go_wp2_with fail
      refine (HF2.out wc HBwc.out).mono ?_
      rintro e w4 ⟨⟨A4, c4, rfl, hv4⟩, hbq⟩
      have hb4 : Below w.heap.size w w4 := HBwc.out.trans (hbq.mono HBwc.out.size)
      have hzw4 : wc.heap.size ≤ w4.heap.size := hbq.size
      have hv1 := HV1.out.below hbq (Nat.le_refl _); clear HV1
      have hv2 := HV2.out.below hbq (Nat.le_refl _); clear HV2
      have hv3 := HV3.out.below hbq (Nat.le_refl _); clear HV3
      have ka := (chg_of (P := fun _ => False) hbq).blk KA.out id; clear KA
      have kb := (chg_of (P := fun _ => False) hbq).blk KB.out id; clear KB
      have kc := (chg_of (P := fun _ => False) hbq).blk KC.out id; clear KC
      clear hbq
      go_upto_region 7 with fail
      obtain ⟨wd, hwd⟩ : ∃ wd, wd = w4.alloc (.cells #[.int .i64 B2.base, .int .i64 B2.last, .int .i64 B2.prod, .int .i64 B2.epoch, .int .i64 B2.seq, .slice A4 n2 c4] 24) := ⟨_, rfl⟩
      rw [← hwd]
      have kd : Blk wd w4.heap.size 24 #[.int .i64 B2.base, .int .i64 B2.last, .int .i64 B2.prod, .int .i64 B2.epoch, .int .i64 B2.seq, .slice A4 n2 c4] := by rw [hwd]; exact Blk.new _ _ _
      have hbwd : Below w.heap.size w wd := by rw [hwd]; exact hb4.alloc hb4.size _
      have huwd : Below w4.heap.size w4 wd := by rw [hwd]; exact (Below.refl _ _).alloc (Nat.le_refl _) _
      clear hwd
      replace hv1 := hv1.below huwd (Nat.le_refl _)
      replace hv2 := hv2.below huwd (Nat.le_refl _)
      replace hv3 := hv3.below huwd (Nat.le_refl _)
      replace hv4 := hv4.below huwd (Nat.le_refl _)
      replace ka := (chg_of (P := fun _ => False) huwd).blk ka id
      replace kb := (chg_of (P := fun _ => False) huwd).blk kb id
      replace kc := (chg_of (P := fun _ => False) huwd).blk kc id
      have KA := Lib.hid ka; clear ka
      have KB := Lib.hid kb; clear kb
      have KC := Lib.hid kc; clear kc
      have KD := Lib.hid kd; clear kd
      have HV1 := Lib.hid hv1; clear hv1
      have HV2 := Lib.hid hv2; clear hv2
      have HV3 := Lib.hid hv3; clear hv3
      have HV4 := Lib.hid hv4; clear hv4
      have hlwd : w4.heap.size < wd.heap.size := KD.out.lt
      have HBwd := Lib.hid hbwd; clear hbwd huwd hb4
      have g00 : wd.cell? ⟨w1.heap.size, 0, none⟩ = some (.int .i64 B1.base) := KA.out.cell 0 rfl
      have g01 : wd.cell? ⟨w1.heap.size, 1, none⟩ = some (.int .i64 B1.last) := KA.out.cell 1 rfl
      have g02 : wd.cell? ⟨w1.heap.size, 2, none⟩ = some (.int .i64 B1.prod) := KA.out.cell 2 rfl
      have g03 : wd.cell? ⟨w1.heap.size, 3, none⟩ = some (.int .i64 B1.epoch) := KA.out.cell 3 rfl
      have g04 : wd.cell? ⟨w1.heap.size, 4, none⟩ = some (.int .i64 B1.seq) := KA.out.cell 4 rfl
      have g05 : wd.cell? ⟨w1.heap.size, 5, none⟩ = some (.slice A1 n1 c1) := KA.out.cell 5 rfl
      have g10 : wd.cell? ⟨w2.heap.size, 0, none⟩ = some (.int .i64 B1.base) := KB.out.cell 0 rfl
      have g11 : wd.cell? ⟨w2.heap.size, 1, none⟩ = some (.int .i64 B1.last) := KB.out.cell 1 rfl
      have g12 : wd.cell? ⟨w2.heap.size, 2, none⟩ = some (.int .i64 B1.prod) := KB.out.cell 2 rfl
      have g13 : wd.cell? ⟨w2.heap.size, 3, none⟩ = some (.int .i64 B1.epoch) := KB.out.cell 3 rfl
      have g14 : wd.cell? ⟨w2.heap.size, 4, none⟩ = some (.int .i64 B1.seq) := KB.out.cell 4 rfl
      have g15 : wd.cell? ⟨w2.heap.size, 5, none⟩ = some (.slice A2 n1 c2) := KB.out.cell 5 rfl
      go_wp2_with fail
      refine (HS1.out wd A1 c1 A2 c2 HV1.out HV2.out).mono ?_
      rintro e we ⟨rfl, hbq⟩
      clear g00 g01 g02 g03 g04 g05 g10 g11 g12 g13 g14 g15
      have hbe : Below w.heap.size w we := HBwd.out.trans (hbq.mono HBwd.out.size)
      have hze : wd.heap.size ≤ we.heap.size := hbq.size
      have KC2 := Lib.hid ((chg_of (P := fun _ => False) hbq).blk KC.out id)
      have KD2 := Lib.hid ((chg_of (P := fun _ => False) hbq).blk KD.out id)
      have HV3E := Lib.hid (HV3.out.below hbq (Nat.le_refl _))
      have HV4E := Lib.hid (HV4.out.below hbq (Nat.le_refl _))
      have HBE := Lib.hid hbe; clear hbe hbq
      have g20 : we.cell? ⟨w3.heap.size, 0, none⟩ = some (.int .i64 B2.base) := KC2.out.cell 0 rfl
      have g21 : we.cell? ⟨w3.heap.size, 1, none⟩ = some (.int .i64 B2.last) := KC2.out.cell 1 rfl
      have g22 : we.cell? ⟨w3.heap.size, 2, none⟩ = some (.int .i64 B2.prod) := KC2.out.cell 2 rfl
      have g23 : we.cell? ⟨w3.heap.size, 3, none⟩ = some (.int .i64 B2.epoch) := KC2.out.cell 3 rfl
      have g24 : we.cell? ⟨w3.heap.size, 4, none⟩ = some (.int .i64 B2.seq) := KC2.out.cell 4 rfl
      have g25 : we.cell? ⟨w3.heap.size, 5, none⟩ = some (.slice A3 n2 c3) := KC2.out.cell 5 rfl
      have g30 : we.cell? ⟨w4.heap.size, 0, none⟩ = some (.int .i64 B2.base) := KD2.out.cell 0 rfl
      have g31 : we.cell? ⟨w4.heap.size, 1, none⟩ = some (.int .i64 B2.last) := KD2.out.cell 1 rfl
      have g32 : we.cell? ⟨w4.heap.size, 2, none⟩ = some (.int .i64 B2.prod) := KD2.out.cell 2 rfl
      have g33 : we.cell? ⟨w4.heap.size, 3, none⟩ = some (.int .i64 B2.epoch) := KD2.out.cell 3 rfl
      have g34 : we.cell? ⟨w4.heap.size, 4, none⟩ = some (.int .i64 B2.seq) := KD2.out.cell 4 rfl
      have g35 : we.cell? ⟨w4.heap.size, 5, none⟩ = some (.slice A4 n2 c4) := KD2.out.cell 5 rfl
      go_wp2_with fail
      refine (HS2.out we A3 c3 A4 c4 HV3E.out HV4E.out).mono ?_
      rintro e wf ⟨rfl, hbq⟩
      clear g20 g21 g22 g23 g24 g25 g30 g31 g32 g33 g34 g35
      have HBF := Lib.hid (show Below w.heap.size w wf from HBE.out.trans (hbq.mono HBE.out.size)); clear hbq
      go_wp2_with fail
      refine (HAW.out wf).mono ?_
      rintro e wg ⟨rfl, hbq⟩
      have HBG := Lib.hid (show Below w.heap.size w wg from HBF.out.trans (hbq.mono HBF.out.size)); clear hbq
      go_wp2_with fail
      go_ret
      exact ⟨rfl, HBG.out⟩
  · have HAW := Lib.hid (law5.awake w)
    go_enter Try.func4, Try.ntmps4
    have hbig2 : 5000 < n := by omega
    go_wp2_with fail
    refine HAW.out.mono ?_
    rintro e w1 ⟨rfl, hb1⟩
    go_wp2_with fail
    go_ret
    exact ⟨rfl, hb1⟩
end Go.Proofs.Ytndingohckcmdaa

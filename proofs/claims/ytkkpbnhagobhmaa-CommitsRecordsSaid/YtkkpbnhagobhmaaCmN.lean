/- commits: applyEntry (chapter 18). -/
import Derived.BigQuiet
import Derived.Test.YtkkpbnhagobhmaaCmM
namespace Go.Proofs.Ytkkpbnhagobhmaa
open Go.RowKit Go.Maps
set_option maxRecDepth 100000
def cm.valE (e : CEnt) (x : Rec) : Option CAct := if x.hasVal = true then (if (cm.numOk x.val && (⟨e.grp, e.top, e.part, (rd.num x.val 0).1⟩ : CEnt).ok) = true then some (.put ⟨e.grp, e.top, e.part, (rd.num x.val 0).1⟩) else none) else some (.del e)
def cm.keyE (L : List Nat) (e : Int) : Option CEnt :=
  let a := rd.piece L e 20
  let b := rd.piece a.2.1 a.2.2 20
  let n := rd.num b.2.1 b.2.2
  if (cm.end_ n.2.2 n.2.1 && cm.place (strOf a.1) (strOf b.1) n.1) = true then some ⟨strOf a.1, strOf b.1, n.1, 0⟩ else none
def cm.actE (L : List Nat) (e : Int) (x : Rec) : Option CAct := match cm.keyE L e with | none => none | some e => cm.valE e x
theorem cm.no_byte (s t : ByteArray) (q o : Int) (L : List Nat) (j : Nat) (u : Value) (hj : (#[.string s, .string t, .int .i64 q, .int .i64 o] : Array Value)[j]? = some u) : u ≠ byteAt L 0 := by
  have hj6 : j < 4 := by
    have := (Array.getElem?_eq_some_iff.1 hj).1
    simpa using this
  unfold byteAt
  rcases (by omega : j = 0 ∨ j = 1 ∨ j = 2 ∨ j = 3) with rfl | rfl | rfl | rfl <;> (injection hj with hj; rw [← hj]; intro h; cases h)
theorem CTab.app_del (T : CTab) {e : CEnt} {x : PlK} (h1 : x.g = e.grp) (h2 : x.t = e.top) (h3 : x.p = e.part) : T.app (some (.del e)) = T.del x := by
  have h := CEnt.plk_of h1 h2 h3
  simp only [CTab.app, CTab.does, h]
theorem CTab.app_put (T : CTab) {e : CEnt} {x : PlK} (h1 : x.g = e.grp) (h2 : x.t = e.top) (h3 : x.p = e.part) : T.app (some (.put e)) = T.put x e.off := by
  have h := CEnt.plk_of h1 h2 h3
  simp only [CTab.app, CTab.does, h]
/-- How it stands within applyEntry. -/
structure ESt (w w' : World) (p mo mf r b0 b1 : Nat) (T : CTab) (n : Nat) (X : Rec) (k u : Value) (s t : ByteArray) (q o : Int) (L : List Nat) (e : Int) : Prop where
  tab : TabAt w' p mo mf T n
  rc : Blk w' b0 37 #[.int .i64 X.off, .int .i64 X.time, .bool X.hasKey, k, .bool X.hasVal, u]
  ent : Blk w' b1 42 #[.string s, .string t, .int .i64 q, .int .i64 o]
  rd : RdIs w' r L e
  val : BytesV w' u X.val
  chg : Chg w w' (fun k => (k = r ∨ k = mo ∨ k = mf) ∨ w.heap.size ≤ k)
  n0 : b0 = w.heap.size
  n1 : b0 < b1
  n2 : r < b0
  n3 : p < b0 ∧ mo < b0 ∧ mf < b0 ∧ mo ≠ mf
  n4 : r ≠ p ∧ r ≠ mo ∧ r ≠ mf
theorem ESt.below {w w' w'' : World} {p mo mf r b0 b1 n : Nat} {T : CTab} {X : Rec} {k u : Value} {s t : ByteArray} {q o e : Int} {L : List Nat} (h : ESt w w' p mo mf r b0 b1 T n X k u s t q o L e) (hb : Below w'.heap.size w' w'') : ESt w w'' p mo mf r b0 b1 T n X k u s t q o L e :=
  ⟨h.tab.below hb, (chg_of (P := fun _ => False) hb).blk h.rc fun q => q, (chg_of (P := fun _ => False) hb).blk h.ent fun q => q, h.rd.keep hb, h.val.below hb (Nat.le_refl _), h.chg.trans (chg_of (P := fun _ => False) hb) fun _ _ q => q.elim, h.n0, h.n1, h.n2, h.n3, h.n4⟩
theorem ESt.read {w w' w'' : World} {p mo mf r b0 b1 n : Nat} {T : CTab} {X : Rec} {k u : Value} {s t : ByteArray} {q o e e2 : Int} {L L2 : List Nat} (h : ESt w w' p mo mf r b0 b1 T n X k u s t q o L e) (hr : RdIs w'' r L2 e2) (hc : Chg w' w'' (rdT r)) : ESt w w'' p mo mf r b0 b1 T n X k u s t q o L2 e2 := by
  have h3 := h.n3
  have h4 := h.n4
  have h1 := h.n1
  have h2 := h.n2
  exact ⟨h.tab.keep hc (fun q => by have q : p = r := q; omega) (fun q => by have q : mo = r := q; omega) (fun q => by have q : mf = r := q; omega), hc.blk h.rc (fun q => by have q : b0 = r := q; omega), hc.blk h.ent (fun q => by have q : b1 = r := q; omega), hr, h.val.past h.rd hc, h.chg.trans hc fun k _ q => .inl (.inl q), h.n0, h.n1, h.n2, h.n3, h.n4⟩
theorem ESt.set {w w' : World} {p mo mf r b0 b1 n : Nat} {T : CTab} {X : Rec} {k u : Value} {s t s' t' : ByteArray} {q o q' o' e : Int} {L : List Nat} (h : ESt w w' p mo mf r b0 b1 T n X k u s t q o L e) (j : Nat) (v : Value)
    (hs : (#[.string s, .string t, .int .i64 q, .int .i64 o] : Array Value).setIfInBounds j v = #[.string s', .string t', .int .i64 q', .int .i64 o']) : ESt w (w'.setCell ⟨b1, j, none⟩ v) p mo mf r b0 b1 T n X k u s' t' q' o' L e := by
  have h3 := h.n3
  have h4 := h.n4
  have h1 := h.n1
  have h2 := h.n2
  have h0 := h.n0
  have hc := Chg.setCell w' b1 j v
  obtain ⟨A, c, hr⟩ := h.rd
  obtain ⟨A', c', hu, hv, hv2⟩ := h.val
  refine ⟨h.tab.keep hc (fun q => by have q : p = b1 := q; omega) (fun q => by have q : mo = b1 := q; omega) (fun q => by have q : mf = b1 := q; omega), hc.blk h.rc (fun q => by have q : b0 = b1 := q; omega), hs ▸ h.ent.set j v, ⟨A, c, hc.blk hr.blk (fun q => by have q : r = b1 := q; omega), hc.at' hr.lie (fun hn b off e q => hr.lie.not_blk hn h.ent (fun j u hj => cm.no_byte _ _ _ _ _ j u hj) b off e q), hr.len, hr.cap, hr.byte⟩, ⟨A', c', hu, hc.at' hv (fun hn b off e q => hv.not_blk hn h.ent (fun j u hj => cm.no_byte _ _ _ _ _ j u hj) b off e q), hv2⟩, h.chg.trans hc (fun k _ q => .inr (by have q : k = b1 := q; omega)), h.n0, h.n1, h.n2, h.n3, h.n4⟩
theorem ESt.end_ {w w' : World} {p mo mf r b0 b1 n : Nat} {T T2 : CTab} {X : Rec} {k u : Value} {s t : ByteArray} {q o e : Int} {L : List Nat} (h : ESt w w' p mo mf r b0 b1 T n X k u s t q o L e) {w'' : World} {N : Nat} (ht : TabAt w'' p mo mf T2 N) (hc : Chg w' w'' (fun k => k = mo ∨ k = mf)) (c : Int) : cm.appPost w p mo mf r T2 N c (.returned (.int .i64 c)) w'' := by
  have h1 := h.chg.trans hc fun k _ q => .inl (.inr q)
  exact ⟨rfl, ht, ⟨h1.os, h1.tape, h1.output, h1.size, fun k hk hp => h1.block k hk fun q => q.elim hp fun q => by omega⟩⟩
theorem ESt.same {w w' : World} {p mo mf r b0 b1 n : Nat} {T : CTab} {X : Rec} {k u : Value} {s t : ByteArray} {q o e : Int} {L : List Nat} (h : ESt w w' p mo mf r b0 b1 T n X k u s t q o L e) (c : Int) : cm.appPost w p mo mf r T (n + 1) c (.returned (.int .i64 c)) w' := h.end_ (h.tab.up (Nat.le_succ _)) (Chg.refl _ _) c
set_option maxHeartbeats 4000000 in
theorem cm.applyE_any (r : Nat) (L : List Nat) (e : Int) (X : Rec) (k u : Value) (p mo mf : Nat) (T : CTab) (n : Nat) (w : World) (hr : RdIs w r L e) (hu : BytesV w u X.val) (h : TabAt w p mo mf T n) (hn : n < maxLen) (hne : r ≠ p ∧ r ≠ mo ∧ r ≠ mf) :
    Calls Try.prog 38 #[.pointer (some ⟨p, 0, none⟩), .pointer (some ⟨r, 0, none⟩), .agg #[.int .i64 X.off, .int .i64 X.time, .bool X.hasKey, k, .bool X.hasVal, u]] w (cm.appPost w p mo mf r (T.app (cm.actE L e X)) (n + 1) (cm.code (cm.actE L e X))) := by
  have hl := h.lt
  have hrl : r < w.heap.size := hr.elim fun A q => q.elim fun c q => q.blk.lt
  have hLl := hr.len
  obtain ⟨b0, hb0⟩ : ∃ b, b = w.heap.size := ⟨_, rfl⟩
  obtain ⟨w1, hw1⟩ : ∃ w1, w1 = w.alloc (.cells #[.int .i64 X.off, .int .i64 X.time, .bool X.hasKey, k, .bool X.hasVal, u] 37) := ⟨_, rfl⟩
  have hk1 : Blk w1 b0 37 #[.int .i64 X.off, .int .i64 X.time, .bool X.hasKey, k, .bool X.hasVal, u] := by rw [hw1, hb0]; exact Blk.new _ _ _
  have hb1 : Below w.heap.size w w1 := by rw [hw1]; exact (Below.refl _ _).alloc (Nat.le_refl _) _
  have hr1 := hr.keep hb1
  have ht1 := h.below hb1
  have hu1 := hu.below hb1 (Nat.le_refl _)
  obtain ⟨act, hact⟩ : ∃ a, a = cm.actE L e X := ⟨_, rfl⟩
  rw [← hact]
  unfold cm.actE cm.keyE at hact
  have htx := hr1.text 20
  have hsz : (strOf (rd.piece L e 20).1).size ≤ maxLen := by rw [strOf_size]; exact Nat.le_trans (rd.piece_le L e 20) hLl
  unfold TextPost at htx
  obtain ⟨⟨P, L1, e1⟩, hq⟩ : ∃ q, q = rd.piece L e 20 := ⟨_, rfl⟩
  rw [← hq] at hact htx hsz
  simp only at hact htx hsz
  clear hq
  obtain ⟨s, hs⟩ : ∃ s, s = strOf P := ⟨_, rfl⟩
  rw [← hs] at hact htx hsz
  clear hs
  have htx2 := fun wx (hx : RdIs wx r L1 e1) => hx.text 20
  have hsz2 : ∀ wx, RdIs wx r L1 e1 → (strOf (rd.piece L1 e1 20).1).size ≤ maxLen := fun wx hx => by rw [strOf_size]; exact Nat.le_trans (rd.piece_le L1 e1 20) hx.len
  unfold TextPost at htx2
  obtain ⟨⟨P2, L2, e2⟩, hq⟩ : ∃ q, q = rd.piece L1 e1 20 := ⟨_, rfl⟩
  rw [← hq] at hact htx2 hsz2
  simp only at hact htx2 hsz2
  clear hq
  obtain ⟨t, hs⟩ : ∃ s, s = strOf P2 := ⟨_, rfl⟩
  rw [← hs] at hact htx2 hsz2
  clear hs
  have hnm := fun wx (hx : RdIs wx r L2 e2) => hx.num
  unfold RdPost at hnm
  obtain ⟨⟨q, L3, e3⟩, hq⟩ : ∃ q, q = rd.num L2 e2 := ⟨_, rfl⟩
  rw [← hq] at hact hnm
  simp only at hact hnm
  clear hq
  obtain ⟨E, hE⟩ : ∃ E, E = cm.end_ e3 L3 := ⟨_, rfl⟩
  have hend := fun wx hx => cm.ended_any r L3 e3 wx hx
  rw [← hE] at hact hend
  clear hE
  have H := Lib.hid (And.intro htx (And.intro htx2 (And.intro hnm (And.intro hend (And.intro hk1 (And.intro hb1 (And.intro hr1 (And.intro ht1 (And.intro hu1 (And.intro hb0 (And.intro hn (And.intro hl (And.intro hsz (And.intro hsz2 hrl))))))))))))))
  clear htx htx2 hnm hend hk1 hb1 hr1 ht1 hu1 hn hl hsz hsz2 hr hu h hrl hLl
  have HACT := Lib.hid hact; clear hact
  have HNE := Lib.hid hne; clear hne
  go_enter Try.func38, Try.ntmps38
  go_upto_region 1 with fail
  rw [← hw1, ← hb0]
  clear hw1 hb0
  go_wp2_with fail
  refine H.out.1.mono ?_
  rintro en w2 ⟨rfl, hr2, hc2⟩
  obtain ⟨b1, hb1⟩ : ∃ b, b = w2.heap.size := ⟨_, rfl⟩
  obtain ⟨w3, hw3⟩ : ∃ w3, w3 = w2.alloc (.cells #[.string s, .string ⟨#[]⟩, .int .i64 0, .int .i64 0] 42) := ⟨_, rfl⟩
  have hE3 : ESt w w3 p mo mf r b0 b1 T n X k u s ⟨#[]⟩ 0 0 L1 e1 := by
    have hbb : Below w2.heap.size w2 w3 := by rw [hw3]; exact (Below.refl _ _).alloc (Nat.le_refl _) _
    have hlw := H.out.2.2.2.2.2.2.2.2.2.2.2.1
    have h0 := H.out.2.2.2.2.2.2.2.2.2.1
    have hrl := H.out.2.2.2.2.2.2.2.2.2.2.2.2.2.2
    have hrb : r < b0 := by omega
    have hs2 := hc2.size
    have hs1 := H.out.2.2.2.2.2.1.size
    have hk1 := H.out.2.2.2.2.1.lt
    have hd := HNE.out
    have h2 : TabAt w2 p mo mf T n := H.out.2.2.2.2.2.2.2.1.keep hc2 (fun q => HNE.out.1 (by exact q.symm)) (fun q => HNE.out.2.1 (by exact q.symm)) fun q => HNE.out.2.2 (by exact q.symm)
    have hcc : Chg w w2 (fun k => (k = r ∨ k = mo ∨ k = mf) ∨ w.heap.size ≤ k) := (chg_of (P := fun k => (k = r ∨ k = mo ∨ k = mf) ∨ w.heap.size ≤ k) H.out.2.2.2.2.2.1).trans hc2 fun k _ q => .inl (.inl q)
    exact ⟨h2.below hbb, (chg_of (P := fun _ => False) hbb).blk (hc2.blk H.out.2.2.2.2.1 (fun q => by have q : b0 = r := q; omega)) fun q => q, by rw [hw3, hb1]; exact Blk.new _ _ _, hr2.keep hbb, ((H.out.2.2.2.2.2.2.2.2.1).past H.out.2.2.2.2.2.2.1 hc2).below hbb (Nat.le_refl _), hcc.trans (chg_of (P := fun _ => False) hbb) fun _ _ q => q.elim, h0, by omega, hrb, by omega, HNE.out⟩
  have H2 := Lib.hid hE3; clear hE3 hr2 hc2
  go_upto_region 2 with fail
  rw [← hw3, ← hb1]
  clear hw3 hb1
  go_wp2_with fail
  refine (H.out.2.1 w3 H2.out.rd).mono ?_
  rintro en w4 ⟨rfl, hr4, hc4⟩
  have hE4 := H2.out.read hr4 hc4
  have htl := H.out.2.2.2.2.2.2.2.2.2.2.2.2.2.1 w3 H2.out.rd
  have f1 := hE4.ent.cell 1 (v := .string ⟨#[]⟩) rfl
  have g1 := hE4.ent.frozen 1
  have l1 := hE4.ent.lt
  have H4 := Lib.hid hE4; clear hE4 hr4 hc4 H2
  go_upto_region 3 with fail
  clear f1 g1 l1
  have hE5 := H4.out.set (s' := s) (t' := t) (q' := 0) (o' := 0) 1 (.string t) rfl
  obtain ⟨w5, hw5⟩ : ∃ w5, w5 = w4.setCell ⟨b1, 1, none⟩ (.string t) := ⟨_, rfl⟩
  rw [← hw5] at hE5 ⊢
  clear hw5
  have H5 := Lib.hid hE5; clear hE5 H4
  go_wp2_with fail
  refine (H.out.2.2.1 w5 H5.out.rd).mono ?_
  rintro en w6 ⟨rfl, hr6, hc6⟩
  have hE6 := H5.out.read hr6 hc6
  have f1 := hE6.ent.cell 2 (v := .int .i64 0) rfl
  have g1 := hE6.ent.frozen 2
  have l1 := hE6.ent.lt
  have H6 := Lib.hid hE6; clear hE6 hr6 hc6 H5
  go_upto_region 4 with fail
  clear f1 g1 l1
  have hE7 := H6.out.set (s' := s) (t' := t) (q' := q) (o' := 0) 2 (.int .i64 q) rfl
  obtain ⟨w7, hw7⟩ : ∃ w7, w7 = w6.setCell ⟨b1, 2, none⟩ (.int .i64 q) := ⟨_, rfl⟩
  rw [← hw7] at hE7 ⊢
  clear hw7
  have H7 := Lib.hid hE7; clear hE7 H6
  go_wp2_with fail
  refine (H.out.2.2.2.1 w7 H7.out.rd).mono ?_
  rintro en w8 ⟨rfl, h8⟩
  subst h8
  have hbad : act = none → cm.appPost w p mo mf r (T.app act) (n + 1) (cm.code act) (.returned (.int .i64 2)) w7 := fun h => by rw [h]; exact H7.out.same 2
  have HBAD := Lib.hid hbad; clear hbad
  have HSZ := Lib.hid (And.intro H.out.2.2.2.2.2.2.2.2.2.2.2.2.1 (And.intro htl H.out.2.2.2.2.2.2.2.2.2.2.1)); clear htl H
  cases E with
  | false =>
    have HA := Lib.hid (HBAD.out (by rw [HACT.out]; rfl))
    go_wp2_with fail
    go_ret
    exact HA.out
  | true =>
    have f0 := H7.out.ent.cell 0 (v := .string s) rfl
    have f1 := H7.out.ent.cell 1 (v := .string t) rfl
    have f2 := H7.out.ent.cell 2 (v := .int .i64 q) rfl
    have f3 := H7.out.ent.cell 3 (v := .int .i64 0) rfl
    have fl := H7.out.ent.lt
    go_wp2_with fail
    clear f0 f1 f2 f3 fl
    refine (cm.place_any ⟨s, t, q, 0⟩ w7).mono ?_
    rintro en w9 ⟨rfl, h9⟩
    have H9 := Lib.hid (H7.out.below h9); clear h9
    go_wp2_with fail
    refine (cm.may_any s t q w9 HSZ.out.1 HSZ.out.2.1).mono ?_
    rintro en w10 ⟨rfl, h10⟩
    have H10 := Lib.hid (H9.out.below h10); clear h10 H9 H7 HBAD
    have hact := HACT.out
    rw [Bool.true_and] at hact
    obtain ⟨pl, hpl⟩ : ∃ b, b = cm.place s t q := ⟨_, rfl⟩
    rw [← hpl] at hact ⊢
    clear HACT
    cases pl with
    | false =>
      have HA := Lib.hid hact; clear hact hpl
      go_wp2_with fail
      go_ret
      rw [HA.out]
      exact H10.out.same 2
    | true =>
      have hpf := cm.place_fit hpl.symm
      clear hpl
      have hact : act = cm.valE ⟨s, t, q, 0⟩ X := hact
      unfold cm.valE at hact
      have hxx : ∃ x : PlK, x.g = s ∧ x.t = t ∧ x.p = q := ⟨cm.mk s t q hpf.1 hpf.2.1 hpf.2.2.1 hpf.2.2.2, rfl, rfl, rfl⟩
      obtain ⟨x, hx1, hx2, hx3⟩ := hxx
      clear hpf
      subst hx1 hx2 hx3
      have c4 := H10.out.rc.cell 4 (v := .bool X.hasVal) rfl
      have c5 := H10.out.rc.cell 5 (v := u) rfl
      have cl := H10.out.rc.lt
      obtain ⟨hv, hhv⟩ : ∃ b, b = X.hasVal := ⟨_, rfl⟩
      rw [← hhv] at hact c4
      clear hhv
      cases hv with
      | false =>
        rw [if_neg (by simp)] at hact
        have HA := Lib.hid hact; clear hact
        go_upto_region 7 with fail
        clear c4 c5 cl
        obtain ⟨No, Nf, a1, a2, a3, a4, a5, a6, a7⟩ := H10.out.tab
        have A := Lib.hid (And.intro a1 (And.intro a2 (And.intro a3 (And.intro a4 (And.intro a5 (And.intro a6 a7)))))); clear a1 a2 a3 a4 a5 a6 a7
        have hne : b1 ≠ mo := by have := H10.out.n3; have := H10.out.n1; omega
        have hkd : ∀ y : Later w10 (fun k => k = mo), Blk y.1 b1 42 #[.string x.g, .string x.t, .int .i64 x.p, .int .i64 0] := fun y => y.2.blk H10.out.ent hne
        have z0 : ∀ y : Later w10 (fun k => k = mo), y.1.cell? ⟨p, 0, none⟩ = some (.map (some mo)) := fun y => (y.2.blk A.out.1 (A.out.2.1.not_blk A.out.1)).cell 0 rfl
        have HKD := Lib.hid hkd; clear hkd
        have hS0 : later w10 (fun k => k = mo) w10.drew := later_of ((Chg.refl _ _).drew)
        refine wp_plan (S := fun w0 => ∃ y : Later w10 (fun k => k = mo), w0 = y.1) (by kernel_rfl) hS0 ?_
        intro hS' K5 hK5
        have HS := Lib.hid hS'; clear hS' hS0
        refine plan_group [true, true, true, true, true] [0, 1, 2, 3, 4] 2 (by dsimp only [sel]) (by rfl) rfl (by kernel_rfl) (by kernel_rfl) HS.out ?_
        iterate 4 go_big_quiet_step (fail)
        refine cm.quiet_row rfl 42 (.tmp 7) rfl b1 rfl 42 #[.string x.g, .string x.t, .int .i64 x.p, .int .i64 0] _ (fun w0 ⟨x, hx⟩ => hx ▸ HKD.out x) Try.underlying42 rfl cm.info_entry ?_
        go_simp
        (repeat go_big_quiet_step (fail)); refine wpQuiet_nil ?_
        clear z0
        refine plan_one [false, false, false, false, false, true] 5 1 (by dsimp only [sel]) (by rfl) rfl (by kernel_rfl) ?_; intro K1 hK1
        go_wp2_with (go_at_call 31; refine (cm.place_any ⟨x.g, x.t, x.p, 0⟩ _).mono ?_; rintro en w11 ⟨rfl, h3⟩; have HB3 := Lib.hid h3; clear h3)
        have hc3 : Chg w10 w11 (fun k => k = mo) := ((Chg.refl w10 _).drew).trans (chg_of (P := fun _ => False) HB3.out) fun _ _ q => q.elim
        have hb3' : Below w10.heap.size w10 w11 := (bdrew (Below.refl _ _) 1).trans (HB3.out.mono (Nat.le_of_eq (by simp)))
        have H3 := Lib.hid (And.intro hc3 hb3'); clear hc3 hb3' HB3
        refine ⟨by first | exact later_of H3.out.1 | exact fun _ => later_of H3.out.1, ?_⟩
        refine plan_one [false, false, false, false, false, false, true] 6 0 (by dsimp only [sel]) (by rfl) rfl (by kernel_rfl) ?_; intro K2 hK2
        have hgm := A.out.2.1.below H3.out.2 A.out.2.1.lt
        obtain ⟨w12, hdel, hgm4, hc4, hs4⟩ := hgm.drop Try.underlying67 x trivial 0
        replace hdel : (Builtin.delete_ #[67, 72] 0 #[.map (some mo), .agg #[.string x.g, .string x.t, .int .i64 x.p]]).run Try.prog w11 = .ok (.tuple #[]) w12 := hdel
        have hc24 : Chg w10 w12 (fun k => k = mo) := (chg_of (P := fun k => k = mo) H3.out.2).trans hc4 fun _ _ q => q
        have H4 := Lib.hid (And.intro hgm4 hc24); clear hgm4 hc4 hc24 hgm hs4
        go_wp2_with fail
        refine ⟨later_of H4.out.2, ?_⟩
        refine wp_plan_end (by kernel_rfl) ?_
        refine hK5 _ _ ?_
        clear HS
        go_wp2
        go_ret
        rw [HA.out]
        rw [CTab.app_del T (x := x) rfl rfl rfl]
        refine H10.out.end_ (TabAt.del (H4.out.2.blk A.out.1 (A.out.2.1.not_blk A.out.1)) H4.out.1 (A.out.2.2.1.chg H4.out.2 (fun q => A.out.2.2.2.2.2.1 q.symm)) ?_ ?_ A.out.2.2.2.2.2.1 A.out.2.2.2.2.2.2) (H4.out.2.mono fun _ _ q => .inl q) 0
        · have := A.out.2.2.2.1; split <;> omega
        · have := A.out.2.2.2.2.1; omega
      | true =>
        rw [if_pos rfl] at hact
        have hnum := cm.number_any u X.val w10 H10.out.val
        obtain ⟨b, hb⟩ : ∃ b, b = cm.numOk X.val := ⟨_, rfl⟩
        rw [← hb] at hact hnum
        clear hb
        obtain ⟨v, hq⟩ : ∃ q, q = (rd.num X.val 0).1 := ⟨_, rfl⟩
        rw [← hq] at hact hnum
        clear hq
        have HA := Lib.hid (And.intro hact hnum); clear hact hnum
        go_upto_region 10 with fail
        refine HA.out.2.mono ?_
        rintro en w11 ⟨rfl, h11⟩
        have hE11 := H10.out.below h11
        clear c4 c5 cl
        have f1 := hE11.ent.cell 3 (v := .int .i64 0) rfl
        have g1 := hE11.ent.frozen 3
        have l1 := hE11.ent.lt
        have H11 := Lib.hid hE11; clear hE11 h11 H10
        go_upto_region 11 with fail
        clear f1 g1 l1
        have hE12 := H11.out.set (s' := x.g) (t' := x.t) (q' := x.p) (o' := v) 3 (.int .i64 v) rfl
        obtain ⟨w12, hw12⟩ : ∃ w5, w5 = w11.setCell ⟨b1, 3, none⟩ (.int .i64 v) := ⟨_, rfl⟩
        rw [← hw12] at hE12 ⊢
        clear hw12
        have H12 := Lib.hid hE12; clear hE12 H11
        cases b with
        | false =>
          have HX : act = none := by rw [HA.out.1]; rfl
          have HY := Lib.hid HX; clear HX
          go_wp2_with fail
          go_ret
          rw [HY.out]
          exact H12.out.same 2
        | true =>
          obtain ⟨G, hG⟩ : ∃ G, G = (⟨x.g, x.t, x.p, v⟩ : CEnt).ok := ⟨_, rfl⟩
          have hact := HA.out.1
          rw [← hG, Bool.true_and] at hact
          have f0 := H12.out.ent.cell 0 (v := .string x.g) rfl
          have f1 := H12.out.ent.cell 1 (v := .string x.t) rfl
          have f2 := H12.out.ent.cell 2 (v := .int .i64 x.p) rfl
          have f3 := H12.out.ent.cell 3 (v := .int .i64 v) rfl
          have fl := H12.out.ent.lt
          cases G with
          | false =>
            rw [if_neg (by simp)] at hact
            have HY := Lib.hid (And.intro hact (cm.put_bad ⟨x.g, x.t, x.p, v⟩ p w12 ⟨x.hg, x.ht⟩ hG.symm)); clear hact hG
            go_wp2_with fail
            clear f0 f1 f2 f3 fl
            refine HY.out.2.mono ?_
            rintro en w13 ⟨rfl, h4⟩
            have H13 := Lib.hid (H12.out.below h4); clear h4
            go_wp2_with fail
            go_ret
            rw [HY.out.1]
            exact H13.out.same 2
          | true =>
            rw [if_pos rfl] at hact
            have HY := Lib.hid (And.intro hact (cm.put_ok ⟨x.g, x.t, x.p, v⟩ x rfl rfl rfl p mo mf T n w12 H12.out.tab hG.symm HSZ.out.2.2)); clear hact hG
            go_wp2_with fail
            clear f0 f1 f2 f3 fl
            refine HY.out.2.mono ?_
            rintro en w13 ⟨rfl, ht4, hc4⟩
            have H13 := Lib.hid (And.intro ht4 hc4); clear ht4 hc4
            go_wp2_with fail
            go_ret
            rw [HY.out.1, CTab.app_put T (x := x) rfl rfl rfl]
            exact H12.out.end_ H13.out.1 H13.out.2 0
end Go.Proofs.Ytkkpbnhagobhmaa

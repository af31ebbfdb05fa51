/- commits: CommitsBack's law: how it stands between two steps (chapter 18). -/
import Derived.BigQuiet
import Derived.Test.YtkkpbnhagobhmaaCoA
import Derived.Test.YtkkpbnhagobhmaaCmZ
import Derived.Test.YtkkpbnhagobhmaaRwR
import Derived.Test.YtkkpbnhagobhmaaCmT
namespace Go.Proofs.Ytkkpbnhagobhmaa
open Go.RowKit Go.Maps
set_option maxRecDepth 100000
/-- Where three tables lie. -/
structure Tri where
  p1 : Nat
  o1 : Nat
  f1 : Nat
  p2 : Nat
  o2 : Nat
  f2 : Nat
  p3 : Nat
  o3 : Nat
  f3 : Nat
  B : Nat
structure CoSt (w W : World) (q : Tri) (S T V : CTab) (n : Nat) (rs : Value) (l : List Rec) : Prop where
  ta : TabAt W q.p1 q.o1 q.f1 S n
  tb : TabAt W q.p2 q.o2 q.f2 T n
  tc : TabAt W q.p3 q.o3 q.f3 V n
  row : RowR W q.B rs l
  bel : Below w.heap.size w W
  size : q.B ≤ W.heap.size
  ord : w.heap.size ≤ q.o1 ∧ q.o1 < q.f1 ∧ q.f1 < q.p1 ∧ q.p1 < q.o2 ∧ q.o2 < q.f2 ∧ q.f2 < q.p2 ∧ q.p2 < q.o3 ∧ q.o3 < q.f3 ∧ q.f3 < q.p3 ∧ q.p3 < q.B
theorem CoSt.below {w W W' : World} {q : Tri} {S T V : CTab} {n : Nat} {rs : Value} {l : List Rec} (h : CoSt w W q S T V n rs l) (hb : Below W.heap.size W W') : CoSt w W' q S T V n rs l :=
  ⟨h.ta.below hb, h.tb.below hb, h.tc.below hb, h.row.below hb, h.bel.trans (hb.mono h.bel.size), Nat.le_trans h.size hb.size, h.ord⟩
theorem CoSt.doA {w W W' : World} {q : Tri} {S S' T V : CTab} {n : Nat} {rs : Value} {l : List Rec} (h : CoSt w W q S T V n rs l) (ht : TabAt W' q.p1 q.o1 q.f1 S' (n + 1)) (hc : Chg W W' (fun k => k = q.o1 ∨ k = q.f1)) : CoSt w W' q S' T V (n + 1) rs l := by
  have ho := h.ord
  exact ⟨ht, (h.tb.keep hc (fun q => by omega) (fun q => by omega) fun q => by omega).up (Nat.le_succ _), (h.tc.keep hc (fun q => by omega) (fun q => by omega) fun q => by omega).up (Nat.le_succ _), h.row.chg hc (fun g hg _ hh => by omega), h.bel.trans (hc.below h.bel.size fun k hk => by omega), Nat.le_trans h.size hc.size, ho⟩
theorem CoSt.doB {w W W' : World} {q : Tri} {S T T' V : CTab} {n : Nat} {rs : Value} {l : List Rec} (h : CoSt w W q S T V n rs l) (ht : TabAt W' q.p2 q.o2 q.f2 T' (n + 1)) (hc : Chg W W' (fun k => k = q.o2 ∨ k = q.f2)) : CoSt w W' q S T' V (n + 1) rs l := by
  have ho := h.ord
  exact ⟨(h.ta.keep hc (fun q => by omega) (fun q => by omega) fun q => by omega).up (Nat.le_succ _), ht, (h.tc.keep hc (fun q => by omega) (fun q => by omega) fun q => by omega).up (Nat.le_succ _), h.row.chg hc (fun g hg _ hh => by omega), h.bel.trans (hc.below h.bel.size fun k hk => by omega), Nat.le_trans h.size hc.size, ho⟩
theorem CoSt.doC {w W W' : World} {q : Tri} {S T V V' : CTab} {n : Nat} {rs : Value} {l : List Rec} (h : CoSt w W q S T V n rs l) (ht : TabAt W' q.p3 q.o3 q.f3 V' (n + 1)) (hc : Chg W W' (fun k => k = q.o3 ∨ k = q.f3)) : CoSt w W' q S T V' (n + 1) rs l := by
  have ho := h.ord
  exact ⟨(h.ta.keep hc (fun q => by omega) (fun q => by omega) fun q => by omega).up (Nat.le_succ _), (h.tb.keep hc (fun q => by omega) (fun q => by omega) fun q => by omega).up (Nat.le_succ _), ht, h.row.chg hc (fun g hg _ hh => by omega), h.bel.trans (hc.below h.bel.size fun k hk => by omega), Nat.le_trans h.size hc.size, ho⟩
theorem CoSt.add {w W W' : World} {q : Tri} {S T V : CTab} {n : Nat} {rs rs' : Value} {l l' : List Rec} (h : CoSt w W q S T V n rs l) (hr : RowR W' q.B rs' l') (hc : Chg W W' (fun k => q.B ≤ k)) : CoSt w W' q S T V n rs' l' := by
  have ho := h.ord
  exact ⟨h.ta.keep hc (fun q => by omega) (fun q => by omega) fun q => by omega, h.tb.keep hc (fun q => by omega) (fun q => by omega) fun q => by omega, h.tc.keep hc (fun q => by omega) (fun q => by omega) fun q => by omega, hr, h.bel.trans (hc.below h.bel.size fun k hk => by omega), Nat.le_trans h.size hc.size, ho⟩
theorem CoSt.up {w W : World} {q : Tri} {S T V : CTab} {n m : Nat} {rs : Value} {l : List Rec} (h : CoSt w W q S T V n rs l) (hm : n ≤ m) : CoSt w W q S T V m rs l :=
  ⟨h.ta.up hm, h.tb.up hm, h.tc.up hm, h.row, h.bel, h.size, h.ord⟩
/-- Acts, and their records. -/
def co.Ofs (ac : List CAct) (l : List Rec) : Prop := ac.length = l.length ∧ ∀ (i : Nat) (a : CAct) (X : Rec), ac[i]? = some a → l[i]? = some X → co.Of a X
theorem co.Ofs.snoc {ac : List CAct} {l : List Rec} {a : CAct} {X : Rec} (h : co.Ofs ac l) (ha : co.Of a X) : co.Ofs (ac ++ [a]) (l ++ [X]) := by
  refine ⟨by simp [h.1], fun i b Y hb hY => ?_⟩
  by_cases hi : i < ac.length
  · rw [List.getElem?_append_left hi] at hb
    rw [List.getElem?_append_left (by rw [← h.1]; exact hi)] at hY
    exact h.2 i b Y hb hY
  · have h1 := (List.getElem?_eq_some_iff.1 hb).1
    obtain rfl : i = ac.length := by simp at h1; omega
    obtain rfl : a = b := by simpa using hb
    rw [h.1] at hY
    obtain rfl : X = Y := by simpa using hY
    exact ha
theorem co.Ofs.good {ac : List CAct} {l : List Rec} (h : co.Ofs ac l) : ∀ a ∈ ac, a.good := fun a ha => by
  obtain ⟨i, hi⟩ := List.getElem?_of_mem ha
  have h1 := (List.getElem?_eq_some_iff.1 hi).1
  exact (h.2 i a _ hi (List.getElem?_eq_getElem (by rw [← h.1]; exact h1))).good
/-- The first round: how it stands. -/
def co.One (w W : World) (q : Tri) (k : Nat) (rs : Value) : Prop := ∃ ac l, co.Ofs ac l ∧ ac.Pairwise co.up ∧ l.length ≤ k ∧ CoSt w W q (co.all CTab.zero ac) (co.all CTab.zero ac) CTab.zero (2 * k) rs l
/-- Behind an Apply: the record waits in its box. -/
def co.Ready (w wx : World) (q : Tri) (S T : CTab) (n : Nat) (rs : Value) (l : List Rec) (b M : Nat) (Ak : Option Addr) (nk ck : Nat) (Au : Option Addr) (nu cu : Nat) (time : Int) (X : Rec) : Prop :=
  CoSt w wx q S T CTab.zero n rs l ∧ Blk wx b 37 #[.int .i64 0, .int .i64 time, .bool true, .slice Ak nk ck, .bool true, .slice Au nu cu] ∧ BytesV wx (.slice Ak nk ck) X.key ∧ BytesV wx (.slice Au nu cu) X.val ∧ cm.Loc M wx (.slice Ak nk ck) ∧ cm.Loc M wx (.slice Au nu cu)
/-- A record in a box of its own. -/
def co.Boxed (W wx : World) (X : Rec) (time : Int) (s10 s11 : Value) : Prop :=
  ∃ b Ak nk ck Au nu cu, s10 = .pointer (some ⟨b, 0, none⟩) ∧ s11 = .int .i64 0 ∧ Blk wx b 37 #[.int .i64 0, .int .i64 time, .bool true, .slice Ak nk ck, .bool true, .slice Au nu cu] ∧
    cm.RecV wx (.agg #[.int .i64 0, .int .i64 time, .bool true, .slice Ak nk ck, .bool true, .slice Au nu cu]) X ∧ BytesV wx (.slice Ak nk ck) X.key ∧ BytesV wx (.slice Au nu cu) X.val ∧ W.heap.size ≤ b ∧ Below W.heap.size W wx ∧
    cm.Loc W.heap.size wx (.slice Ak nk ck) ∧ cm.Loc W.heap.size wx (.slice Au nu cu)
/-- A record stored into a fresh box. -/
theorem co.boxed_of {W V wz : World} {bz : Nat} {X : Rec} {Ak Au : Option Addr} {nk ck nu cu : Nat} (hv : Chg W V (fun _ => False)) (hz : Blk wz bz 37 #[.int .i64 0, .int .i64 0, .bool false, .slice none 0 0, .bool false, .slice none 0 0]) (hc : Chg V wz (fun _ => False)) (hb : W.heap.size ≤ bz)
    (hk : BytesV V (.slice Ak nk ck) X.key) (hu : BytesV V (.slice Au nu cu) X.val) (lk : cm.Loc W.heap.size V (.slice Ak nk ck)) (lu : cm.Loc W.heap.size V (.slice Au nu cu)) (time : Int) (e1 : X.off = 0) (e2 : X.time = time) (e3 : X.hasKey = true) (e4 : X.hasVal = true) :
    co.Boxed W (wz.setRow bz #[.int .i64 0, .int .i64 time, .bool true, .slice Ak nk ck, .bool true, .slice Au nu cu]) X time (.pointer (some ⟨bz, 0, none⟩)) (.int .i64 0) ∧ Chg W (wz.setRow bz #[.int .i64 0, .int .i64 time, .bool true, .slice Ak nk ck, .bool true, .slice Au nu cu]) (fun j => W.heap.size ≤ j) := by
  have hcs := Chg.setRow wz bz #[.int .i64 0, .int .i64 time, .bool true, .slice Ak nk ck, .bool true, .slice Au nu cu]
  have hbw : ∀ {v L}, BytesV V v L → BytesV (wz.setRow bz #[.int .i64 0, .int .i64 time, .bool true, .slice Ak nk ck, .bool true, .slice Au nu cu]) v L := fun {v L} h => by
    obtain ⟨A, c, rfl, h1, h2⟩ := h
    have h3 := hc.at' h1 fun _ _ _ _ q => q
    exact ⟨A, c, rfl, hcs.at' h3 (fun hn b' off e q => h3.not_blk hn hz (fun j u hj => cm.rec_byte _ _ _ _ _ _ _ _ _ _ _ j u hj) b' off e q), h2⟩
  have hch : Chg W (wz.setRow bz #[.int .i64 0, .int .i64 time, .bool true, .slice Ak nk ck, .bool true, .slice Au nu cu]) (fun j => W.heap.size ≤ j) := ((hv.mono fun _ _ q => q.elim).trans hc fun _ _ q => q.elim).trans hcs fun k _ q => by have q : k = bz := q; omega
  have hsz : V.heap.size ≤ (wz.setRow bz #[.int .i64 0, .int .i64 time, .bool true, .slice Ak nk ck, .bool true, .slice Au nu cu]).heap.size := Nat.le_trans hc.size hcs.size
  refine ⟨⟨bz, Ak, nk, ck, Au, nu, cu, rfl, rfl, hz.row _, ⟨.slice Ak nk ck, .slice Au nu cu, ?_, hbw hk, hbw hu⟩, hbw hk, hbw hu, hb, hch.below (Nat.le_refl _) fun _ q => q, lk.up (Nat.le_refl _) hsz, lu.up (Nat.le_refl _) hsz⟩, hch⟩
  rw [e1, e2, e3, e4]
theorem co.cells_new (w : World) (cs : List Value) (t : TypeId) (n : Nat) (hn : n = w.heap.size) : ∀ j u, cs[j]? = some u → (w.alloc (.cells cs.toArray t)).cell? ((⟨n, 0, none⟩ : Addr).add j) = some u := by
  subst hn
  intro j u hj
  rw [add_none, Nat.zero_add]
  have h := World.alloc_heap_new w (.cells cs.toArray t)
  unfold World.cell?
  rw [h]
  simpa using hj
theorem co.cell {w W : World} (hb : Below w.heap.size w W) {b j : Nat} (hbw : b < w.heap.size) {v : Value} (h : w.cell? ⟨b, j, none⟩ = some v) : W.cell? ⟨b, j, none⟩ = some v := (World.cell?_of_block (hb.block b hbw)).trans h
theorem co.infoRec : (Try.prog.info? 37).map (fun i => (i.zero, i.size, i.bytes)) = some (some (.agg #[.int .i64 0, .int .i64 0, .bool false, .slice none 0 0, .bool false, .slice none 0 0]), 6, 80) := by kernel_rfl
/-- A record that may be handed on: its bytes lie in blocks laid since B, in no row's block. -/
theorem co.key_of {w' : World} {B M : Nat} {v u : Value} {L : List Nat} (hu : BytesV w' u L) (hl : cm.Loc M w' u) (hB : B ≤ M) (hv : ∀ g, v.ownBlock = some g → g < M) : KeyR w' B v u L :=
  ⟨hu, fun g hg => ⟨Nat.le_trans hB (hl g hg).1, (hl g hg).2, fun hh => by have h1 := (hl g hg).1; have h2 := hv g hh; omega⟩⟩
theorem CoSt.own {w W : World} {q : Tri} {S T U : CTab} {n : Nat} {rs : Value} {l : List Rec} (h : CoSt w W q S T U n rs l) : ∀ g, rs.ownBlock = some g → g < W.heap.size := fun g hg => by
  obtain ⟨ys, hy, -⟩ := h.row
  exact (hy.lt g hg).2
/-- A record more in the row, as an append leaves it. -/
theorem co.grow {w W V W9 : World} {q : Tri} {S T U : CTab} {n j M : Nat} {A : Option Addr} {c : Nat} {v2 : Value} {l : List Rec} {X : Rec} {xs : List Value} {Ak Au : Option Addr} {nk ck nu cu : Nat}
    (h : CoSt w W q S T U n (.slice A j c) l) (hj : l.length = j) (hb : Below W.heap.size W V) (hM : q.B ≤ M) (hrow : ∀ g, (Value.slice A j c).ownBlock = some g → g < M)
    (hk : BytesV V (.slice Ak nk ck) X.key) (hu : BytesV V (.slice Au nu cu) X.val) (lk : cm.Loc M V (.slice Ak nk ck)) (lu : cm.Loc M V (.slice Au nu cu)) (ho : i64ok X.off) (ht : i64ok X.time)
    (hown : V.ownsRow q.B 37 6 (.slice A j c) j xs) (hcells : ∀ (i : Nat) (r : Rec), l[i]? = some r → CellsR V q.B (.slice A j c) ((List.range 6).map fun j => xs.getD (i * 6 + j) undef) r)
    (h1 : W9.ownsRow q.B 37 6 v2 (j + 1) (xs ++ [.int .i64 X.off, .int .i64 X.time, .bool X.hasKey, .slice Ak nk ck, .bool X.hasVal, .slice Au nu cu])) (h2 : V.grownBy W9 (Value.slice A j c).ownBlock) (h3 : Lies V (.slice A j c) v2) : CoSt w W9 q S T U n v2 (l ++ [X]) := by
  subst hj
  obtain ⟨ys, hy, -⟩ := h.row
  have hlt : ∀ g, (Value.slice A l.length c).ownBlock = some g → q.B ≤ g ∧ g < W.heap.size := fun g hg => hy.lt g hg
  have hr := RowR.append (r := X) hcells hown.1 (co.key_of hk lk hM hrow) (co.key_of hu lu hM hrow) ho ht h1 h2 h3
  have hc : Chg W W9 (fun k => q.B ≤ k) := (chg_of (P := fun k => q.B ≤ k) hb).trans (Chg.grown h2) fun k _ e => (hlt k e).1
  exact h.add hr hc
end Go.Proofs.Ytkkpbnhagobhmaa

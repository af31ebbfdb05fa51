/- Copies of records and batches (fold). -/
import Derived.Laws.Rows
import Derived.Laws.Tables
import Derived.Deep.Cut
import Derived.Test.YtnlfdhoabbbheaaEch
import Derived.Test.YtnlfdhoabbbheaaBats
import Derived.OwnWalkIn
import Derived.Deep.LoopGhost
import Derived.Test.YtnlfdhoabbbheaaRcR
import Derived.Laws.MakeOwn
import Derived.Maps.AppendAt
import Derived.Test.YtnlfdhoabbbheaaRwR
namespace Go.Proofs.Ytnlfdhoabbbheaa
section
open Go.RowKit
set_option maxRecDepth 20000

theorem res_cell1 {P : Program} {fn : Func} {p : Tmp} {ty T : TypeId} (h : fn.results = #[.cell p ty]) (tmps : Array Value) (w : World) (g : Nat) (cs : Array Value) (d : TypeDesc) (hp : tmps.getD p undef = .pointer (some ⟨g, 0, none⟩)) (hg : Blk w g T cs)
    (hu : P.underlying ty = some d) (hd : (match d with | .struct _ | .array _ _ => true | _ => false) = true) (hi : (P.info? ty).map (·.size) = some cs.size) :
    (results fn tmps).run P w = .ok (.agg cs) w := by
  have hp' : tmps[p]?.getD undef = .pointer (some ⟨g, 0, none⟩) := by simpa using hp
  simp [results, h, hp', asAddr, run_loadVar_row w g T ty cs (0, 0) d hg hu hd hi]
theorem fo.blk_row {w : World} {p : Nat} {T : TypeId} {cs : Array Value} (h : Blk w p T cs) (c2 : Array Value) : Blk (w.setRow p c2) p T c2 := setRow_heap w p cs c2 T _ h
theorem fo.chg_row (w : World) (g : Nat) (cs : Array Value) : Chg w (w.setRow g cs) (fun k => k = g) :=
  ⟨rfl, rfl, rfl, by simp, fun k _ hk => setRow_other w g k cs hk⟩
theorem fo.info6 : (Try.prog.info? 34).map (·.size) = some 6 := by kernel_rfl
/-- The cells of a record, wherever its key and its value lie. -/
def fo.cells (r : Rec) (Ak : Option Addr) (nk ck : Nat) (Av : Option Addr) (nv cv : Nat) : Array Value := #[.int .i64 r.off, .int .i64 r.time, .bool r.hasKey, .slice Ak nk ck, .bool r.hasVal, .slice Av nv cv]
/-- A slice of one's own. -/
def fo.Own (B : Nat) (w : World) (A : Option Addr) (n c : Nat) (L : List Nat) : Prop := At w A n (byteAt L) ∧ n ≤ c ∧ c ≤ maxLen ∧ (0 < n → ∀ b off, A = some ⟨b, off, none⟩ → B ≤ b) ∧ ∀ k, (Value.slice A n c).ownBlock = some k → B ≤ k ∧ k < w.heap.size
theorem fo.Own.of {B : Nat} {w : World} {v : Value} {n : Nat} {L : List Nat} (h : w.ownsRow B 5 1 v n (u8s L)) : ∃ A c, v = .slice A n c ∧ fo.Own B w A n c L := by
  have hlt := h.lt
  obtain ⟨A, c, rfl, h1, -, h3⟩ := own_bytes h
  exact ⟨A, c, rfl, h3, h1, own_cap h, fun _ b off e => (hlt b (by rw [e]; rfl)).1, hlt⟩
theorem fo.Own.move {B : Nat} {w w' : World} {P : Nat → Prop} {A : Option Addr} {n c : Nat} {L : List Nat} (h : fo.Own B w A n c L) (hc : Chg w w' P) (hp : ∀ k, P k → k < B) : fo.Own B w' A n c L :=
  ⟨hc.at' h.1 fun hn b off e hk => by have := h.2.2.2.1 hn b off e; have := hp _ hk; omega, h.2.1, h.2.2.1, h.2.2.2.1, fun k hk => ⟨(h.2.2.2.2 k hk).1, Nat.lt_of_lt_of_le (h.2.2.2.2 k hk).2 hc.size⟩⟩
theorem fo.Own.up {B B' : Nat} {w : World} {A : Option Addr} {n c : Nat} {L : List Nat} (h : fo.Own B w A n c L) (hB : B' ≤ B) : fo.Own B' w A n c L :=
  ⟨h.1, h.2.1, h.2.2.1, fun hn b off e => Nat.le_trans hB (h.2.2.2.1 hn b off e), fun k hk => ⟨Nat.le_trans hB (h.2.2.2.2 k hk).1, (h.2.2.2.2 k hk).2⟩⟩
theorem fo.Own.below {B : Nat} {w w' : World} {A : Option Addr} {n c : Nat} {L : List Nat} (h : fo.Own B w A n c L) (hb : Below w.heap.size w w') : fo.Own B w' A n c L := h.move (chg_of (P := fun _ => False) hb) fun _ q => q.elim

def fo.CopyPost (r : Rec) (nk nv : Nat) (w : World) (e : Ending) (w' : World) : Prop :=
  ∃ Ak ck Av cv, e = .returned (.agg (fo.cells r Ak nk ck Av nv cv)) ∧ fo.Own w.heap.size w' Ak nk ck r.key ∧ fo.Own w.heap.size w' Av nv cv r.val ∧ Below w.heap.size w w'
set_option maxHeartbeats 2000000 in
theorem fo.copy_any (r : Rec) (Ak : Option Addr) (nk ck : Nat) (Av : Option Addr) (nv cv : Nat) (w : World) (hk : At w Ak nk (byteAt r.key)) (hkl : r.key.length = nk) (hk1 : nk ≤ 1000000) (hv : At w Av nv (byteAt r.val)) (hvl : r.val.length = nv) (hv1 : nv ≤ 1000000) :
    Calls Try.prog 52 #[.agg (fo.cells r Ak nk ck Av nv cv)] w (fo.CopyPost r nk nv w) := by
  have HK := Lib.hid hk; clear hk
  have HV := Lib.hid hv; clear hv
  have HL := Lib.hid (And.intro hkl hvl); clear hkl hvl
  unfold fo.cells
  go_enter Try.func52, Try.ntmps52
  go_wp2_with fail
  obtain ⟨g, hg⟩ : ∃ g, g = w.heap.size := ⟨_, rfl⟩
  obtain ⟨w1, hw1⟩ : ∃ w1, w1 = (w.alloc (.cells #[.int .i64 r.off, .int .i64 r.time, .bool r.hasKey, .slice Ak nk ck, .bool r.hasVal, .slice Av nv cv] 34)).alloc (.cells #[.int .i64 0, .int .i64 0, .bool false, .slice none 0 0, .bool false, .slice none 0 0] 34) := ⟨_, rfl⟩
  rw [← hw1, ← hg]
  have hb1 : Below w.heap.size w w1 := by rw [hw1]; exact ((Below.refl _ _).alloc (Nat.le_refl _) _).alloc (by simp) _
  have hk1' : Blk w1 g 34 #[.int .i64 r.off, .int .i64 r.time, .bool r.hasKey, .slice Ak nk ck, .bool r.hasVal, .slice Av nv cv] := by rw [hw1, hg]; exact (Below.heap_alloc _ _ _ (by simp)).trans (Blk.new w _ _)
  have hz1 : Blk w1 (g + 1) 34 #[.int .i64 0, .int .i64 0, .bool false, .slice none 0 0, .bool false, .slice none 0 0] := by
    have h := Blk.new (w.alloc (.cells #[.int .i64 r.off, .int .i64 r.time, .bool r.hasKey, .slice Ak nk ck, .bool r.hasVal, .slice Av nv cv] 34)) 34 #[.int .i64 0, .int .i64 0, .bool false, .slice none 0 0, .bool false, .slice none 0 0]
    rw [World.size_alloc, ← hg, ← hw1] at h
    exact h
  have hs1 : w1.heap.size = g + 2 := by rw [hw1, hg]; simp
  have HG := Lib.hid hg; clear hw1 hg
  refine (clone_any Ak nk ck r.key w1 HL.out.1 (by omega) (HK.out.below hb1 (Nat.le_refl _))).mono ?_
  rintro e w2 ⟨⟨v, rfl, ho2⟩, hb2⟩
  rw [hs1] at ho2
  obtain ⟨A2, c2, rfl, hO2⟩ := fo.Own.of ho2
  have hk2 : Blk w2 g 34 #[.int .i64 r.off, .int .i64 r.time, .bool r.hasKey, .slice Ak nk ck, .bool r.hasVal, .slice Av nv cv] := (hb2.block g hk1'.lt).trans hk1'
  have hz2 : Blk w2 (g + 1) 34 #[.int .i64 0, .int .i64 0, .bool false, .slice none 0 0, .bool false, .slice none 0 0] := (hb2.block (g + 1) hz1.lt).trans hz1
  have hw12 : Below w.heap.size w w2 := hb1.trans (hb2.mono hb1.size)
  have c3 := hk2.cell 3 rfl
  have f3 := hk2.frozen 3
  have c5 := hk2.cell 5 rfl
  have H2 := Lib.hid (And.intro hk2 (And.intro hz2 (And.intro hw12 hO2))); clear hk2 hz2 hw12 hO2 hb1 hb2 hk1' hz1 ho2 hs1
  go_wp2_with fail
  clear c3 f3 c5
  obtain ⟨w3, hw3⟩ : ∃ w3, w3 = w2.setCell ⟨g, 3, none⟩ (.slice A2 nk c2) := ⟨_, rfl⟩
  rw [← hw3]
  have hc3 : Chg w2 w3 (fun k => k = g) := by rw [hw3]; exact Chg.setCell _ _ _ _
  have hk3 : Blk w3 g 34 #[.int .i64 r.off, .int .i64 r.time, .bool r.hasKey, .slice A2 nk c2, .bool r.hasVal, .slice Av nv cv] := by rw [hw3]; exact H2.out.1.set 3 _
  have hz3 : Blk w3 (g + 1) 34 #[.int .i64 0, .int .i64 0, .bool false, .slice none 0 0, .bool false, .slice none 0 0] := hc3.blk H2.out.2.1 (by omega)
  have hw13 : Below w.heap.size w w3 := H2.out.2.2.1.trans (hc3.below H2.out.2.2.1.size fun k hk => by have hk : k = g := hk; rw [hk, HG.out]; exact Nat.le_refl _)
  have hO3 : fo.Own (g + 2) w3 A2 nk c2 r.key := H2.out.2.2.2.move hc3 fun k hk => by have hk : k = g := hk; omega
  clear H2 hw3 hc3
  refine (clone_any Av nv cv r.val w3 HL.out.2 (by omega) (HV.out.below hw13 (Nat.le_refl _))).mono ?_
  rintro e w4 ⟨⟨v, rfl, ho4⟩, hb4⟩
  obtain ⟨A4, c4, rfl, hO4⟩ := fo.Own.of ho4
  have hg3 := hz3.lt
  have hO4 : fo.Own (g + 2) w4 A4 nv c4 r.val := hO4.up (by omega)
  have hO4k := hO3.below hb4
  have hk4 : Blk w4 g 34 #[.int .i64 r.off, .int .i64 r.time, .bool r.hasKey, .slice A2 nk c2, .bool r.hasVal, .slice Av nv cv] := (hb4.block g hk3.lt).trans hk3
  have hz4 : Blk w4 (g + 1) 34 #[.int .i64 0, .int .i64 0, .bool false, .slice none 0 0, .bool false, .slice none 0 0] := (hb4.block (g + 1) hz3.lt).trans hz3
  have hw14 : Below w.heap.size w w4 := hw13.trans (hb4.mono hw13.size)
  obtain ⟨w5, hw5⟩ : ∃ w5, w5 = w4.setCell ⟨g, 5, none⟩ (.slice A4 nv c4) := ⟨_, rfl⟩
  have hc5 : Chg w4 w5 (fun k => k = g) := by rw [hw5]; exact Chg.setCell _ _ _ _
  have hk5 : Blk w5 g 34 #[.int .i64 r.off, .int .i64 r.time, .bool r.hasKey, .slice A2 nk c2, .bool r.hasVal, .slice A4 nv c4] := by rw [hw5]; exact hk4.set 5 _
  have hz5 : Blk w5 (g + 1) 34 #[.int .i64 0, .int .i64 0, .bool false, .slice none 0 0, .bool false, .slice none 0 0] := hc5.blk hz4 (by omega)
  have c5 := hk4.cell 5 rfl
  have f5 := hk4.frozen 5
  have HW5 := Lib.hid hw5; clear hw5
  have hown5 : ∀ {A : Option Addr} {n c : Nat} {L : List Nat}, fo.Own (g + 2) w4 A n c L → fo.Own (g + 2) w5 A n c L := fun h => h.move hc5 fun k hk => by have hk : k = g := hk; omega
  have hw15 : Below w.heap.size w w5 := hw14.trans (hc5.below hw14.size fun k hk => by have hk : k = g := hk; rw [hk, HG.out]; exact Nat.le_refl _)
  have H5 := Lib.hid (And.intro (hown5 hO4k) (And.intro (hown5 hO4) hw15)); clear hown5 hO4k hO4 hw15 hw14 hw13 hc5 hk3 hz3 hO3 hb4 hk4 hz4 ho4 hg3
  have k0 := hk5.cell 0 rfl
  have k1 := hk5.cell 1 rfl
  have k2 := hk5.cell 2 rfl
  have k3 := hk5.cell 3 rfl
  have k4 := hk5.cell 4 rfl
  have k5 := hk5.cell 5 rfl
  have HZ := Lib.hid hz5; clear hz5 hk5
  go_upto_region 3 with fail
  rw [← HW5.out]
  clear HW5 c5 f5
  go_wp2_with (refine wpList_store_row rfl 34 (.tmp 2) (.tmp 11) rfl (g + 1) #[.int .i64 r.off, .int .i64 r.time, .bool r.hasKey, .slice A2 nk c2, .bool r.hasVal, .slice A4 nv c4] rfl rfl 34 _ HZ.out fo.info6 rfl (by simp [Value.oneCell']) ?_)
  have hc6 := fo.chg_row w5 (g + 1) #[.int .i64 r.off, .int .i64 r.time, .bool r.hasKey, .slice A2 nk c2, .bool r.hasVal, .slice A4 nv c4]
  have hz6 := fo.blk_row HZ.out #[.int .i64 r.off, .int .i64 r.time, .bool r.hasKey, .slice A2 nk c2, .bool r.hasVal, .slice A4 nv c4]
  generalize w5.setRow (g + 1) #[.int .i64 r.off, .int .i64 r.time, .bool r.hasKey, .slice A2 nk c2, .bool r.hasVal, .slice A4 nv c4] = w6 at *
  have hown6 : ∀ {A : Option Addr} {n c : Nat} {L : List Nat}, fo.Own (g + 2) w5 A n c L → fo.Own w.heap.size w6 A n c L := fun h => (h.move hc6 fun k hk => by have hk : k = g + 1 := hk; omega).up (by have := HG.out; omega)
  refine bodyPost_ret (res_cell1 rfl _ _ _ _ _ rfl hz6 Try.underlying34 rfl fo.info6) rfl ?_
  exact ⟨A2, c2, A4, c4, rfl, hown6 H5.out.1, hown6 H5.out.2.1, H5.out.2.2.trans (hc6.below H5.out.2.2.size fun k hk => by have hk : k = g + 1 := hk; have := HG.out; omega)⟩
end
section
open Go.RowKit Go.Shelf
attribute [local go_sem] Oper.semAt_some

/-- A record that is handed over, and where its key and its value lie. -/
abbrev FoX := Rec × (Option Addr × Nat) × (Option Addr × Nat)
def fo.xcells (x : FoX) : Array Value := fo.cells x.1 x.2.1.1 x.1.key.length x.2.1.2 x.2.2.1 x.1.val.length x.2.2.2
def fo.encs (x : FoX) : Array Value := #[.agg (fo.xcells x)]
def fo.R (Bs : List Nat) (x : FoX) (V : World) : Prop := InB Bs V ∧ Dep (Safe Bs V) V (fun U => RecR U (fo.xcells x).toList x.1)
def fo.S (bs : List Bat) (xs : List FoX) (_ : World) : Prop := xs.map Prod.fst = rc.flat bs
def fo.Sp (bs : List Bat) (pre : List FoX) (_ : World) : Prop := ∃ rest, pre.map Prod.fst ++ rest = rc.flat bs
def fo.Nx (bs : List Bat) (pre : List FoX) (x : FoX) : Prop := ∃ rest, (pre ++ [x]).map Prod.fst ++ rest = rc.flat bs
def fo.WPost (bs : List Bat) (J Jx : List FoX → World → Prop) (e : Ending) (V : World) : Prop := (∃ v, e = .returned v) ∧ ((∃ xs, fo.S bs xs V ∧ J xs V) ∨ (∃ pre, fo.Sp bs pre V ∧ Jx pre V))
/-- What may be walked. -/
def fo.Small (bs : List Bat) : Prop := bs.length ≤ 1000000 ∧ ∀ b ∈ bs, b.recs.length ≤ 1000000 ∧ ∀ r ∈ b.recs, r.key.length ≤ 1000000 ∧ r.val.length ≤ 1000000

theorem fo.flat_split {bs : List Bat} {k : Nat} {x : Bat} (h : bs[k]? = some x) : rc.flat bs = rc.flat (bs.take k) ++ (x.recs ++ rc.flat (bs.drop (k + 1))) := by
  obtain ⟨hk, e⟩ := List.getElem?_eq_some_iff.1 h
  have h1 : bs = bs.take k ++ (x :: bs.drop (k + 1)) := by rw [← e, List.getElem_cons_drop, List.take_append_drop]
  conv => lhs; rw [h1]
  unfold rc.flat
  rw [List.map_append, List.flatten_append, List.map_cons, List.flatten_cons]
/-- Batches, by the cells that they stand in. -/
def fo.Src (f : Nat → Value) (A : Option Addr) (bs : List Bat) (V : World) : Prop := At V A (bs.length * 6) f ∧ ∀ (i : Nat) (b : Bat), bs[i]? = some b → BatR V (cellsAt f i 6) b
theorem fo.Src.bats {f : Nat → Value} {A : Option Addr} {bs : List Bat} {V : World} (h : fo.Src f A bs V) : BatsAt V A bs := ⟨f, h⟩
theorem fo.Src.recs {f : Nat → Value} {A : Option Addr} {bs : List Bat} {V : World} (h : fo.Src f A bs V) {k : Nat} {x : Bat} (hx : bs[k]? = some x) {v : Value} (e : f (k * 6 + 5) = v) : RecsV V v x.recs := by
  obtain ⟨v', e', hr, -⟩ := h.2 k x hx
  have h5 := cellsAt_cell e' 5 (by omega) rfl
  rw [e] at h5
  subst h5
  exact hr
/-- Batches lean on blocks of cells. -/
theorem fo.Src.dep {V : World} {f : Nat → Value} {A : Option Addr} {bs : List Bat} {Z : Nat → Prop} (h : fo.Src f A bs V) (hz : ∀ k, k < V.heap.size → Z k) : Dep Z V (fo.Src f A bs) := by
  obtain ⟨h1, h2⟩ := h
  refine ⟨fun k => Z k ∧ CellsB V k, fun k hk => hk, fun W' hv hs => ?_⟩
  have hat : ∀ {A : Option Addr} {n : Nat} {f : Nat → Value}, At V A n f → At W' A n f := fun {A n f} ha hn => by
    obtain ⟨b, off, hA, hb, hc⟩ := ha hn
    exact ⟨b, off, hA, Nat.lt_of_lt_of_le hb hs, fun j hj => (World.cell?_of_block (hv b ⟨hz b hb, .of_cell (hc 0 hn)⟩)).trans (hc j hj)⟩
  have hby : ∀ {v : Value} {L : List Nat}, BytesV V v L → BytesV W' v L := fun {v L} ⟨A, c, e, h1, h2⟩ => ⟨A, c, e, hat h1, h2⟩
  refine ⟨hat h1, fun i b hi => ?_⟩
  obtain ⟨v, e, ⟨A1, c1, V1, rfl, k1, k2, k3, k4⟩, hq⟩ := h2 i b hi
  refine ⟨_, e, ⟨A1, c1, V1, rfl, k1, k2, hat k3, fun j r hr => ?_⟩, hq⟩
  obtain ⟨kv, vv, e1, m1, m2, m3⟩ := k4 j r hr
  exact ⟨kv, vv, e1, hby m1, hby m2, m3⟩
theorem Safe.nil (W : World) (k : Nat) : Safe [] W k := ⟨by simp, fun b hb => by cases hb⟩
theorem fo.Src.below {V W : World} {f : Nat → Value} {A : Option Addr} {bs : List Bat} (h : fo.Src f A bs V) (hb : Below V.heap.size V W) : fo.Src f A bs W := ((h.dep (Z := fun _ => True) fun _ _ => trivial).below hb).now

set_option maxRecDepth 100000 in
set_option maxHeartbeats 4000000 in
theorem fo.walk1_in (n : Nat) (hn : 2 ≤ n) (l Bp : Nat) (Bs : List Nat) (A : Option Addr) (m c : Nat) (bs : List Bat) (f : Nat → Value) (J Jx : List FoX → World → Prop) (W : World) (hlen : bs.length = m) (hsm : fo.Small bs)
    (hi : InB Bs W) (hbp : Blk W Bp 31 #[.slice A m c]) (hsrc : Dep (Safe Bs W) W (fo.Src f A bs)) (hJ : AbidesFrom W.heap.size J)
    (hY : ∀ pre x V, J pre V → fo.R Bs x V → fo.Nx bs pre x → YieldAt Fence.wide (n - 1) Try.prog l (fo.encs x) V fun e V' =>
      (e = .returned (.bool true) ∧ J (pre ++ [x]) V' ∧ Kept Bs V V') ∨ (e = .returned (.bool false) ∧ Jx (pre ++ [x]) V' ∧ Kept Bs V V')) (h0 : J [] W) :
    CallsIn Fence.wide n Try.prog 56 #[.func (.yield l) #[] #[], .pointer (some ⟨Bp, 0, none⟩)] W (fo.WPost bs J Jx) := by
  refine callsIn_of_wp Try.func56 rfl trivial ?_ rfl
  simp only [Try.ntmps56, List.size_toArray, List.length_cons, List.length_nil, Nat.reduceAdd, Nat.reduceSub, Array.replicate_succ, Array.replicate_zero, List.push_toArray, List.append_toArray, List.nil_append, List.cons_append]
  have hJn : ∀ pre V V', J pre V → Below V.heap.size V V' → J pre V' := fun pre V V' h hb => hJ pre V V' none h (grown_by hb) fun r e => by cases e
  have HJN := Lib.hid hJn; clear hJn hJ
  have HY := Lib.hid hY; clear hY
  have HLEN := Lib.hid hlen; clear hlen
  have HI := Lib.hid hi; clear hi
  have HSRC := Lib.hid hsrc; clear hsrc
  have H0 := Lib.hid h0; clear h0
  have hm6 : m ≤ 1000000 := by rw [← HLEN.out]; exact hsm.1
  have HSM := Lib.hid hsm; clear hsm
  have c1 := hbp.cell 0 (v := .slice A m c) rfl
  clear hbp
  gi_wp2_with fail
  clear c1
  gi_loopw [9] (fun s9 wr => ∃ (pre : List FoX) (k : Nat), s9 = .int .i64 (k : Int) ∧ k ≤ m ∧ pre.map Prod.fst = rc.flat (bs.take k) ∧ J pre wr ∧ InB Bs wr ∧ Dep (Safe Bs wr) wr (fo.Src f A bs)) (fun s9 _ => m - (intOf s9).toNat)
  case atStart => exact ⟨[], 0, rfl, by omega, rfl, H0.out, HI.out, HSRC.out⟩
  case round =>
    obtain ⟨pre, k, rfl, hk, hpre, hj, hi, hsrc⟩ := hrel
    clear HI HSRC H0
    have HPRE := Lib.hid hpre; clear hpre
    have HJ := Lib.hid hj; clear hj
    have HI := Lib.hid hi; clear hi
    have HSRC := Lib.hid hsrc; clear hsrc
    by_cases hkm : k < m
    · have hkm' : (k : Int) < m := by omega
      obtain ⟨x, hx⟩ : ∃ x, bs[k]? = some x := ⟨_, List.getElem?_eq_getElem (by rw [HLEN.out]; exact hkm)⟩
      obtain ⟨hrl, hrs⟩ := HSM.out.2 x (List.mem_of_getElem? hx)
      obtain ⟨b2, off2, v2, hA2, hb2, e0, e1, e2, e3, e4, e5, hrecs, -⟩ := HSRC.out.now.bats.at' hx
      subst hA2
      have hv5 : f (k * 6 + 5) = v2 := by
        have hkl := (List.getElem?_eq_some_iff.1 hx).1
        obtain ⟨b9, o9, h9, -, h8⟩ := HSRC.out.now.1 (by omega)
        obtain ⟨rfl, rfl⟩ : b2 = b9 ∧ off2 = o9 := by simpa using h9
        have h7 := h8 (k * 6 + 5) (by omega)
        rw [← Nat.add_assoc, e5] at h7
        exact (Option.some.inj h7).symm
      obtain ⟨A4, c4, V4, rfl, hmc, hc4, -⟩ := id hrecs
      obtain ⟨p, hp⟩ : ∃ p, p = x.recs.length := ⟨_, rfl⟩
      rw [← hp] at e5 hmc hrl
      have HX := Lib.hid (And.intro hx (And.intro hp hv5)); clear hx hp hrecs hv5
      have HRS := Lib.hid hrs; clear hrs
      gi_wp2_with fail
      obtain ⟨g, hg⟩ : ∃ g, g = wr.heap.size := ⟨_, rfl⟩
      obtain ⟨w2, hw2⟩ : ∃ w2, w2 = wr.alloc (.cells #[.int .i64 x.base, .int .i64 x.last, .int .i64 x.prod, .int .i64 x.epoch, .int .i64 x.seq, .slice A4 p c4] 46) := ⟨_, rfl⟩
      rw [← hw2, ← hg]
      have hb2' : Below wr.heap.size wr w2 := by rw [hw2]; exact (Below.refl _ _).alloc (Nat.le_refl _) _
      have H2 := Lib.hid (And.intro (HJN.out pre wr w2 HJ.out hb2') (And.intro (HI.out.below hb2') (HSRC.out.belowS HI.out hb2')))
      clear hw2 hg hb2' e0 e1 e2 e3 e4 e5 HJ HI HSRC
      gi_loopw [16] (fun s16 wx => ∃ (pre2 : List FoX) (j : Nat), s16 = .int .i64 (j : Int) ∧ j ≤ p ∧ pre2.map Prod.fst = rc.flat (bs.take k) ++ x.recs.take j ∧ J pre2 wx ∧ InB Bs wx ∧ Dep (Safe Bs wx) wx (fo.Src f (some ⟨b2, off2, none⟩) bs)) (fun s16 _ => p - (intOf s16).toNat)
      case atStart => exact ⟨pre, 0, rfl, by omega, by rw [HPRE.out, List.take_zero, List.append_nil], H2.out.1, H2.out.2.1, H2.out.2.2⟩
      case round =>
        obtain ⟨pre2, j, rfl, hj, hpre2, hjj, hi, hsrc⟩ := hrel
        clear H2
        have HPR2 := Lib.hid hpre2; clear hpre2
        have HJ := Lib.hid hjj; clear hjj
        have HI := Lib.hid hi; clear hi
        have HSRC := Lib.hid hsrc; clear hsrc
        by_cases hjp : j < p
        · have hjp' : (j : Int) < p := by omega
          obtain ⟨y, hy⟩ : ∃ y, x.recs[j]? = some y := ⟨_, List.getElem?_eq_getElem (by rw [← HX.out.2.1]; exact hjp)⟩
          obtain ⟨hkl, hvl⟩ := HRS.out y (List.mem_of_getElem? hy)
          have hrecs := HSRC.out.now.recs HX.out.1 HX.out.2.2
          obtain ⟨pr, off, c', kv, vv, hA, -, -, hpr, d0, d1, d2, d3, d4, d5, hkk, hvv, hio, hti⟩ := hrecs.at' hy
          obtain ⟨rfl, rfl⟩ : A4 = some ⟨pr, off, none⟩ ∧ c4 = c' := by simpa using hA
          obtain ⟨Ak, ck, rfl, hka, hk1, hk2, hk3⟩ := hkk
          obtain ⟨Av, cv, rfl, hva, hv1, hv2, hv3⟩ := hvv
          have hwb : ∀ o, Below wr.heap.size wr (wr.alloc o) := fun o => (Below.refl _ _).alloc (Nat.le_refl _) _
          have hcp := fo.copy_any y Ak y.key.length ck Av y.val.length cv (wr.alloc (.cells #[.int .i64 y.off, .int .i64 y.time, .bool y.hasKey, .slice Ak y.key.length ck, .bool y.hasVal, .slice Av y.val.length cv] 34)) (hka.below (hwb _) (Nat.le_refl _)) rfl hkl (hva.below (hwb _) (Nat.le_refl _)) rfl hvl
          unfold fo.CopyPost fo.cells at hcp
          have HCP := Lib.hid (And.intro hcp (And.intro (HJN.out pre2 wr _ HJ.out (hwb (.cells #[.int .i64 y.off, .int .i64 y.time, .bool y.hasKey, .slice Ak y.key.length ck, .bool y.hasVal, .slice Av y.val.length cv] 34))) (And.intro (HI.out.below (hwb (.cells #[.int .i64 y.off, .int .i64 y.time, .bool y.hasKey, .slice Ak y.key.length ck, .bool y.hasVal, .slice Av y.val.length cv] 34))) (HSRC.out.belowS HI.out (hwb (.cells #[.int .i64 y.off, .int .i64 y.time, .bool y.hasKey, .slice Ak y.key.length ck, .bool y.hasVal, .slice Av y.val.length cv] 34))))))
          have HB := Lib.hid (And.intro hk3 (And.intro hv3 (And.intro hio (And.intro hti hy))))
          clear hcp hwb hka hva hk3 hv3 hio hti hy hrecs hA HJ HI HSRC
          gi_wp2_with fail
          refine ⟨trivial, fun _ => by omega, ?_⟩
          refine (callsIn_wide.2 HCP.out.1).mono ?_
          rintro e w4 ⟨Ak', ck', Av', cv', rfl, hOk, hOv, hb4⟩
          obtain ⟨hk3, hv3, hio, hti, hy⟩ := HB.out
          have hj4 := HJN.out pre2 _ w4 HCP.out.2.1 hb4
          have hi3 := HCP.out.2.2.1
          have hi4 := hi3.below hb4
          have hs4 := HCP.out.2.2.2.belowS hi3 hb4
          have hdk : Dep (Safe Bs w4) w4 (fun U => At U Ak' y.key.length (byteAt y.key)) := Dep.at' hOk.1 fun hp b off e => (Safe.new hi3 (hOk.2.2.2.1 hp b off e)).below hi3 hb4
          have hdv : Dep (Safe Bs w4) w4 (fun U => At U Av' y.val.length (byteAt y.val)) := Dep.at' hOv.1 fun hp b off e => (Safe.new hi3 (hOv.2.2.2.1 hp b off e)).below hi3 hb4
          have hR4 : fo.R Bs (y, (Ak', ck'), (Av', cv')) w4 := ⟨hi4, (hdk.both hdv).imp fun U hu => ⟨_, _, rfl, ⟨Ak', ck', rfl, hu.1, hOk.2.1, hOk.2.2.1, hk3⟩, ⟨Av', cv', rfl, hu.2, hOv.2.1, hOv.2.2.1, hv3⟩, hio, hti⟩⟩
          have hnext : (pre2 ++ [(y, (Ak', ck'), (Av', cv'))]).map Prod.fst = rc.flat (bs.take k) ++ x.recs.take (j + 1) := by
            obtain ⟨hjl, hjy⟩ := List.getElem?_eq_some_iff.1 hy
            rw [List.map_append, HPR2.out, List.take_succ_eq_append_getElem hjl, hjy, List.append_assoc]
            rfl
          have hNx : fo.Nx bs pre2 (y, (Ak', ck'), (Av', cv')) := ⟨x.recs.drop (j + 1) ++ rc.flat (bs.drop (k + 1)), by
            rw [hnext, fo.flat_split HX.out.1, List.append_assoc, ← List.append_assoc (x.recs.take (j + 1)), List.take_append_drop]⟩
          have hyy := HY.out pre2 (y, (Ak', ck'), (Av', cv')) w4 hj4 hR4 hNx
          unfold fo.encs fo.xcells fo.cells at hyy
          dsimp only at hyy
          obtain ⟨fn, tmps, assign, body, hyq, hRq⟩ := hyy
          have HRQ := Lib.hid hRq; clear hRq
          have HS4 := Lib.hid (And.intro hi4 hs4); clear hi4 hs4
          have HNX := Lib.hid (And.intro hnext hNx); clear hnext hNx hdk hdv hR4 hj4 hi3 hOk hOv hk3 hv3 hio hti hy hb4 HCP HB
          gi_wp2_with fail
          refine ⟨fun _ => by omega, HRQ.out.mono ?_⟩
          clear hyq
          rintro e W3 (⟨rfl, hJ3, hk3⟩ | ⟨rfl, hJx3, hk3⟩)
          · have hs3 := HS4.out.2.kept hk3
            have hi3 := hk3.2.2.2 HS4.out.1
            have HK3 := Lib.hid (And.intro hJ3 (And.intro hi3 hs3)); clear hJ3 hi3 hs3 hk3
            gi_wp2_with fail
            go_roundw
            case rel => exact ⟨_, j + 1, by go_num, by omega, HNX.out.1, HK3.out.1, HK3.out.2.1, HK3.out.2.2⟩
            case measure => simp [intOf]; omega
          · clear hk3
            gi_wp2
            refine bodyPost_ret (results_none rfl _ _ _) rfl ?_
            exact ⟨⟨_, rfl⟩, .inr ⟨_, HNX.out.2, hJx3⟩⟩
        · obtain rfl : j = p := by omega
          gi_wp2_with fail
          go_roundw
          case rel => exact ⟨pre2, k + 1, by go_num, by omega, by rw [HPR2.out, HX.out.2.1, List.take_length]; exact (rc.flat_take HX.out.1).symm, HJ.out, HI.out, HSRC.out⟩
          case measure => simp [intOf]; omega
    · obtain rfl : k = m := by omega
      have hend : pre.map Prod.fst = rc.flat bs := by
        have h := HPRE.out
        rw [List.take_of_length_le (by rw [HLEN.out]; exact Nat.le_refl _)] at h
        exact h
      have HEND := Lib.hid hend; clear hend
      gi_wp2_with fail
      refine bodyPost_ret (results_none rfl _ _ _) rfl ?_
      exact ⟨⟨_, rfl⟩, .inl ⟨pre, HEND.out, HJ.out⟩⟩

theorem fo.hands (n : Nat) (hn : 2 ≤ n) (Bp : Nat) (Bs : List Nat) (A : Option Addr) (m c : Nat) (bs : List Bat) (f : Nat → Value) (w : World) (hlen : bs.length = m) (hsm : fo.Small bs) (hi : InB Bs w) (hbp : Blk w Bp 31 #[.slice A m c]) (hsrc : Dep (Safe Bs w) w (fo.Src f A bs)) :
    Hands Fence.wide n Try.prog 56 #[.pointer (some ⟨Bp, 0, none⟩)] fo.encs (Kept Bs) (fo.R Bs) (fo.S bs) (fo.Sp bs) (fo.Nx bs) w :=
  fun l J Jx W hW hJ _ hY h0 => fo.walk1_in n hn l Bp Bs A m c bs f J Jx W hlen hsm (hi.below hW) ((hW.block Bp hbp.lt).trans hbp) (hsrc.belowS hi hW) hJ hY h0
theorem fo.walk_any (A : Option Addr) (m c : Nat) (w : World) :
    Calls Try.prog 43 #[.slice A m c] w fun e w' => e = .returned (.func (.func 56) #[] #[.pointer (some ⟨w.heap.size, 0, none⟩)]) ∧ w' = w.alloc (.cells #[.slice A m c] 31) := by
  go_enter Try.func43, Try.ntmps43
  go_wp2
  go_ret
  exact ⟨rfl, rfl⟩
theorem fo.R_own (B : Nat) (Bs : List Nat) : OwnFrom B (fo.R Bs) := fun _ _ _ _ h hg hr => ⟨h.1.grown hg fun r e => (hr r e).2, h.2.grown h.1 hg fun r e => (hr r e).2⟩
end
section
open Go.RowKit
set_option maxRecDepth 20000

theorem fo.infoB : (Try.prog.info? 46).map (fun i => (i.zero, i.size, i.bytes)) = some (some (.agg #[.int .i64 0, .int .i64 0, .int .i64 0, .int .i64 0, .int .i64 0, .slice none 0 0]), 6, 64) := by kernel_rfl
theorem fo.infoB6 : (Try.prog.info? 46).map (·.size) = some 6 := by kernel_rfl
def fo.bcells (b : Bat) (A : Option Addr) (m c : Nat) : Array Value := #[.int .i64 b.base, .int .i64 b.last, .int .i64 b.prod, .int .i64 b.epoch, .int .i64 b.seq, .slice A m c]
def fo.CopyBPost (b : Bat) (m : Nat) (w : World) (e : Ending) (w' : World) : Prop :=
  ∃ A c, e = .returned (.agg (fo.bcells b A m c)) ∧ RowR w' w.heap.size (.slice A m c) b.recs ∧ Below w.heap.size w w'
set_option maxHeartbeats 4000000 in
theorem fo.copyb_any (b : Bat) (A4 : Option Addr) (m c4 : Nat) (w : World) (hrv : RecsV w (.slice A4 m c4) b.recs) (hm : b.recs.length = m) (hm1 : m ≤ 1000000) (hs : ∀ r ∈ b.recs, r.key.length ≤ 1000000 ∧ r.val.length ≤ 1000000) :
    Calls Try.prog 41 #[.agg (fo.bcells b A4 m c4)] w (fo.CopyBPost b m w) := by
  have HRV := Lib.hid hrv; clear hrv
  have HM := Lib.hid hm; clear hm
  have HSZ := Lib.hid hs; clear hs
  obtain ⟨i0, hi, hz0, hz1', hz2⟩ := info_parts rc.info
  have HI := Lib.hid (And.intro hi (And.intro hz0 (And.intro hz1' hz2))); clear hi hz0 hz1' hz2
  unfold fo.bcells
  go_enter Try.func41, Try.ntmps41
  go_upto_region 1 with fail
  obtain ⟨g, hg⟩ : ∃ g, g = w.heap.size := ⟨_, rfl⟩
  obtain ⟨w1, hw1⟩ : ∃ w1, w1 = (w.alloc (.cells #[.int .i64 b.base, .int .i64 b.last, .int .i64 b.prod, .int .i64 b.epoch, .int .i64 b.seq, .slice A4 m c4] 46)).alloc (.cells #[.int .i64 0, .int .i64 0, .int .i64 0, .int .i64 0, .int .i64 0, .slice none 0 0] 46) := ⟨_, rfl⟩
  rw [← hw1, ← hg]
  have hb1 : Below w.heap.size w w1 := by rw [hw1]; exact ((Below.refl _ _).alloc (Nat.le_refl _) _).alloc (by simp) _
  have hk1 : Blk w1 g 46 #[.int .i64 b.base, .int .i64 b.last, .int .i64 b.prod, .int .i64 b.epoch, .int .i64 b.seq, .slice A4 m c4] := by rw [hw1, hg]; exact (Below.heap_alloc _ _ _ (by simp)).trans (Blk.new w _ _)
  have hz1 : Blk w1 (g + 1) 46 #[.int .i64 0, .int .i64 0, .int .i64 0, .int .i64 0, .int .i64 0, .slice none 0 0] := by
    have h := Blk.new (w.alloc (.cells #[.int .i64 b.base, .int .i64 b.last, .int .i64 b.prod, .int .i64 b.epoch, .int .i64 b.seq, .slice A4 m c4] 46)) 46 #[.int .i64 0, .int .i64 0, .int .i64 0, .int .i64 0, .int .i64 0, .slice none 0 0]
    rw [World.size_alloc, ← hg, ← hw1] at h
    exact h
  have hs1 : w1.heap.size = g + 2 := by rw [hw1, hg]; simp
  have HG := Lib.hid hg; clear hw1 hg
  obtain ⟨wm, hmk, hom, hgm⟩ := run_make_own (P := Try.prog) w1 (g + 2) 44 34 i0 _ 6 Try.underlying44 HI.out.1 HI.out.2.1 HI.out.2.2.1 .i64 .i64 m (by rw [HI.out.2.2.2]; omega) (by unfold maxLen; omega) (by omega)
  have hbm : Below w1.heap.size w1 wm := (Below.refl _ w1).grown hgm (Nat.le_refl _) (by simp)
  have hkm : Blk wm g 46 #[.int .i64 b.base, .int .i64 b.last, .int .i64 b.prod, .int .i64 b.epoch, .int .i64 b.seq, .slice A4 m c4] := (hbm.block g hk1.lt).trans hk1
  have hzm : Blk wm (g + 1) 46 #[.int .i64 0, .int .i64 0, .int .i64 0, .int .i64 0, .int .i64 0, .slice none 0 0] := (hbm.block (g + 1) hz1.lt).trans hz1
  have hrow0 : RowR wm (g + 2) (.slice (some ⟨w1.heap.size, 0, none⟩) 0 m) [] := ⟨[], hom, fun i r h => by cases h⟩
  have k5 := hk1.cell 5 rfl
  have l5 := hkm.cell 5 rfl
  have HR0 := Lib.hid (And.intro hrow0 (hb1.trans (hbm.mono hb1.size))); clear hrow0 hom hgm
  have HKZ := Lib.hid (And.intro hkm hzm); clear hkm hzm hk1 hz1
  have hsm : g + 2 ≤ wm.heap.size := by have := hbm.size; omega
  generalize hp0 : w1.heap.size = p0 at *
  clear hp0 hbm hb1 hs1
  go_wp2_with fail
  clear hmk k5 l5
  go_loopw [3, 13] (fun s3 s13 wx => ∃ (j : Nat) (v : Value), v = s3 ∧ s13 = .int .i64 (j : Int) ∧ j ≤ m ∧ RowR wx (g + 2) v (b.recs.take j) ∧ Below (g + 2) wm wx) (fun _ s13 _ => m - (intOf s13).toNat)
  case atStart => exact ⟨0, _, rfl, rfl, by omega, HR0.out.1, Below.refl _ _⟩
  case round =>
    obtain ⟨j, v, rfl, rfl, hj, hrow, hbx⟩ := hrel
    have HBX := Lib.hid hbx; clear hbx
    have HROW := Lib.hid hrow; clear hrow
    have hbw : Below w.heap.size w wr := HR0.out.2.trans (HBX.out.mono (by have := HG.out; omega))
    have HBW := Lib.hid hbw; clear hbw
    by_cases hlt : j < m
    · have hlt' : (j : Int) < m := by omega
      obtain ⟨y, hy⟩ : ∃ y, b.recs[j]? = some y := ⟨_, List.getElem?_eq_getElem (by rw [HM.out]; exact hlt)⟩
      obtain ⟨hyk, hyv⟩ := HSZ.out y (List.mem_of_getElem? hy)
      obtain ⟨pr, off, c', kv, vv, hA, -, -, hpr, d0, d1, d2, d3, d4, d5, ⟨Ak, ck, rfl, hka, -, -, hkb⟩, ⟨Av, cv, rfl, hva, -, -, hvb⟩, hio, hti⟩ := HRV.out.at' hy
      obtain ⟨rfl, rfl⟩ : A4 = some ⟨pr, off, none⟩ ∧ c4 = c' := by simp at hA; exact ⟨hA.1, hA.2.2⟩
      obtain ⟨nk, hnk⟩ : ∃ nk, nk = y.key.length := ⟨_, rfl⟩
      obtain ⟨nv, hnv⟩ : ∃ nv, nv = y.val.length := ⟨_, rfl⟩
      rw [← hnk] at d3 hka hyk
      rw [← hnv] at d5 hva hyv
      have hb0 := HBW.out
      have e0 := (hb0.cell (p := ⟨pr, off + j * 6, none⟩) hpr).trans d0
      have e1 := (hb0.cell (p := ⟨pr, off + j * 6 + 1, none⟩) hpr).trans d1
      have e2 := (hb0.cell (p := ⟨pr, off + j * 6 + 2, none⟩) hpr).trans d2
      have e3 := (hb0.cell (p := ⟨pr, off + j * 6 + 3, none⟩) hpr).trans d3
      have e4 := (hb0.cell (p := ⟨pr, off + j * 6 + 4, none⟩) hpr).trans d4
      have e5 := (hb0.cell (p := ⟨pr, off + j * 6 + 5, none⟩) hpr).trans d5
      have hwa : ∀ o, Below wr.heap.size wr (wr.alloc o) := fun o => (Below.refl _ _).alloc (Nat.le_refl _) _
      have hcp := fun o => fo.copy_any y Ak nk ck Av nv cv (wr.alloc o) ((hka.below hb0 (Nat.le_refl _)).below (hwa o) (Nat.le_refl _)) hnk.symm hyk ((hva.below hb0 (Nat.le_refl _)).below (hwa o) (Nat.le_refl _)) hnv.symm hyv
      unfold fo.CopyPost fo.cells at hcp
      have HCP := Lib.hid hcp; clear hcp
      have HY := Lib.hid (And.intro hkb (And.intro hvb (And.intro hio (And.intro hti (And.intro hy (And.intro hnk hnv)))))); clear hkb hvb hio hti hy hnk hnv hb0 d0 d1 d2 d3 d4 d5 hka hva hA
      obtain ⟨xs0, hown0, hcells0⟩ := HROW.out
      have hlen0 : (b.recs.take j).length = j := by rw [List.length_take, HM.out]; omega
      rw [hlen0] at hown0
      obtain ⟨Ar, cr, rfl, -, -⟩ := own_at hown0
      have hrlt := hown0.lt
      have hrs : g + 2 ≤ wr.heap.size := by have := HBX.out.size; omega
      clear hown0 hcells0
      go_wp2_with fail
      refine (HCP.out _).mono ?_
      rintro e w4 ⟨Ak2, ck2, Av2, cv2, rfl, hOk, hOv, hb4⟩
      have hb14 : Below wr.heap.size wr w4 := (hwa _).trans (hb4.mono (by simp))
      have hb15 : Below wr.heap.size wr (w4.alloc (.cells #[.int .i64 y.off, .int .i64 y.time, .bool y.hasKey, .slice Ak2 nk ck2, .bool y.hasVal, .slice Av2 nv cv2] 34)) := hb14.alloc hb14.size _
      obtain ⟨xs, hown, hcells⟩ := HROW.out.below hb15
      have hxl := hown.1
      rw [hlen0] at hown hxl
      have hs5 : wr.heap.size + 1 ≤ w4.heap.size := by have := hb4.size; simp at this; omega
      have hs6 : (w4.alloc (.cells #[.int .i64 y.off, .int .i64 y.time, .bool y.hasKey, .slice Ak2 nk ck2, .bool y.hasVal, .slice Av2 nv cv2] 34)).heap.size = w4.heap.size + 1 := by simp
      have hkey : ∀ {A : Option Addr} {n c : Nat} {L : List Nat} {o : Obj}, L.length = n → (∀ x ∈ L, x < 256) → fo.Own (wr.alloc o).heap.size w4 A n c L → KeyR (w4.alloc (.cells #[.int .i64 y.off, .int .i64 y.time, .bool y.hasKey, .slice Ak2 nk ck2, .bool y.hasVal, .slice Av2 nv cv2] 34)) (g + 2) (.slice Ar j cr) (.slice A n c) L := fun {A n c L o} hl h256 h => by
        subst hl
        refine ⟨⟨A, c, rfl, h.1.alloc _, h.2.1, h.2.2.1, h256⟩, fun q hq => ?_⟩
        have h5 := h.2.2.2.2 q hq
        simp only [World.size_alloc] at h5 ⊢
        refine ⟨by omega, by omega, fun hh => ?_⟩
        have := (hrlt q hh).2
        omega
      have hkk := hkey HY.out.2.2.2.2.2.1.symm HY.out.1 hOk
      have hvv := hkey HY.out.2.2.2.2.2.2.symm HY.out.2.1 hOv
      have happ : ∀ v2 w9, w9.ownsRow (g + 2) 34 6 v2 (j + 1) (xs ++ [.int .i64 y.off, .int .i64 y.time, .bool y.hasKey, .slice Ak2 nk ck2, .bool y.hasVal, .slice Av2 nv cv2]) → (w4.alloc (.cells #[.int .i64 y.off, .int .i64 y.time, .bool y.hasKey, .slice Ak2 nk ck2, .bool y.hasVal, .slice Av2 nv cv2] 34)).grownBy w9 (Value.slice Ar j cr).ownBlock → (v2.ownBlock = (Value.slice Ar j cr).ownBlock ∨ v2.ownBlock = some (w4.alloc (.cells #[.int .i64 y.off, .int .i64 y.time, .bool y.hasKey, .slice Ak2 nk ck2, .bool y.hasVal, .slice Av2 nv cv2] 34)).heap.size) →
          RowR w9 (g + 2) v2 (b.recs.take (j + 1)) ∧ Below (g + 2) wm w9 := fun v2 w9 h1 h2 h3 => by
        obtain ⟨hjl, hjy⟩ := List.getElem?_eq_some_iff.1 HY.out.2.2.2.2.1
        refine ⟨?_, (HBX.out.trans (hb15.mono hrs)).grown h2 (by rw [hs6]; omega) (fun q hq => (hrlt q hq).1)⟩
        rw [List.take_succ_eq_append_getElem hjl, hjy]
        exact RowR.append (r := y) hcells (by rw [hlen0]; exact hxl) hkk hvv HY.out.2.2.1 HY.out.2.2.2.1 (by rw [hlen0]; exact h1) h2 h3
      have HAPP := Lib.hid happ; clear happ hcells hxl hkk hvv hkey
      have HOWN := Lib.hid hown; clear hown hOk hOv hb4 hb14 hb15 hwa e0 e1 e2 e3 e4 e5 hlen0
      go_wp2_with (at_builtin; refine wpList_append_own_at _ rfl (.tmp 17) (.tmp 20) 44 rfl (g + 2) 34 i0 _ 6 80 Try.underlying44 HI.out.1 HI.out.2.1 HI.out.2.2.1 HI.out.2.2.2 rfl (by decide) (.slice Ar j cr) j xs rfl HOWN.out ⟨w4.heap.size, 0, none⟩ 1 1 [.int .i64 y.off, .int .i64 y.time, .bool y.hasKey, .slice Ak2 nk ck2, .bool y.hasVal, .slice Av2 nv cv2] rfl rfl (cells_new _ [.int .i64 y.off, .int .i64 y.time, .bool y.hasKey, .slice Ak2 nk ck2, .bool y.hasVal, .slice Av2 nv cv2] _ _ rfl) (by simp [Value.oneCell']) (by unfold maxLen; omega) (by omega) (by simp; omega) ?_; intro v2 w9 h1 h2 _ h3)
      have HN := Lib.hid (HAPP.out v2 w9 h1 h2 h3); clear h1 h2 h3
      go_wp2_with fail
      go_roundw
      case rel => exact ⟨j + 1, v2, rfl, by go_num, by omega, HN.out.1, HN.out.2⟩
      case measure => simp [intOf]; omega
    · obtain rfl : j = m := by omega
      have hrow := HROW.out
      rw [List.take_of_length_le (by rw [HM.out]; exact Nat.le_refl _)] at hrow
      obtain ⟨xs0, hown0, -⟩ := id hrow
      rw [HM.out] at hown0
      obtain ⟨Ar, cr, rfl, -, -⟩ := own_at hown0
      clear hown0
      have hk : Blk wr g 46 #[.int .i64 b.base, .int .i64 b.last, .int .i64 b.prod, .int .i64 b.epoch, .int .i64 b.seq, .slice A4 j c4] := (HBX.out.block g (by omega)).trans HKZ.out.1
      have hz : Blk wr (g + 1) 46 #[.int .i64 0, .int .i64 0, .int .i64 0, .int .i64 0, .int .i64 0, .slice none 0 0] := (HBX.out.block (g + 1) (by omega)).trans HKZ.out.2
      have c5 := hk.cell 5 rfl
      have f5 := hk.frozen 5
      obtain ⟨w5, hw5⟩ : ∃ w5, w5 = wr.setCell ⟨g, 5, none⟩ (.slice Ar j cr) := ⟨_, rfl⟩
      have hc5 : Chg wr w5 (fun k => k = g) := by rw [hw5]; exact Chg.setCell _ _ _ _
      have hk5 : Blk w5 g 46 #[.int .i64 b.base, .int .i64 b.last, .int .i64 b.prod, .int .i64 b.epoch, .int .i64 b.seq, .slice Ar j cr] := by rw [hw5]; exact hk.set 5 _
      have hz5 : Blk w5 (g + 1) 46 #[.int .i64 0, .int .i64 0, .int .i64 0, .int .i64 0, .int .i64 0, .slice none 0 0] := hc5.blk hz (by omega)
      have hr5 : RowR w5 (g + 2) (.slice Ar j cr) b.recs := hrow.chg hc5 fun q h1 _ h2 => by have h2 : q = g := h2; omega
      have hb5 : Below w.heap.size w w5 := HBW.out.trans (hc5.below HBW.out.size fun k hk => by have hk : k = g := hk; rw [hk, HG.out]; exact Nat.le_refl _)
      have HW5 := Lib.hid hw5; clear hw5
      have H5 := Lib.hid (And.intro hr5 hb5); clear hr5 hb5 hc5 hk hz hrow
      have k0 := hk5.cell 0 rfl
      have k1 := hk5.cell 1 rfl
      have k2 := hk5.cell 2 rfl
      have k3 := hk5.cell 3 rfl
      have k4 := hk5.cell 4 rfl
      have k5 := hk5.cell 5 rfl
      have HZ := Lib.hid hz5; clear hz5 hk5
      go_upto_region 8 with fail
      rw [← HW5.out]
      clear HW5 c5 f5
      go_wp2_with (refine wpList_store_row rfl 46 (.tmp 2) (.tmp 25) rfl (g + 1) #[.int .i64 b.base, .int .i64 b.last, .int .i64 b.prod, .int .i64 b.epoch, .int .i64 b.seq, .slice Ar j cr] rfl rfl 46 _ HZ.out fo.infoB6 rfl (by simp [Value.oneCell']) ?_)
      have hc6 := fo.chg_row w5 (g + 1) #[.int .i64 b.base, .int .i64 b.last, .int .i64 b.prod, .int .i64 b.epoch, .int .i64 b.seq, .slice Ar j cr]
      have hz6 := fo.blk_row HZ.out #[.int .i64 b.base, .int .i64 b.last, .int .i64 b.prod, .int .i64 b.epoch, .int .i64 b.seq, .slice Ar j cr]
      generalize w5.setRow (g + 1) #[.int .i64 b.base, .int .i64 b.last, .int .i64 b.prod, .int .i64 b.epoch, .int .i64 b.seq, .slice Ar j cr] = w6 at *
      refine bodyPost_ret (res_cell1 rfl _ _ _ _ _ rfl hz6 Try.underlying46 rfl fo.infoB6) rfl ?_
      exact ⟨Ar, cr, rfl, (H5.out.1.chg hc6 fun q h1 _ h2 => by have h2 : q = g + 1 := h2; omega).up (by have := HG.out; omega), H5.out.2.trans (hc6.below H5.out.2.size fun k hk => by have hk : k = g + 1 := hk; have := HG.out; omega)⟩
end
section
open Go.RowKit
set_option maxRecDepth 20000

/-- A copy of a batch, in a row at v. -/
def fo.Cp (w : World) (v : Value) (cs : List Value) (b : Bat) : Prop :=
  ∃ u, cs = [.int .i64 b.base, .int .i64 b.last, .int .i64 b.prod, .int .i64 b.epoch, .int .i64 b.seq, u] ∧ Dep (fun q => v.ownBlock ≠ some q) w (fun U => RecsV U u b.recs) ∧ i64ok b.base ∧ i64ok b.last ∧ i64ok b.prod ∧ i64ok b.epoch ∧ i64ok b.seq
theorem fo.Cp.below {w w' : World} {v : Value} {cs : List Value} {b : Bat} (h : fo.Cp w v cs b) (hb : Below w.heap.size w w') : fo.Cp w' v cs b := by
  obtain ⟨u, h1, h2, h3⟩ := h
  exact ⟨u, h1, h2.below hb, h3⟩
theorem fo.Cp.grown {w w' : World} {v v' : Value} {cs : List Value} {b : Bat} (h : fo.Cp w v cs b) (hg : w.grownBy w' v.ownBlock) (hl : v'.ownBlock = v.ownBlock ∨ v'.ownBlock = some w.heap.size) : fo.Cp w' v' cs b := by
  obtain ⟨u, h1, h2, h3⟩ := h
  refine ⟨u, h1, h2.move (fun k o hz ho _ => ⟨(hg.block k (heap_in ho) fun e => hz e.symm).trans ho, fun e => ?_⟩) hg.size, h3⟩
  rcases hl with h | h
  · exact hz (h ▸ e)
  · rw [h] at e
    have e1 : w.heap.size = k := by simpa using e
    have := heap_in ho
    omega
/-- A row of copies. -/
def fo.Cps (w : World) (v : Value) (xs : List Value) (l : List Bat) : Prop := ∀ (i : Nat) (b : Bat), l[i]? = some b → fo.Cp w v (cellsAt (fun j => xs.getD j undef) i 6) b
theorem fo.Cps.snoc {w w' : World} {v v' : Value} {xs cs : List Value} {l : List Bat} {b : Bat} (h : fo.Cps w v xs l) (hx : xs.length = l.length * 6) (hb : fo.Cp w v cs b) (hcs : cs.length = 6) (hg : w.grownBy w' v.ownBlock) (hl : v'.ownBlock = v.ownBlock ∨ v'.ownBlock = some w.heap.size) : fo.Cps w' v' (xs ++ cs) (l ++ [b]) := by
  intro i x hi
  by_cases hlt : i < l.length
  · rw [List.getElem?_append_left hlt] at hi
    rw [show cellsAt (fun j => (xs ++ cs).getD j undef) i 6 = cellsAt (fun j => xs.getD j undef) i 6 from cellsAt_congr fun k hk => by
      simp only [List.getD]
      rw [List.getElem?_append_left (by omega)]]
    exact (h i x hi).grown hg hl
  · have hil : i = l.length := by
      have := (List.getElem?_eq_some_iff.1 hi).1
      rw [List.length_append, List.length_singleton] at this
      omega
    subst hil
    rw [List.getElem?_append_right (Nat.le_refl _), Nat.sub_self] at hi
    obtain rfl : b = x := by simpa using hi
    have e : cellsAt (fun j => (xs ++ cs).getD j undef) l.length 6 = cs := by
      match cs, hcs with
      | [c0, c1, c2, c3, c4, c5], _ =>
        unfold cellsAt
        simp only [List.range, List.range.loop, List.map_cons, List.map_nil, List.getD]
        rw [List.getElem?_append_right (by omega), List.getElem?_append_right (by omega), List.getElem?_append_right (by omega), List.getElem?_append_right (by omega), List.getElem?_append_right (by omega), List.getElem?_append_right (by omega)]
        simp [hx]
    rw [e]
    exact hb.grown hg hl
theorem fo.Cps.bats {w : World} {B : Nat} {v : Value} {xs : List Value} {l : List Bat} {n : Nat} (h : fo.Cps w v xs l) (hn : l.length = n) (ho : w.ownsRow B 46 6 v n xs) : ∃ A c, v = .slice A n c ∧ n ≤ c ∧ c ≤ maxLen ∧ BatsAt w A l := by
  have hv := own_at ho
  obtain ⟨A, c, rfl, hc, hat⟩ := hv
  refine ⟨A, c, rfl, hc, own_cap ho, _, by rw [hn]; exact hat, fun i b hi => ?_⟩
  obtain ⟨u, h1, h2, h3⟩ := h i b hi
  exact ⟨u, h1, h2.now, h3⟩

def fo.AllPost (bs : List Bat) (n : Nat) (w : World) (e : Ending) (w' : World) : Prop :=
  ∃ A c, e = .returned (.slice A n c) ∧ n ≤ c ∧ c ≤ maxLen ∧ BatsAt w' A bs ∧ Below w.heap.size w w'
set_option maxHeartbeats 4000000 in
theorem fo.copyall_any (A : Option Addr) (n c : Nat) (bs : List Bat) (w : World) (hat : BatsAt w A bs) (hn : bs.length = n) (hsm : fo.Small bs) :
    Calls Try.prog 30 #[.slice A n c] w (fo.AllPost bs n w) := by
  have hn1 : n ≤ 1000000 := by rw [← hn]; exact hsm.1
  have HAT := Lib.hid hat; clear hat
  have HN := Lib.hid hn; clear hn
  have HSM := Lib.hid hsm; clear hsm
  obtain ⟨i0, hi, hz0, hz1', hz2⟩ := info_parts fo.infoB
  have HI := Lib.hid (And.intro hi (And.intro hz0 (And.intro hz1' hz2))); clear hi hz0 hz1' hz2
  obtain ⟨wm, hmk, hom, hgm⟩ := run_make_own (P := Try.prog) w w.heap.size 31 46 i0 _ 6 Try.underlying31 HI.out.1 HI.out.2.1 HI.out.2.2.1 .i64 .i64 n (by rw [HI.out.2.2.2]; omega) (by unfold maxLen; omega) (Nat.le_refl _)
  have hbm : Below w.heap.size w wm := (Below.refl _ w).grown hgm (Nat.le_refl _) (by simp)
  have H0 := Lib.hid (And.intro hom hbm); clear hom hbm hgm
  go_enter Try.func30, Try.ntmps30
  go_wp2_with fail
  clear hmk
  go_loopw [3, 11] (fun s3 s11 wx => ∃ (k : Nat) (v : Value) (xs : List Value), v = s3 ∧ s11 = .int .i64 (k : Int) ∧ k ≤ n ∧ wx.ownsRow w.heap.size 46 6 v k xs ∧ fo.Cps wx v xs (bs.take k) ∧ Below w.heap.size w wx) (fun _ s11 _ => n - (intOf s11).toNat)
  case atStart => exact ⟨0, _, [], rfl, rfl, by omega, H0.out.1, fun i b h => (by simp at h), H0.out.2⟩
  case round =>
    obtain ⟨k, v, xs, rfl, rfl, hk, hown, hcps, hbw⟩ := hrel
    have HBW := Lib.hid hbw; clear hbw
    have HOWN := Lib.hid hown; clear hown
    have HCPS := Lib.hid hcps; clear hcps
    by_cases hlt : k < n
    · have hlt' : (k : Int) < n := by omega
      obtain ⟨x, hx⟩ : ∃ x, bs[k]? = some x := ⟨_, List.getElem?_eq_getElem (by rw [HN.out]; exact hlt)⟩
      obtain ⟨b2, off2, v2, hA2, hb2, d0, d1, d2, d3, d4, d5, hrecs, i0', i1', i2', i3', i4'⟩ := HAT.out.at' hx
      subst hA2
      obtain ⟨A4, c4, V4, rfl, hmc, hc4, -⟩ := id hrecs
      obtain ⟨m, hm⟩ : ∃ m, m = x.recs.length := ⟨_, rfl⟩
      obtain ⟨hm1, hrs⟩ := HSM.out.2 x (List.mem_of_getElem? hx)
      rw [← hm] at d5 hmc hrecs hm1
      have hbw0 := HBW.out
      have e0 := (hbw0.cell (p := ⟨b2, off2 + k * 6, none⟩) hb2).trans d0
      have e1 := (hbw0.cell (p := ⟨b2, off2 + k * 6 + 1, none⟩) hb2).trans d1
      have e2 := (hbw0.cell (p := ⟨b2, off2 + k * 6 + 2, none⟩) hb2).trans d2
      have e3 := (hbw0.cell (p := ⟨b2, off2 + k * 6 + 3, none⟩) hb2).trans d3
      have e4 := (hbw0.cell (p := ⟨b2, off2 + k * 6 + 4, none⟩) hb2).trans d4
      have e5 := (hbw0.cell (p := ⟨b2, off2 + k * 6 + 5, none⟩) hb2).trans d5
      have hwa : ∀ o, Below wr.heap.size wr (wr.alloc o) := fun o => (Below.refl _ _).alloc (Nat.le_refl _) _
      have hcp := fun o => fo.copyb_any x A4 m c4 (wr.alloc o) (hrecs.below (hbw0.trans ((hwa o).mono hbw0.size)) (Nat.le_refl _)) hm.symm hm1 hrs
      unfold fo.CopyBPost fo.bcells at hcp
      have HCP := Lib.hid hcp; clear hcp
      have HX := Lib.hid (And.intro hx (And.intro hm (And.intro i0' (And.intro i1' (And.intro i2' (And.intro i3' i4')))))); clear hx hm i0' i1' i2' i3' i4' d0 d1 d2 d3 d4 d5 hrecs hrs hbw0
      obtain ⟨Ar, cr, rfl, -, -⟩ := own_at HOWN.out
      have hrlt := HOWN.out.lt
      have hws := HBW.out.size
      go_wp2_with fail
      refine (HCP.out _).mono ?_
      rintro e w4 ⟨A2, c2, rfl, hrow, hb4⟩
      have hb14 : Below wr.heap.size wr w4 := (hwa _).trans (hb4.mono (by simp))
      obtain ⟨w5, hw5⟩ : ∃ w5, w5 = w4.alloc (.cells #[.int .i64 x.base, .int .i64 x.last, .int .i64 x.prod, .int .i64 x.epoch, .int .i64 x.seq, .slice A2 m c2] 46) := ⟨_, rfl⟩
      have hb45 : Below w4.heap.size w4 w5 := by rw [hw5]; exact (Below.refl _ _).alloc (Nat.le_refl _) _
      have hb15 : Below wr.heap.size wr w5 := hb14.trans (hb45.mono hb14.size)
      have hown5 := (chg_of (P := fun _ => False) hb15).own HOWN.out fun _ _ h => h.elim
      have hcps5 : fo.Cps w5 (.slice Ar k cr) xs (bs.take k) := fun i b hi => (HCPS.out i b hi).below hb15
      have hcp5 : fo.Cp w5 (.slice Ar k cr) [.int .i64 x.base, .int .i64 x.last, .int .i64 x.prod, .int .i64 x.epoch, .int .i64 x.seq, .slice A2 m c2] x := by
        refine ⟨_, rfl, (hrow.dep.below hb45).weak fun q hq _ e => ?_, HX.out.2.2⟩
        have h1 := (hrlt q e).2
        have h2 := hq.1
        simp at h2
        omega
      have hs5 : w5.heap.size = w4.heap.size + 1 := by rw [hw5]; simp
      have hs4 := hb14.size
      have hlen0 : (bs.take k).length = k := by rw [List.length_take, HN.out]; omega
      have hxl := hown5.1
      have happ : ∀ v2 w9, w9.ownsRow w.heap.size 46 6 v2 (k + 1) (xs ++ [.int .i64 x.base, .int .i64 x.last, .int .i64 x.prod, .int .i64 x.epoch, .int .i64 x.seq, .slice A2 m c2]) → w5.grownBy w9 (Value.slice Ar k cr).ownBlock → (v2.ownBlock = (Value.slice Ar k cr).ownBlock ∨ v2.ownBlock = some w5.heap.size) →
          fo.Cps w9 v2 (xs ++ [.int .i64 x.base, .int .i64 x.last, .int .i64 x.prod, .int .i64 x.epoch, .int .i64 x.seq, .slice A2 m c2]) (bs.take (k + 1)) ∧ Below w.heap.size w w9 := fun v2 w9 h1 h2 h3 => by
        obtain ⟨hjl, hjy⟩ := List.getElem?_eq_some_iff.1 HX.out.1
        refine ⟨?_, (HBW.out.trans (hb15.mono hws)).grown h2 (by omega) (fun q hq => (hrlt q hq).1)⟩
        rw [List.take_succ_eq_append_getElem hjl, hjy]
        exact hcps5.snoc (by rw [hlen0]; exact hxl) hcp5 rfl h2 h3
      have HAPP := Lib.hid happ; clear happ hcps5 hcp5 hxl hlen0
      have HOWN5 := Lib.hid hown5; clear hown5 hrow hb4 hb14 hb15 hb45 hwa e0 e1 e2 e3 e4 e5
      have HW5 := Lib.hid hw5
      rw [hw5] at HAPP HOWN5 hs5
      clear hw5
      go_wp2_with (at_builtin; refine wpList_append_own_at _ rfl (.tmp 15) (.tmp 18) 31 rfl w.heap.size 46 i0 _ 6 64 Try.underlying31 HI.out.1 HI.out.2.1 HI.out.2.2.1 HI.out.2.2.2 rfl (by decide) (.slice Ar k cr) k xs rfl HOWN5.out ⟨w4.heap.size, 0, none⟩ 1 1 [.int .i64 x.base, .int .i64 x.last, .int .i64 x.prod, .int .i64 x.epoch, .int .i64 x.seq, .slice A2 m c2] rfl rfl (cells_new _ [.int .i64 x.base, .int .i64 x.last, .int .i64 x.prod, .int .i64 x.epoch, .int .i64 x.seq, .slice A2 m c2] _ _ rfl) (by simp [Value.oneCell']) (by unfold maxLen; omega) (by omega) (by rw [hs5]; omega) ?_; intro v2 w9 h1 h2 _ h3)
      have HN2 := Lib.hid (And.intro h1 (HAPP.out v2 w9 h1 h2 h3)); clear h1 h2 h3
      go_wp2_with fail
      go_roundw
      case rel => exact ⟨k + 1, v2, _, rfl, by go_num, by omega, HN2.out.1, HN2.out.2.1, HN2.out.2.2⟩
      case measure => simp [intOf]; omega
    · obtain rfl : k = n := by omega
      have hcps := HCPS.out
      rw [List.take_of_length_le (by rw [HN.out]; exact Nat.le_refl _)] at hcps
      obtain ⟨A9, c9, rfl, h1, h2, h3⟩ := hcps.bats HN.out HOWN.out
      have H9 := Lib.hid (And.intro h1 (And.intro h2 h3)); clear h1 h2 h3 hcps
      go_wp2_with fail
      go_ret
      exact ⟨A9, c9, rfl, H9.out.1, H9.out.2.1, H9.out.2.2, HBW.out⟩

/-- What Records answers: an iterator over batches of one's own. -/
def fo.RecPost (bs : List Bat) (n : Nat) (w : World) (e : Ending) (w' : World) : Prop :=
  ∃ g A c, e = .returned (.func (.func 56) #[] #[.pointer (some ⟨g, 0, none⟩)]) ∧ Blk w' g 31 #[.slice A n c] ∧ BatsAt w' A bs ∧ Below w.heap.size w w'
end
end Go.Proofs.Ytnlfdhoabbbheaa

/- The law package's found: the batches of a walk, and where they begin. -/
import Derived.Maps.OwnIn
import Derived.RangeFuncCalls
import Derived.Test.YtndingohckcmdaaWkB
import Derived.Test.YtndingohckcmdaaEachB
import Derived.Test.YtndingohckcmdaaClone
import Derived.BigRegionIn
namespace Go.Proofs.Ytndingohckcmdaa
open Go.RowKit Go.Shelf
attribute [local go_sem] Oper.semAt_some

theorem bat.hands (n : Nat) (hn : 2 ≤ n) (Bp : Nat) (Bs : List Nat) (A : Option Addr) (m c : Nat) (L : List Nat) (w : World) (hL : ∀ x ∈ L, x < 256) (hlen : L.length = m) (hmc : m ≤ c) (hc : c ≤ maxLen) (hm : m ≤ 1000000)
    (hi : InB Bs w) (hsrc : Dep (Safe Bs w) w (wk.Src Bp A m c L)) :
    Hands Fence.wide n Try.prog 77 #[.pointer (some ⟨Bp, 0, none⟩)] wk.encs (Kept Bs) (wk.R Bs L) (wk.S L) (wk.Sp L) (dec.walk L).length w :=
  fun l J Jx W hW hJ _ hY h0 => bat.walk1_in n hn l Bp Bs A m c L J Jx W hL hlen hmc hc hm (hi.below hW) (hsrc.belowS hi hW) hJ hY h0

theorem bat.walk_any (A : Option Addr) (m c : Nat) (w : World) :
    Calls Try.prog 58 #[.slice A m c] w fun e w' => e = .returned (.func (.func 77) #[] #[.pointer (some ⟨w.heap.size, 0, none⟩)]) ∧ w' = w.alloc (.cells #[.slice A m c] 27) := by
  go_enter Try.func58, Try.ntmps58
  go_wp2
  go_ret
  exact ⟨rfl, rfl⟩
theorem bat.all_any (A : Option Addr) (m c : Nat) (L : List Nat) (w : World) (hl : L.length = m) (hm : m ≤ 1000000) (hat : At w A m (byteAt L)) :
    Calls Try.prog 57 #[.slice A m c] w fun e w' => ∃ g A' c', e = .returned (.func (.func 77) #[] #[.pointer (some ⟨g, 0, none⟩)]) ∧ w.heap.size ≤ g ∧ Blk w' g 27 #[.slice A' m c'] ∧ At w' A' m (byteAt L) ∧ (0 < m → ∀ b off, A' = some ⟨b, off, none⟩ → w.heap.size ≤ b ∧ b < w'.heap.size) ∧ m ≤ c' ∧ c' ≤ maxLen ∧ Below w.heap.size w w' := by
  have hcl := clone_any A m c L w hl (by omega) hat
  have HCL := Lib.hid hcl; clear hcl hat
  have HL := Lib.hid hl; clear hl
  go_enter Try.func57, Try.ntmps57
  go_wp2_with fail
  refine HCL.out.mono ?_
  rintro e w1 ⟨⟨v, rfl, hown⟩, hb⟩
  obtain ⟨A', c', rfl, hc, -, hat⟩ := own_bytes hown
  have hcm := own_cap hown
  have hlt := fun g h => hown.lt g h
  clear hown
  have HAT := Lib.hid hat; clear hat
  have HLT := Lib.hid hlt; clear hlt
  have HB := Lib.hid hb; clear hb
  go_wp2_with fail
  refine (bat.walk_any A' m c' w1).mono ?_
  rintro e w2 ⟨rfl, hw2⟩
  have HW2 := Lib.hid hw2; clear hw2
  go_wp2
  go_ret
  have hb2 : Below w1.heap.size w1 w2 := by rw [HW2.out]; exact (Below.refl _ _).alloc (Nat.le_refl _) _
  exact ⟨w1.heap.size, A', c', rfl, HB.out.size, by rw [HW2.out]; exact Blk.new _ _ _, HAT.out.below hb2 (Nat.le_refl _), fun _ b off e => ⟨(HLT.out b (by rw [e]; rfl)).1, Nat.lt_of_lt_of_le (HLT.out b (by rw [e]; rfl)).2 hb2.size⟩, hc, hcm, HB.out.trans (hb2.mono HB.out.size)⟩

/-- Only blocks of cells were turned: what else there is stands. -/
theorem keeps_chg {B : Nat} {W V : World} {P : Nat → Prop} (h : Chg W V P) (hp : ∀ k, P k → CellsB W k) : KeepsFrom B W V :=
  ⟨h.size, fun k o _ hk ho => (h.block k (heap_in hk) fun hh => by
    obtain ⟨o', h1, h2⟩ := hp k hh
    rw [hk] at h1
    cases h1
    rw [ho] at h2
    cases h2).trans hk⟩
theorem Kept.boxes {Bs : List Nat} {W V : World} {P : Nat → Prop} (h : Chg W V P) (hp : ∀ k, P k → k ∈ Bs ∨ ∃ b ∈ Bs, boxOf W b = some k)
    (hb : ∀ b ∈ Bs, CellsB V b ∧ ∀ k, boxOf V b = some k → k < V.heap.size ∧ ((∃ c ∈ Bs, boxOf W c = some k) ∨ W.heap.size ≤ k)) : Kept Bs W V :=
  ⟨h.size, fun k o hk _ hs => (h.block k (heap_in hk) fun hh => by
    rcases hp k hh with hm | ⟨b, hbb, he⟩
    · exact hs.1 hm
    · exact hs.2 b hbb he).trans hk, fun b hbb k e => ((hb b hbb).2 k e).2, fun _ b hbb => ⟨(hb b hbb).1, fun k e => ((hb b hbb).2 k e).1⟩⟩
theorem boxOf_boxed {W : World} {b : Nat} {t : TypeId} {v : Value} (h : Boxed W b t v) : boxOf W b = v.ownBlock := by
  unfold boxOf
  rw [h.cell]
  rfl
theorem CellsB.of_boxed {W : World} {b : Nat} {t : TypeId} {v : Value} (h : Boxed W b t v) : CellsB W b := ⟨_, h, rfl⟩

/-- Where the batches that came end. -/
def wk.fin (pre : List WkX) : Int := match pre.getLast? with | none => 0 | some x => (x.1.1 : Int) + x.1.2.size
theorem wk.fin_snoc (pre : List WkX) (x : WkX) : wk.fin (pre ++ [x]) = (x.1.1 : Int) + x.1.2.size := by
  unfold wk.fin
  simp
theorem wk.fin_good {L : List Nat} {xs : List WkX} (h : xs.map Prod.fst = dec.walk L) : wk.fin xs = dec.good L := by
  unfold wk.fin dec.good
  rw [← h, List.getLast?_map]
  cases xs.getLast? <;> rfl

/-- The cells of a batch that is handed over. -/
def wk.cells (x : WkX) : Array Value := #[.int .i64 x.1.2.base, .int .i64 x.1.2.last, .int .i64 x.1.2.prod, .int .i64 x.1.2.epoch, .int .i64 x.1.2.seq, .slice x.2.1 x.1.2.recs.length x.2.2]
theorem wk.R_own (B : Nat) (Bs : List Nat) (L : List Nat) : OwnFrom B (wk.R Bs L) := fun _ _ _ _ h hg hr => ⟨h.1.grown hg fun r e => (hr r e).2, h.2.1.grown h.1 hg fun r e => (hr r e).2, h.2.2⟩

set_option maxRecDepth 100000 in
set_option maxHeartbeats 4000000 in
theorem bat.good_any (A : Option Addr) (m c : Nat) (L : List Nat) (w : World) (hL : ∀ x ∈ L, x < 256) (hlen : L.length = m) (hmc : m ≤ c) (hc : c ≤ maxLen) (hm : m ≤ 1000000) (hat : At w A m (byteAt L)) :
    Calls Try.prog 29 #[.slice A m c] w fun e w' => e = .returned (.int .i64 (dec.good L)) ∧ Below w.heap.size w w' := by
  refine (callsIn_wide (n := 5)).1 ?_
  have h1 : 1 ≤ 5 := by omega
  refine callsIn_of_wp_marks Try.func29 rfl trivial ?_ rfl
  simp only [Try.ntmps29, List.size_toArray, List.length_cons, List.length_nil, Nat.reduceAdd, Nat.reduceSub, Array.replicate_succ, Array.replicate_zero, List.push_toArray, List.append_toArray, List.nil_append, List.cons_append]
  have HAT := Lib.hid hat; clear hat
  have HL := Lib.hid hL; clear hL
  have HLEN := Lib.hid hlen; clear hlen
  gi_wp2_with fail
  refine ⟨trivial, ?_⟩
  refine (callsIn_wide.2 (bat.walk_any A m c _)).mono ?_
  rintro e w1 ⟨rfl, hw1⟩
  rw [World.size_alloc]
  have bG := Boxed.new w 3 (.int .i64 0)
  have hB1 : Below w.heap.size w w1 := by rw [hw1]; exact ((Below.refl _ w).alloc (Nat.le_refl _) _).alloc (by simp) _
  have hbG : Boxed w1 w.heap.size 3 (.int .i64 0) := by rw [hw1]; exact bG.alloc _
  have hbP : Blk w1 (w.heap.size + 1) 27 #[.slice A m c] := by
    rw [hw1]
    have h := Blk.new (w.alloc (.cells #[.int .i64 0] 3)) 27 #[.slice A m c]
    rwa [World.size_alloc] at h
  have hz1 : w1.heap.size = w.heap.size + 2 := by rw [hw1]; simp
  have hat1 : At w1 A m (byteAt L) := HAT.out.below hB1 (Nat.le_refl _)
  clear hw1 bG
  have hin : InB [w.heap.size] w1 := fun b hb => by
    obtain rfl : b = w.heap.size := by simpa using hb
    exact ⟨.of_boxed hbG, fun k e => by rw [boxOf_boxed hbG] at e; cases e⟩
  have hsafe : ∀ k, k ≠ w.heap.size → Safe [w.heap.size] w1 k := fun k hk => ⟨by simpa using hk, fun b hb e => by
    obtain rfl : b = w.heap.size := by simpa using hb
    rw [boxOf_boxed hbG] at e
    cases e⟩
  have hsrc : Dep (Safe [w.heap.size] w1) w1 (wk.Src (w.heap.size + 1) A m c L) := (Dep.blk hbP (hsafe _ (by omega))).both (Dep.at' hat1 fun hp b off e => hsafe _ (by
    obtain ⟨b', off', e', hb', -⟩ := HAT.out hp
    rw [e] at e'
    cases e'
    omega))
  gi_wp2_with fail
  have hbs : ∀ b ∈ [w.heap.size], b = w.heap.size := fun b hb => by simpa using hb
  refine for_eachB (F := Fence.wide) (n := 5) rfl h1 (gf := 77) (lb := #[.pointer (some ⟨w.heap.size + 1, 0, none⟩)]) rfl trivial (enters_of Try.func77 (by kernel_rfl) rfl)
    (bat.hands 4 (by omega) (w.heap.size + 1) [w.heap.size] A m c L w1 HL.out HLEN.out hmc hc hm hin hsrc) (Below.refl _ _) Kept.trans
    (fun W o h => Kept.alloc o fun b hb => by rw [hbs b hb]; omega) (fun W l o o' hl ho hcc _ => Kept.put ho hcc fun b hb => by rw [hbs b hb]; omega) (fun _ => rfl)
    (fun pre W => Boxed W w.heap.size 3 (.int .i64 (wk.fin pre)) ∧ Below w.heap.size w W) (fun _ _ _ => False)
    (OwnFrom.and (Own.from (boxed_own _ _ _) _) (ownFrom_below (Nat.le_refl _) (by omega))) (fun _ _ _ _ _ h _ _ => h.elim) (wk.R_own _ _ _) (fun _ _ _ _ h _ _ => h) (fun _ _ _ _ h _ _ => h)
    ⟨hbG, hB1⟩ 24 wk.cells
    (fun x g => { tmps := #[.slice A m c, undef, .int .i64 0, .pointer (some ⟨w.heap.size, 0, none⟩), .int .i64 (x.1.1 : Int), .pointer (some ⟨g, 0, none⟩), .slice A m c, .func (.func 77) #[] #[.pointer (some ⟨w.heap.size + 1, 0, none⟩)],
      .int .i64 (x.1.1 : Int), .agg (wk.cells x), undef, undef, undef, undef, undef], defers := [] }) ?assign ?body ?done ?stop
  case assign =>
    rintro l ⟨⟨at', b⟩, ⟨A', c'⟩⟩ W K hK
    unfold wk.encs Bat.hval
    unfold wk.cells at hK
    dsimp only at hK ⊢
    gi_wp2
    exact hK
  case body =>
    rintro l pre ⟨⟨at', b⟩, ⟨A', c'⟩⟩ g W hg1 hg2 hk ⟨hbox, hB⟩ ⟨hi, hdep, u, his⟩ hlt
    unfold wk.cells at hk ⊢
    dsimp only at hk hdep his ⊢
    obtain ⟨hmay, h100, hok, -⟩ := Bat.check_ok his.check
    have hfit := his.fits
    rw [HLEN.out] at hfit
    have hsz := bat.size_any b A' c' W hdep.now hok (by omega) ⟨hmay.1, hmay.2.1⟩
    rw [← his.size] at hsz
    unfold Bat.hval at hsz
    have hfin : wk.fin (pre ++ [((at', b), (A', c'))]) = (at' : Int) + (u : Int) := by rw [wk.fin_snoc, his.size]
    have HFIN := Lib.hid hfin; clear hfin hmay hok h100
    have HSZ := Lib.hid hsz; clear hsz hdep his
    have g0 : W.cell? ⟨g, 0, none⟩ = some (.int .i64 b.base) := hk.cell 0 rfl
    have g1 : W.cell? ⟨g, 1, none⟩ = some (.int .i64 b.last) := hk.cell 1 rfl
    have g2 : W.cell? ⟨g, 2, none⟩ = some (.int .i64 b.prod) := hk.cell 2 rfl
    have g3 : W.cell? ⟨g, 3, none⟩ = some (.int .i64 b.epoch) := hk.cell 3 rfl
    have g4 : W.cell? ⟨g, 4, none⟩ = some (.int .i64 b.seq) := hk.cell 4 rfl
    have g5 : W.cell? ⟨g, 5, none⟩ = some (.slice A' b.recs.length c') := hk.cell 5 rfl
    clear hk
    gi_wp2_with fail
    refine ⟨trivial, ?_⟩
    refine (CallsIn.inRound l (callsIn_wide.2 HSZ.out)).mono ?_
    rintro e W2 ⟨rfl, hb2⟩
    clear g0 g1 g2 g3 g4 g5
    have hbox2 := hbox.kept (grown_by hb2) (by simp)
    have hch : Chg W (W2.setCell ⟨w.heap.size, 0, none⟩ (.int .i64 ((at' : Int) + (u : Int)))) (fun k => k = w.heap.size) := (chg_of (P := fun k => k = w.heap.size) hb2).trans (Chg.setCell W2 w.heap.size 0 _) fun _ _ h => h
    have hset := hbox2.set (.int .i64 ((at' : Int) + (u : Int)))
    have hbel : Below w.heap.size w (W2.setCell ⟨w.heap.size, 0, none⟩ (.int .i64 ((at' : Int) + (u : Int)))) := hB.trans (hch.below hB.size fun k hk => by have hk : k = w.heap.size := hk; omega)
    have e0 := hbox2.cell
    have f0 := hbox2.frozen
    have HH := Lib.hid (And.intro hch (And.intro hset hbel)); clear hch hset hbel
    gi_wp2_with fail
    refine ⟨keeps_chg HH.out.1 fun k hk => by have hk : k = w.heap.size := hk; rw [hk]; exact .of_boxed hbox, Kept.boxes HH.out.1 (fun k hk => .inl (by have hk : k = w.heap.size := hk; rw [hk]; simp)) (fun b hb => ?_), ?_, HH.out.2.2⟩
    · rw [hbs b hb]
      exact ⟨.of_boxed HH.out.2.1, fun k e => by rw [boxOf_boxed HH.out.2.1] at e; cases e⟩
    · rw [HFIN.out]
      exact HH.out.2.1
  case done =>
    rintro D xs W hD hS ⟨hbox, hB⟩ hK
    have hc1 := hbox.cell
    have hgood := wk.fin_good hS
    rw [hgood] at hc1
    clear hgood
    gi_wp2
    refine ⟨by simp, .inl ⟨_, _, rfl, run_takeDeferred hK, ?_⟩⟩
    exact ⟨_, results_tmp rfl _ _ _, rfl, hB.trans (belowK_b (w := w) (Nat.le_refl _) W D _ _ (by omega) hK rfl rfl)⟩
  case stop =>
    rintro D c pre W hD hpre h hK
    exact h.elim

attribute [local go_sem] Oper.semAt_some

theorem flat_get {α : Type} (f : α → List Value) (n : Nat) (hf : ∀ x, (f x).length = n) : ∀ (l : List α) (i k : Nat) (x : α), l[i]? = some x → k < n → ((l.map f).flatten).getD (i * n + k) undef = (f x).getD k undef
  | [], i, k, x, h, _ => by cases h
  | y :: l, 0, k, x, h, hk => by
    obtain rfl : y = x := by simpa using h
    rw [List.map_cons, List.flatten_cons, Nat.zero_mul, Nat.zero_add]
    simp only [List.getD]
    rw [List.getElem?_append_left (by rw [hf]; exact hk)]
  | y :: l, i + 1, k, x, h, hk => by
    have h2 : l[i]? = some x := by simpa using h
    rw [List.map_cons, List.flatten_cons, ← flat_get f n hf l i k x h2 hk]
    simp only [List.getD]
    rw [List.getElem?_append_right (by rw [hf, Nat.succ_mul]; omega), hf, show (i + 1) * n + k - n = i * n + k by rw [Nat.succ_mul]; omega]
theorem flat_len {α : Type} (f : α → List Value) (n : Nat) (hf : ∀ x, (f x).length = n) (l : List α) : ((l.map f).flatten).length = l.length * n := by
  induction l with
  | nil => simp
  | cons y l ih => rw [List.map_cons, List.flatten_cons, List.length_append, ih, hf, List.length_cons, Nat.succ_mul]; omega
theorem Dep.put {W : World} {P : World → Prop} {D : Nat} {o o' : Obj} (h : Dep (fun _ => True) W P) (hD : W.heap[D]? = some o) (ho : o.isCells = false) : P (W.putObj D o') :=
  (h.move (Z' := fun _ => True) (fun k x _ hk hc => ⟨(grown_cells (grownBy_putObj' W D o') (fun r e => by cases e; exact ⟨o, hD, ho⟩) ⟨x, hk, hc⟩).trans hk, trivial⟩) (grownBy_putObj' W D o').size).now
theorem Dep.any {Z : Nat → Prop} {W : World} {P : World → Prop} (h : Dep Z W P) : Dep (fun _ => True) W P := h.weak fun _ _ _ => trivial
/-- Rows of unlike elements lie apart. -/
theorem rows_apart {W : World} {b1 b2 s1 s2 n1 n2 : Nat} {e1 e2 : TypeId} {v1 v2 : Value} {xs1 xs2 : List Value} (h1 : W.ownsRow b1 e1 s1 v1 n1 xs1) (h2 : W.ownsRow b2 e2 s2 v2 n2 xs2) (hne : e1 ≠ e2) {k : Nat} (hk : v1.ownBlock = some k) : v2.ownBlock ≠ some k := fun hh => by
  rcases h1.2 with ⟨rfl, _⟩ | ⟨g, cap, cur, rfl, _, hg, _⟩
  · cases hk
  · rcases h2.2 with ⟨rfl, _⟩ | ⟨g', cap', cur', rfl, _, hg', _⟩
    · cases hh
    · obtain rfl : g = k := by simpa [Value.ownBlock] using hk
      obtain rfl : g' = g := by simpa [Value.ownBlock] using hh
      rw [hg] at hg'
      simp at hg'
      exact hne hg'.2
theorem own_cells {W : World} {b s n : Nat} {e : TypeId} {v : Value} {xs : List Value} (h : W.ownsRow b e s v n xs) {k : Nat} (hk : v.ownBlock = some k) : CellsB W k := by
  rcases h.2 with ⟨rfl, _⟩ | ⟨g, cap, cur, rfl, _, hg, _⟩
  · cases hk
  · obtain rfl : g = k := by simpa [Value.ownBlock] using hk
    exact ⟨_, hg, rfl⟩

def wk.cell6 (x : WkX) : List Value := (wk.cells x).toList
def wk.ats (pre : List WkX) : List Value := pre.map fun x => .int .i64 (x.1.1 : Int)
def wk.row (pre : List WkX) : List Value := (pre.map wk.cell6).flatten
theorem wk.row_snoc (pre : List WkX) (x : WkX) : wk.row (pre ++ [x]) = wk.row pre ++ wk.cell6 x := by unfold wk.row; simp
theorem wk.ats_snoc (pre : List WkX) (x : WkX) : wk.ats (pre ++ [x]) = wk.ats pre ++ [.int .i64 (x.1.1 : Int)] := by unfold wk.ats; simp
/-- What found keeps: the two rows in their boxes, and what the batches lean on. -/
def fd.I (z : Nat) (w : World) (most : Int) (pre : List WkX) (W : World) : Prop :=
  (∃ va, Boxed W (z + 1) 49 va ∧ W.ownsRow (z + 3) 3 1 va pre.length (wk.ats pre)) ∧ (∃ vl, Boxed W (z + 2) 50 vl ∧ W.ownsRow (z + 3) 24 6 vl pre.length (wk.row pre)) ∧
    InB [z + 1, z + 2] W ∧ (∀ x ∈ pre, Dep (Safe [z + 1, z + 2] W) W (fun U => RecsV U (.slice x.2.1 x.1.2.recs.length x.2.2) x.1.2.recs) ∧ x.1.2.check = 0) ∧ Boxed W z 3 (.int .i64 most) ∧ Below z w W
theorem fd.I_own (z : Nat) (w : World) (most : Int) (B : Nat) (hz : z ≤ w.heap.size) (hB : z ≤ B) : OwnFrom B (fd.I z w most) := fun pre W W' row h hg hr => by
  obtain ⟨⟨va, h1, h2⟩, ⟨vl, h3, h4⟩, h5, h6, h7, h8⟩ := h
  have hr' : ∀ r, row = some r → ∃ o : Obj, W.heap[r]? = some o ∧ o.isCells = false := fun r e => (hr r e).2
  have hbx : ∀ {b : Nat} {t : TypeId} {v : Value}, Boxed W b t v → Boxed W' b t v := fun {b t v} h => h.kept hg fun e => by
    obtain ⟨o, ho, hc⟩ := hr' b e.symm
    rw [show W.heap[b]? = _ from h] at ho
    cases ho
    cases hc
  have hrw : ∀ {b s n : Nat} {e : TypeId} {v : Value} {xs : List Value}, W.ownsRow b e s v n xs → W'.ownsRow b e s v n xs := fun {b s n e v xs} h => by
    refine h.kept hg ?_
    rcases h.2 with ⟨rfl, _⟩ | ⟨g, cap, cur, rfl, _, hgb, _⟩
    · exact .inl rfl
    · refine .inr fun e => ?_
      obtain ⟨o, ho, hc⟩ := hr' g e.symm
      rw [hgb] at ho
      cases ho
      cases hc
  exact ⟨⟨va, hbx h1, hrw h2⟩, ⟨vl, hbx h3, hrw h4⟩, h5.grown hg hr', fun x hx => ⟨(h6 x hx).1.grown h5 hg hr', (h6 x hx).2⟩, hbx h7, h8.grown hg (Nat.le_trans hz h8.size) fun k e => Nat.le_trans hB (hr k e).1⟩
theorem fd.out {z : Nat} {w : World} {most : Int} {pre : List WkX} {W : World} (h : fd.I z w most pre W) :
    ∃ Aa ca Al cl, Boxed W (z + 1) 49 (.slice Aa pre.length ca) ∧ Boxed W (z + 2) 50 (.slice Al pre.length cl) ∧ pre.length ≤ ca ∧ pre.length ≤ cl ∧
      Dep (fun _ => True) W (fun U => At U Aa pre.length (fun j => .int .i64 (((pre.map fun x => x.1.1).getD j 0 : Nat) : Int)) ∧ BatsAt U Al (pre.map fun x => x.1.2)) := by
  obtain ⟨⟨va, h1, h2⟩, ⟨vl, h3, h4⟩, h5, h6, h7, h8⟩ := h
  obtain ⟨Aa, ca, rfl, hca, hata⟩ := own_at h2
  obtain ⟨Al, cl, rfl, hcl, hatl⟩ := own_at h4
  refine ⟨Aa, ca, Al, cl, h1, h3, hca, hcl, Dep.both ?_ ?_⟩
  · refine Dep.at' ((Nat.mul_one pre.length ▸ hata).congr fun j hj => ?_) fun _ _ _ _ => trivial
    unfold wk.ats
    simp [List.getD, hj]
  · have hd1 : Dep (fun _ => True) W (fun U => At U Al (pre.length * 6) (fun j => (wk.row pre).getD j undef)) := Dep.at' hatl fun _ _ _ _ => trivial
    have hd2 : ∀ (l : List WkX), (∀ x ∈ l, x ∈ pre) → Dep (fun _ => True) W (fun U => ∀ x ∈ l, RecsV U (.slice x.2.1 x.1.2.recs.length x.2.2) x.1.2.recs) := by
      intro l
      induction l with
      | nil => exact fun _ => .always fun _ x hx => by cases hx
      | cons y l ih =>
        intro hl
        refine ((h6 y (hl y (List.mem_cons_self ..))).1.any.both (ih fun x hx => hl x (List.mem_cons_of_mem _ hx))).imp fun U hu x hx => ?_
        rcases List.mem_cons.1 hx with rfl | hx
        · exact hu.1
        · exact hu.2 x hx
    refine (hd1.both (hd2 pre fun _ h => h)).imp fun U hu => ⟨_, by rw [List.length_map]; exact hu.1, fun i b hi => ?_⟩
    rw [List.getElem?_map] at hi
    cases hx : pre[i]? with
    | none => rw [hx] at hi; cases hi
    | some x =>
      rw [hx] at hi
      obtain rfl : x.1.2 = b := by simpa using hi
      have hmem : x ∈ pre := List.mem_of_getElem? hx
      obtain ⟨m0, m1, m2, m3, m4, m5, m6, m7, m8, m9, -⟩ := (Bat.check_ok (h6 x hmem).2).1
      refine ⟨.slice x.2.1 x.1.2.recs.length x.2.2, ?_, hu.2 x hmem, by unfold i64ok; omega, by unfold i64ok; omega, by unfold i64ok; omega, by unfold i64ok; omega, by unfold i64ok; omega⟩
      have hg := fun k hk => flat_get wk.cell6 6 (fun _ => rfl) pre i k x hx hk
      unfold cellsAt
      show [(wk.row pre).getD (i * 6 + 0) undef, (wk.row pre).getD (i * 6 + 1) undef, (wk.row pre).getD (i * 6 + 2) undef, (wk.row pre).getD (i * 6 + 3) undef, (wk.row pre).getD (i * 6 + 4) undef, (wk.row pre).getD (i * 6 + 5) undef] = _
      unfold wk.row
      rw [hg 0 (by omega), hg 1 (by omega), hg 2 (by omega), hg 3 (by omega), hg 4 (by omega), hg 5 (by omega)]
      rfl

/-- What found answers: as many of the walk as are asked for. -/
def fd.Post (L : List Nat) (most : Int) (w : World) (e : Ending) (w' : World) : Prop :=
  ∃ (xs : List (Nat × Bat)) (Aa : Option Addr) (ca : Nat) (Al : Option Addr) (cl : Nat), xs = (dec.walk L).take most.toNat ∧ e = .returned (.tuple #[.slice Aa xs.length ca, .slice Al xs.length cl]) ∧
    At w' Aa xs.length (fun j => .int .i64 (((xs.map Prod.fst).getD j 0 : Nat) : Int)) ∧ BatsAt w' Al (xs.map Prod.snd) ∧ xs.length ≤ ca ∧ xs.length ≤ cl ∧ Below w.heap.size w w'
theorem fd.post {L : List Nat} {w V : World} {most : Int} {pre : List WkX} (hd : pre.map Prod.fst = (dec.walk L).take most.toNat) {Aa Al : Option Addr} {ca cl : Nat} (hca : pre.length ≤ ca) (hcl : pre.length ≤ cl)
    (h : At V Aa pre.length (fun j => .int .i64 (((pre.map fun x => x.1.1).getD j 0 : Nat) : Int)) ∧ BatsAt V Al (pre.map fun x => x.1.2)) (hb : Below w.heap.size w V) : fd.Post L most w (.returned (.tuple #[.slice Aa pre.length ca, .slice Al pre.length cl])) V := by
  have hl : ((dec.walk L).take most.toNat).length = pre.length := by rw [← hd, List.length_map]
  refine ⟨_, Aa, ca, Al, cl, rfl, by rw [hl], ?_, ?_, by omega, by omega, hb⟩
  · rw [hl, ← hd, List.map_map]
    exact h.1
  · rw [← hd, List.map_map]
    exact h.2

/-- The cells of a new block. -/
theorem cells_new (w : World) (cs : List Value) (t : TypeId) (n : Nat) (hn : n = w.heap.size) : ∀ j u, cs[j]? = some u → (w.alloc (.cells cs.toArray t)).cell? ((⟨n, 0, none⟩ : Addr).add j) = some u := by
  subst hn
  intro j u hj
  rw [add_none, Nat.zero_add]
  have h := World.alloc_heap_new w (.cells cs.toArray t)
  unfold World.cell?
  rw [h]
  simpa using hj
theorem own_apart {W : World} {b1 b2 s1 s2 n1 n2 : Nat} {e1 e2 : TypeId} {v1 v2 : Value} {xs1 xs2 : List Value} (h1 : W.ownsRow b1 e1 s1 v1 n1 xs1) (h2 : W.ownsRow b2 e2 s2 v2 n2 xs2) (hne : e1 ≠ e2) : v1.ownBlock = none ∨ v1.ownBlock ≠ v2.ownBlock := by
  rcases h1.2 with ⟨rfl, _⟩ | ⟨g, cap, cur, rfl, _, hg, _⟩
  · exact .inl rfl
  · exact .inr fun e => rows_apart h1 h2 hne (k := g) rfl (by rw [← e]; rfl)
/-- Behind the first append and its store. -/
theorem fd.mid {z : Nat} {W w2 : World} {va vl v1 : Value} {n g : Nat} {xs ys zs : List Value} {tmp : Obj} {cs : Array Value} (hzW : z ≤ W.heap.size)
    (ba : Boxed W (z + 1) 49 va) (ra : W.ownsRow (z + 3) 3 1 va n xs) (bl : Boxed W (z + 2) 50 vl) (rl : W.ownsRow (z + 3) 24 6 vl n ys) (hk : Blk W g 24 cs) (hg : z + 3 ≤ g)
    (hown : w2.ownsRow (z + 3) 3 1 v1 (n + 1) zs) (hgrow : (W.alloc tmp).grownBy w2 va.ownBlock) :
    Boxed w2 (z + 1) 49 va ∧ Boxed (w2.setCell ⟨z + 1, 0, none⟩ v1) (z + 2) 50 vl ∧ (w2.setCell ⟨z + 1, 0, none⟩ v1).ownsRow (z + 3) 24 6 vl n ys ∧ Blk (w2.setCell ⟨z + 1, 0, none⟩ v1) g 24 cs ∧ W.heap.size ≤ (w2.setCell ⟨z + 1, 0, none⟩ v1).heap.size := by
  obtain ⟨q1, q2, q3, q4, q5, q6⟩ := box_appended (n₀ := z) ba (by omega) (by omega) ra hzW hown hgrow
  refine ⟨q1, q6 _ _ _ (by omega) (by omega) bl, ((rl.alloc tmp).kept hgrow (own_apart rl ra (by decide))).kept (grownBy_setCell' w2 (z + 1) v1) (.inr (own_ne rl (by omega)).symm), ?_, q5.size⟩
  refine (Chg.setCell w2 (z + 1) 0 v1).blk ((Chg.grown hgrow).blk ((Chg.alloc W tmp (fun _ => False)).blk hk id) (hk.not_row (by decide) ra)) fun h => ?_
  have h : g = z + 1 := h
  omega
/-- A round that gathers. -/
theorem fd.round {z : Nat} {w W w2 w3 : World} {most : Int} {pre : List WkX} {x : WkX} {L : List Nat} {va vl v1 v2 : Value} {t1 t2 : Obj} (B : Nat)
    (hI : fd.I z w most pre W) (hR : wk.R [z + 1, z + 2] L x W) (hzw : z ≤ w.heap.size)
    (ba : Boxed W (z + 1) 49 va) (ra : W.ownsRow (z + 3) 3 1 va pre.length (wk.ats pre)) (bl : Boxed W (z + 2) 50 vl) (rl : W.ownsRow (z + 3) 24 6 vl pre.length (wk.row pre))
    (hown1 : w2.ownsRow (z + 3) 3 1 v1 (pre.length + 1) (wk.ats pre ++ [.int .i64 (x.1.1 : Int)])) (hgrow1 : (W.alloc t1).grownBy w2 va.ownBlock) (hl1 : v1.ownBlock = va.ownBlock ∨ v1.ownBlock = some (W.alloc t1).heap.size)
    (hown2 : w3.ownsRow (z + 3) 24 6 v2 (pre.length + 1) (wk.row pre ++ wk.cell6 x)) (hgrow2 : ((w2.setCell ⟨z + 1, 0, none⟩ v1).alloc t2).grownBy w3 vl.ownBlock) (hl2 : v2.ownBlock = vl.ownBlock ∨ v2.ownBlock = some ((w2.setCell ⟨z + 1, 0, none⟩ v1).alloc t2).heap.size) :
    KeepsFrom B W (w3.setCell ⟨z + 2, 0, none⟩ v2) ∧ Kept [z + 1, z + 2] W (w3.setCell ⟨z + 2, 0, none⟩ v2) ∧ fd.I z w most (pre ++ [x]) (w3.setCell ⟨z + 2, 0, none⟩ v2) := by
  obtain ⟨-, -, hin, hdeps, bm, hB⟩ := hI
  have hzW : z ≤ W.heap.size := Nat.le_trans hzw hB.size
  obtain ⟨q1, q2, q3, q4, q5, q6⟩ := box_appended (n₀ := z) ba (by omega) (by omega) ra hzW hown1 hgrow1
  have bl1 := q6 _ _ _ (by omega) (by omega) bl
  have rl1 : (w2.setCell ⟨z + 1, 0, none⟩ v1).ownsRow (z + 3) 24 6 vl pre.length (wk.row pre) := ((rl.alloc t1).kept hgrow1 (own_apart rl ra (by decide))).kept (grownBy_setCell' w2 (z + 1) v1) (.inr (own_ne rl (by omega)).symm)
  have bm1 := q6 _ _ _ (by omega) (by omega) bm
  have hz1 := q5.size
  have c1 : Chg W (w2.setCell ⟨z + 1, 0, none⟩ v1) (fun k => k = z + 1 ∨ k = z + 2 ∨ va.ownBlock = some k ∨ vl.ownBlock = some k) :=
    ((Chg.alloc W t1 (fun k => k = z + 1 ∨ k = z + 2 ∨ va.ownBlock = some k ∨ vl.ownBlock = some k)).trans (Chg.grown hgrow1) fun k _ h => .inr (.inr (.inl h))).trans (Chg.setCell w2 (z + 1) 0 v1) fun k _ h => .inl h
  generalize w2.setCell ⟨z + 1, 0, none⟩ v1 = W1 at *
  obtain ⟨p1, p2, p3, p4, p5, p6⟩ := box_appended (n₀ := z) bl1 (by omega) (by omega) rl1 (by omega) hown2 hgrow2
  have ba2 := p6 _ _ _ (by omega) (by omega) q2
  have bm2 := p6 _ _ _ (by omega) (by omega) bm1
  have ra2 : (w3.setCell ⟨z + 2, 0, none⟩ v2).ownsRow (z + 3) 3 1 v1 (pre.length + 1) (wk.ats pre ++ [.int .i64 (x.1.1 : Int)]) := ((q3.alloc t2).kept hgrow2 (own_apart q3 rl1 (by decide))).kept (grownBy_setCell' w3 (z + 2) v2) (.inr (own_ne q3 (by omega)).symm)
  have c2 : Chg W (w3.setCell ⟨z + 2, 0, none⟩ v2) (fun k => k = z + 1 ∨ k = z + 2 ∨ va.ownBlock = some k ∨ vl.ownBlock = some k) :=
    ((c1.trans (Chg.alloc W1 t2 (fun _ => False)) fun k _ h => h.elim).trans (Chg.grown hgrow2) fun k _ h => .inr (.inr (.inr h))).trans (Chg.setCell w3 (z + 2) 0 v2) fun k _ h => .inr (.inl h)
  have hz2 := p5.size
  generalize w3.setCell ⟨z + 2, 0, none⟩ v2 = V at *
  have hbs : ∀ b ∈ [z + 1, z + 2], b = z + 1 ∨ b = z + 2 := fun b hb => by simpa using hb
  have hkept : Kept [z + 1, z + 2] W V := Kept.boxes c2 (fun k hk => by
      rcases hk with rfl | rfl | hk | hk
      · exact .inl (by simp)
      · exact .inl (by simp)
      · exact .inr ⟨z + 1, by simp, by rw [boxOf_boxed ba]; exact hk⟩
      · exact .inr ⟨z + 2, by simp, by rw [boxOf_boxed bl]; exact hk⟩) fun b hb => by
    rcases hbs b hb with rfl | rfl
    · refine ⟨.of_boxed ba2, fun k e => ?_⟩
      rw [boxOf_boxed ba2] at e
      refine ⟨(ra2.lt k e).2, ?_⟩
      rcases hl1 with h | h
      · exact .inl ⟨z + 1, by simp, by rw [boxOf_boxed ba, ← h]; exact e⟩
      · rw [h] at e
        have e : (W.alloc t1).heap.size = k := by simpa using e
        refine .inr ?_
        rw [← e, World.size_alloc]
        omega
    · refine ⟨.of_boxed p2, fun k e => ?_⟩
      rw [boxOf_boxed p2] at e
      refine ⟨(p3.lt k e).2, ?_⟩
      rcases hl2 with h | h
      · exact .inl ⟨z + 2, by simp, by rw [boxOf_boxed bl, ← h]; exact e⟩
      · rw [h] at e
        have e : (W1.alloc t2).heap.size = k := by simpa using e
        refine .inr ?_
        rw [← e, World.size_alloc]
        omega
  refine ⟨(q4.trans p4).from B, hkept, ⟨v1, ba2, by rw [wk.ats_snoc, List.length_append]; exact ra2⟩, ⟨v2, p2, by rw [wk.row_snoc, List.length_append]; exact p3⟩, hkept.2.2.2 hin, fun y hy => ?_, bm2, hB.trans (q5.trans p5)⟩
  rcases List.mem_append.1 hy with hy | hy
  · exact ⟨(hdeps y hy).1.kept hkept, (hdeps y hy).2⟩
  · obtain rfl : y = x := by simpa using hy
    obtain ⟨u, hu⟩ := hR.2.2
    exact ⟨hR.2.1.kept hkept, hu.check⟩
theorem results_tmps2 {fn : Func} {t u : Tmp} (h : fn.results = #[.tmp t, .tmp u]) (tmps : Array Value) (P : Program) (w : World) :
    (results fn tmps).run P w = .ok (.tuple #[tmps.getD t undef, tmps.getD u undef]) w := by
  simp [results, h, go_sem]
theorem fd.info : (Try.prog.info? 24).map (fun i => (i.zero, i.size, i.bytes)) = some (some (.agg #[.int .i64 0, .int .i64 0, .int .i64 0, .int .i64 0, .int .i64 0, .slice none 0 0]), 6, 64) := by kernel_rfl
theorem fd.info1 : (Try.prog.info? 3).map (fun i => (i.zero, i.size, i.bytes)) = some (some (.int .i64 0), 1, 8) := by kernel_rfl

set_option maxRecDepth 100000 in
set_option maxHeartbeats 4000000 in
theorem fd.found_any (A : Option Addr) (m c : Nat) (L : List Nat) (most : Int) (w : World) (hL : ∀ x ∈ L, x < 256) (hlen : L.length = m) (hm : m ≤ 1000000) (hmost : 0 ≤ most) (hat : At w A m (byteAt L)) :
    Calls Try.prog 28 #[.slice A m c, .int .i64 most] w (fd.Post L most w) := by
  refine (callsIn_wide (n := 5)).1 ?_
  have h1 : 1 ≤ 5 := by omega
  refine callsIn_of_wp_marks Try.func28 rfl trivial ?_ rfl
  simp only [Try.ntmps28, List.size_toArray, List.length_cons, List.length_nil, Nat.reduceAdd, Nat.reduceSub, Array.replicate_succ, Array.replicate_zero, List.push_toArray, List.append_toArray, List.nil_append, List.cons_append]
  have hnil : ∀ (Bs : Nat) (w : World), (binOp BinOp.eql 94 (.func (.func 77) #[] #[.pointer (some ⟨Bs, 0, none⟩)]) .nilFunc).run Try.prog w = .ok (.bool false) w := fun _ _ => by kernel_rfl
  have HAT := Lib.hid hat; clear hat
  have HL := Lib.hid hL; clear hL
  have HLEN := Lib.hid hlen; clear hlen
  gi_wp2_with fail
  obtain ⟨w0, hw0⟩ : ∃ w0, w0 = ((w.alloc (.cells #[.int .i64 most] 3)).alloc (.cells #[.slice none 0 0] 49)).alloc (.cells #[.slice none 0 0] 50) := ⟨_, rfl⟩
  rw [← hw0]
  have hB0 : Below w.heap.size w w0 := by rw [hw0]; exact (((Below.refl _ w).alloc (Nat.le_refl _) _).alloc (by simp) _).alloc (by simp; omega) _
  have bM : Boxed w0 w.heap.size 3 (.int .i64 most) := by rw [hw0]; exact ((Boxed.new w _ _).alloc _).alloc _
  have bA : Boxed w0 (w.heap.size + 1) 49 (.slice none 0 0) := by
    rw [hw0]
    have h := Boxed.new (w.alloc (.cells #[.int .i64 most] 3)) 49 (.slice none 0 0)
    rw [World.size_alloc] at h
    exact h.alloc _
  have bL : Boxed w0 (w.heap.size + 2) 50 (.slice none 0 0) := by
    rw [hw0]
    have h := Boxed.new ((w.alloc (.cells #[.int .i64 most] 3)).alloc (.cells #[.slice none 0 0] 49)) 50 (.slice none 0 0)
    rw [World.size_alloc, World.size_alloc] at h
    exact h
  have hz0 : w0.heap.size = w.heap.size + 3 := by rw [hw0]; simp
  clear hw0
  refine ⟨trivial, ?_⟩
  refine (callsIn_wide.2 (bat.all_any A m c L w0 HLEN.out hm (HAT.out.below hB0 (Nat.le_refl _)))).mono ?_
  rintro e w1 ⟨gp, A', c', rfl, hgp, hkp, hat1, hin1, hmc, hcm, hb1⟩
  have hbx : ∀ {b : Nat} {t : TypeId} {v : Value}, Boxed w0 b t v → Boxed w1 b t v := fun h => h.kept (grown_by hb1) (by simp)
  have bM1 := hbx bM
  have bA1 := hbx bA
  have bL1 := hbx bL
  have hB1 : Below w.heap.size w w1 := hB0.trans (hb1.mono hB0.size)
  have hz1 := hb1.size
  have hbs : ∀ b ∈ [w.heap.size + 1, w.heap.size + 2], b = w.heap.size + 1 ∨ b = w.heap.size + 2 := fun b hb => by simpa using hb
  have hnb : ∀ b ∈ [w.heap.size + 1, w.heap.size + 2], boxOf w1 b = none := fun b hb => by
    rcases hbs b hb with rfl | rfl
    · rw [boxOf_boxed bA1]; rfl
    · rw [boxOf_boxed bL1]; rfl
  have hin : InB [w.heap.size + 1, w.heap.size + 2] w1 := fun b hb => ⟨by
    rcases hbs b hb with rfl | rfl
    · exact .of_boxed bA1
    · exact .of_boxed bL1, fun k e => by rw [hnb b hb] at e; cases e⟩
  have hsafe : ∀ k, w.heap.size + 3 ≤ k → Safe [w.heap.size + 1, w.heap.size + 2] w1 k := fun k hk => ⟨fun h => by
    rcases hbs k h with rfl | rfl <;> omega, fun b hb e => by rw [hnb b hb] at e; cases e⟩
  have hsrc : Dep (Safe [w.heap.size + 1, w.heap.size + 2] w1) w1 (wk.Src gp A' m c' L) := (Dep.blk hkp (hsafe _ (by omega))).both (Dep.at' hat1 fun hp b off e => hsafe _ (by have := hin1 hp b off e; omega))
  clear bM bA bL hbx hkp hat1 hin1 hnb hsafe
  have hnil' := hnil gp
  clear hnil
  gi_wp2_with fail
  refine for_eachB (F := Fence.wide) (n := 5) rfl h1 (gf := 77) (lb := #[.pointer (some ⟨gp, 0, none⟩)]) rfl trivial (enters_of Try.func77 (by kernel_rfl) rfl)
    (bat.hands 4 (by omega) gp [w.heap.size + 1, w.heap.size + 2] A' m c' L w1 HL.out HLEN.out hmc hcm hm hin hsrc) (Below.refl _ _) Kept.trans
    (fun W o h => Kept.alloc o fun b hb => by rcases hbs b hb with rfl | rfl <;> omega) (fun W l o o' hl ho hcc _ => Kept.put ho hcc fun b hb => by rcases hbs b hb with rfl | rfl <;> omega) (fun _ => rfl)
    (fun pre W => fd.I w.heap.size w most pre W ∧ (pre.length : Int) ≤ most) (fun cd pre W => cd = .exit 0 ∧ ∃ pre0 x, pre = pre0 ++ [x] ∧ most = (pre0.length : Int) ∧ fd.I w.heap.size w most pre0 W)
    (OwnFrom.and (fd.I_own _ _ _ _ (Nat.le_refl _) (by omega)) (fun _ _ _ _ h _ _ => h)) (fun cd s X Y row hs hg hr => by
      obtain ⟨h1, pre0, x, h2, h3, h4⟩ := hs
      exact ⟨h1, pre0, x, h2, h3, fd.I_own _ _ _ w1.heap.size (Nat.le_refl _) (by omega) pre0 X Y row h4 hg hr⟩) (wk.R_own _ _ _) (fun _ _ _ _ h _ _ => h) (fun _ _ _ _ h _ _ => h)
    ⟨⟨⟨_, bA1, World.ownsRow_nil _ _ _ _⟩, ⟨_, bL1, World.ownsRow_nil _ _ _ _⟩, hin, (fun x hx => by cases hx), bM1, hB1⟩, hmost⟩ 24 wk.cells
    (fun x g => { tmps := #[.slice A m c, .int .i64 most, undef, .pointer (some ⟨w.heap.size, 0, none⟩), .slice none 0 0, .slice none 0 0, .pointer (some ⟨w.heap.size + 1, 0, none⟩), .pointer (some ⟨w.heap.size + 1 + 1, 0, none⟩), .func (.func 77) #[] #[.pointer (some ⟨gp, 0, none⟩)], .int .i64 (x.1.1 : Int), .pointer (some ⟨g, 0, none⟩), .slice A m c, .func (.func 77) #[] #[.pointer (some ⟨gp, 0, none⟩)], .func (.func 77) #[] #[.pointer (some ⟨gp, 0, none⟩)], .bool false, .func (.func 77) #[] #[.pointer (some ⟨gp, 0, none⟩)], .int .i64 (x.1.1 : Int), .agg (wk.cells x), undef, undef, undef, undef, undef, undef, undef, undef, undef, undef, undef, undef, undef, undef], defers := [] }) ?assign ?body ?done ?stop
  case assign =>
    rintro l ⟨⟨at', b⟩, ⟨A2, c2⟩⟩ W K hK
    unfold wk.encs Bat.hval
    unfold wk.cells at hK
    dsimp only at hK ⊢
    gi_wp2
    exact hK
  case body =>
    rintro l pre ⟨⟨at', b⟩, ⟨A2, c2⟩⟩ g W hg1 hg2 hk ⟨hI, hle⟩ hR hlt
    unfold wk.cells at hk ⊢
    dsimp only at hk ⊢
    obtain ⟨⟨va, ba, ra⟩, ⟨vl, bl, rl⟩, -, -, bm, hB⟩ := id hI
    obtain ⟨Aa, ca, rfl, hca, -⟩ := own_at ra
    obtain ⟨Al, cl, rfl, hcl, -⟩ := own_at rl
    have cA := ba.cell
    have cL : W.cell? ⟨w.heap.size + 1 + 1, 0, none⟩ = some (.slice Al pre.length cl) := bl.cell
    have cM := bm.cell
    have hzW := hB.size
    have hplen : pre.length ≤ 1000000 := by
      have := dec.walk_len HL.out
      rw [HLEN.out] at this
      omega
    by_cases hb : most ≤ (pre.length : Int)
    · have HI := Lib.hid hI; clear hI
      gi_wp2
      exact ⟨KeepsFrom.refl _ _, Kept.refl _ _, rfl, pre, _, rfl, by omega, HI.out⟩
    · obtain ⟨i0, hi, hz0, hz1', hz2⟩ := info_parts fd.info1
      obtain ⟨j0, hj, hj0, hj1, hj2⟩ := info_parts fd.info
      have HI0 := Lib.hid (And.intro hi (And.intro hz0 (And.intro hz1' hz2))); clear hi hz0 hz1' hz2
      have HJ0 := Lib.hid (And.intro hj (And.intro hj0 (And.intro hj1 hj2))); clear hj hj0 hj1 hj2
      have HI := Lib.hid (And.intro hI hR); clear hI hR
      have HK := Lib.hid hk; clear hk
      gi_wp2_with (first
        | (gi_at_builtin; (refine wpListIn_append_own_at _ rfl (.tmp 22) (.tmp 24) 49 rfl (w.heap.size + 3) 3 i0 (.int .i64 0) 1 8 Try.underlying49 HI0.out.1 HI0.out.2.1 HI0.out.2.2.1 HI0.out.2.2.2 rfl (by decide) _ _ _ rfl (ra.alloc _) ⟨W.heap.size, 0, none⟩ 1 1 [.int .i64 (at' : Int)] rfl rfl (cell_one_new _ _ _) (by simp [Value.oneCell']) (by unfold maxLen; omega) (by omega) (by have := bl.lt; simp; omega) ?_); intro v1 w2 hown1 hgrow1 _ hl1; obtain ⟨g1, cap1, hv1⟩ := ownsRow_succ hown1; subst hv1; obtain ⟨q1, q2, q3, q4, q5⟩ := fd.mid hzW ba ra bl rl HK.out (by omega) hown1 hgrow1; have q5' : W.heap.size ≤ w2.heap.size := (by simpa using q5); have e1 := q1.cell; have f1 := q1.frozen; have cL2 : (w2.setCell ⟨w.heap.size + 1, 0, none⟩ (.slice (some ⟨g1, 0, none⟩) (pre.length + 1) cap1)).cell? ⟨w.heap.size + 1 + 1, 0, none⟩ = some (.slice Al pre.length cl) := q2.cell; have k0 := q4.cell 0 rfl; have k1 := q4.cell 1 rfl; have k2 := q4.cell 2 rfl; have k3 := q4.cell 3 rfl; have k4 := q4.cell 4 rfl; have k5 := q4.cell 5 rfl; clear q1; have HQ := Lib.hid (And.intro q2 (And.intro q3 (And.intro q4 (And.intro hown1 (And.intro hgrow1 hl1))))); clear q2 q3 q4 hown1 hgrow1 hl1)
        | (gi_at_builtin; go_loud (refine wpListIn_append_own_at _ rfl (.tmp 26) (.tmp 28) 50 rfl (w.heap.size + 3) 24 j0 _ 6 64 Try.underlying50 HJ0.out.1 HJ0.out.2.1 HJ0.out.2.2.1 HJ0.out.2.2.2 rfl (by decide) _ _ _ rfl (HQ.out.2.1.alloc _) ⟨w2.heap.size, 0, none⟩ 1 1 [.int .i64 b.base, .int .i64 b.last, .int .i64 b.prod, .int .i64 b.epoch, .int .i64 b.seq, .slice A2 b.recs.length c2] rfl rfl (cells_new _ [.int .i64 b.base, .int .i64 b.last, .int .i64 b.prod, .int .i64 b.epoch, .int .i64 b.seq, .slice A2 b.recs.length c2] _ _ (by simp)) (by simp [Value.oneCell']) (by unfold maxLen; omega) (by omega) (by have := bl.lt; simp; omega) ?_); go_loud (intro v2 w3 hown2 hgrow2 _ hl2; obtain ⟨g2, cap2, hv2⟩ := ownsRow_succ hown2; subst hv2; have hround := fd.round (z := w.heap.size) (w := w) (W := W) (w2 := w2) (w3 := w3) (most := most) (pre := pre) (L := L) (x := ((at', b), (A2, c2))) w1.heap.size HI.out.1 HI.out.2 (Nat.le_refl _) ba ra bl rl HQ.out.2.2.2.1 HQ.out.2.2.2.2.1 HQ.out.2.2.2.2.2 hown2 hgrow2 hl2; have HR := Lib.hid hround; clear hround; have hne2 : some (w.heap.size + 2) ≠ (Value.slice Al pre.length cl).ownBlock := own_ne rl (by omega); have hbx : Boxed w3 (w.heap.size + 2) 50 (.slice Al pre.length cl) := (HQ.out.1.alloc _).kept hgrow2 hne2; have e2 : w3.cell? ⟨w.heap.size + 1 + 1, 0, none⟩ = some (.slice Al pre.length cl) := hbx.cell; have f2 : w3.frozen? ⟨w.heap.size + 1 + 1, 0, none⟩ = false := hbx.frozen)))
      exact ⟨HR.out.1, HR.out.2.1, HR.out.2.2, by rw [List.length_append]; simp; omega⟩
  case done =>
    rintro D xs W hD hS ⟨hI, hle⟩ hK
    obtain ⟨Aa, ca, Al, cl, ba, bl, hca, hcl, hdep⟩ := fd.out hI
    have hB : Below w.heap.size w W := hI.2.2.2.2.2
    have cA := ba.cell
    have cL : W.cell? ⟨w.heap.size + 1 + 1, 0, none⟩ = some (.slice Al xs.length cl) := bl.cell
    have hd : xs.map Prod.fst = (dec.walk L).take most.toNat := by
      have hS : xs.map Prod.fst = dec.walk L := hS
      rw [hS, List.take_of_length_le]
      rw [← hS, List.length_map]
      omega
    have HH := Lib.hid (And.intro hd (And.intro hdep hB)); clear hd hdep hB hI hS
    gi_wp2_with fail
    gi_region
    gi_wp2_with fail
    refine ⟨by simp, .inl ⟨_, _, rfl, run_takeDeferred (show W.drew.heap[D]? = _ from hK), ?_⟩⟩
    refine ⟨_, results_tmps2 (t := 4) (u := 5) rfl _ _ _, ?_⟩
    exact fd.post HH.out.1 hca hcl ((show Dep (fun _ => True) W.drew _ from HH.out.2.1).put (show W.drew.heap[D]? = _ from hK) rfl) ((bdrew HH.out.2.2 1).trans (belowK_b (w := w) (Nat.le_refl _) W.drew D _ _ (by omega) hK rfl rfl))
  case stop =>
    rintro D cd pre W hD hpre ⟨rfl, pre0, x, rfl, hmo, hI⟩ hK
    obtain ⟨Aa, ca, Al, cl, ba, bl, hca, hcl, hdep⟩ := fd.out hI
    have hB : Below w.heap.size w W := hI.2.2.2.2.2
    have cA := ba.cell
    have cL : W.cell? ⟨w.heap.size + 1 + 1, 0, none⟩ = some (.slice Al pre0.length cl) := bl.cell
    have hd : pre0.map Prod.fst = (dec.walk L).take most.toNat := by
      obtain ⟨rest, hr⟩ := hpre
      rw [← hr, List.map_append, List.append_assoc, List.take_append_of_le_length (by rw [List.length_map]; omega), List.take_of_length_le (by rw [List.length_map]; omega)]
    have HH := Lib.hid (And.intro hd (And.intro hdep hB)); clear hd hdep hB hI hpre
    gi_wp2_with fail
    gi_region
    gi_wp2_with fail
    refine ⟨by simp, .inl ⟨_, _, rfl, run_takeDeferred (show W.drew.heap[D]? = _ from hK), ?_⟩⟩
    refine ⟨_, results_tmps2 (t := 4) (u := 5) rfl _ _ _, ?_⟩
    exact fd.post HH.out.1 hca hcl ((show Dep (fun _ => True) W.drew _ from HH.out.2.1).put (show W.drew.heap[D]? = _ from hK) rfl) ((bdrew HH.out.2.2 1).trans (belowK_b (w := w) (Nat.le_refl _) W.drew D _ _ (by omega) hK rfl rfl))
end Go.Proofs.Ytndingohckcmdaa

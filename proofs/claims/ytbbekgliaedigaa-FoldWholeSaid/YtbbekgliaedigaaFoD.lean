/- fold: what records fold to, and what the rounds of Of keep. -/
import Derived.Test.YtbbekgliaedigaaFoA
import Derived.Test.YtbbekgliaedigaaFoC
import Derived.Test.YtbbekgliaedigaaPfE
namespace Go.Proofs.Ytbbekgliaedigaa
open Go.RowKit Go.Maps

/-- What a key has: its bytes, its value, its offset. -/
abbrev FoV := List Nat × List Nat × Int
def fo.one (h : ByteArray → Option FoV) (r : Rec) : ByteArray → Option FoV := if r.hasKey then fun s => if s = strOf r.key then (if r.hasVal then some (r.key, r.val, r.off) else none) else h s else h
/-- What records fold to. -/
def fo.map (rs : List Rec) : ByteArray → Option FoV := rs.foldl fo.one (fun _ => none)
theorem fo.map_snoc (rs : List Rec) (r : Rec) : fo.map (rs ++ [r]) = fo.one (fo.map rs) r := by unfold fo.map; rw [List.foldl_append]; rfl
def PItm.is (x : PItm) : FoV := (x.bs, x.vs, x.off)
theorem fo.map_some (rs : List Rec) : ∀ (s : ByteArray) (v : FoV), fo.map rs s = some v → ∃ r ∈ rs, s = strOf r.key ∧ v = (r.key, r.val, r.off) := by
  suffices h : ∀ (rs : List Rec) (h0 : ByteArray → Option FoV) (s : ByteArray) (v : FoV), rs.foldl fo.one h0 s = some v → h0 s = some v ∨ ∃ r ∈ rs, s = strOf r.key ∧ v = (r.key, r.val, r.off) by
    intro s v hv
    rcases h rs _ s v hv with h | h
    · cases h
    · exact h
  intro rs
  induction rs with
  | nil => intro h0 s v hv; exact .inl hv
  | cons r rs ih =>
    intro h0 s v hv
    rcases ih _ s v hv with h | ⟨r', hr, h⟩
    · unfold fo.one at h
      split at h
      · dsimp only at h
        split at h
        · rename_i hs
          split at h
          · exact .inr ⟨r, List.mem_cons_self .., hs, (Option.some.inj h).symm⟩
          · cases h
        · exact .inl h
      · exact .inl h
    · exact .inr ⟨r', List.mem_cons_of_mem _ hr, h⟩

/-- The pairs that records fold to: by keys. -/
structure FoIs (l : List PItm) (rs : List Rec) : Prop where
  rises : Rises l
  says : ∀ x ∈ l, fo.map rs x.key = some x.is
  all : ∀ s v, fo.map rs s = some v → ∃ x ∈ l, x.key = s
  len : l.length ≤ rs.length

theorem GM.no_cells {w : World} {b N : Nat} {g : ByteArray → Option Value} (h : GM strKey w b N g) {o : Obj} (ho : w.heap[b]? = some o) : o.isCells = false := by
  obtain ⟨D, ⟨es, clock, h1, _⟩, _⟩ := h
  rw [h1] at ho
  cases ho
  rfl
/-- A map alone was turned: all cells stand. -/
theorem fo.kept {W V : World} {b N : Nat} {g : ByteArray → Option Value} (h : GM strKey W b N g) (hc : Chg W V (fun k => k = b)) : Kept [] W V :=
  ⟨hc.size, fun k o hk hcc _ => (hc.block k (heap_in hk) fun e => by
    have e : k = b := e
    subst e
    rw [h.no_cells hk] at hcc
    cases hcc).trans hk, fun b hb => (by cases hb), fun _ b hb => (by cases hb)⟩
theorem InB.nil (W : World) : InB [] W := fun b hb => by cases hb

/-- What the rounds of Of keep: at mb the map of what came. -/
def fo.I (z mb : Nat) (w : World) (pre : List FoX) (W : World) : Prop :=
  ∃ (N : Nat) (gi : ByteArray → Option PItm), Boxed W z 128 (.map (some mb)) ∧ GM strKey W mb N (fun s => (gi s).map PItm.agg) ∧ (∀ s, (gi s).map PItm.is = fo.map (pre.map Prod.fst) s) ∧ (∀ s x, gi s = some x → Dep (Safe [] W) W (fun U => PBytes U x)) ∧ N ≤ pre.length ∧ Below w.heap.size w W
theorem fo.I_own {z mb : Nat} {w : World} {B : Nat} (hmb : mb < B) (hB : w.heap.size ≤ B) : OwnFrom B (fo.I z mb w) := fun pre W W' row h hg hr => by
  obtain ⟨N, gi, h1, h2, h3, h4, h5, h6⟩ := h
  have hr' : ∀ r, row = some r → ∃ o : Obj, W.heap[r]? = some o ∧ o.isCells = false := fun r e => (hr r e).2
  refine ⟨N, gi, h1.kept hg fun e => ?_, h2.of_block (hg.block mb h2.lt fun e => ?_), h3, fun s x hx => (h4 s x hx).grown (InB.nil _) hg hr', h5, h6.grown hg h6.size fun k e => Nat.le_trans hB (hr k e).1⟩
  · obtain ⟨o, ho, hc⟩ := hr' z e.symm
    rw [show W.heap[z]? = _ from h1] at ho
    cases ho
    cases hc
  · have := (hr mb e.symm).1
    omega
theorem PItm.bytes_dep {W : World} {x : PItm} (h : PBytes W x) : Dep (Safe [] W) W (fun U => PBytes U x) := by
  obtain ⟨h1, h2, h3, h4, h5, h6⟩ := h
  have hs : ∀ k, Safe [] W k := fun k => ⟨by simp, fun b hb => by cases hb⟩
  exact ((Dep.at' h3 fun _ b _ _ => hs b).both (Dep.at' h6 fun _ b _ _ => hs b)).imp fun U hu => ⟨h1, h2, hu.1, h4, h5, hu.2⟩
/-- A round that leaves the map as it is. -/
theorem fo.I_skip {z mb : Nat} {w W V : World} {pre : List FoX} {x : FoX} (h : fo.I z mb w pre W) (hx : x.1.hasKey = false) (hb : Below W.heap.size W V) : fo.I z mb w (pre ++ [x]) V := by
  obtain ⟨N, gi, h1, h2, h3, h4, h5, h6⟩ := h
  refine ⟨N, gi, h1.kept (grown_by hb) (by simp), h2.below hb h2.lt, fun s => ?_, fun s y hy => (h4 s y hy).below hb |>.weak fun k _ _ => ⟨by simp, fun b hb => by cases hb⟩, by rw [List.length_append]; omega, h6.trans (hb.mono h6.size)⟩
  rw [h3, List.map_append, List.map_cons, List.map_nil, fo.map_snoc]
  unfold fo.one
  rw [if_neg (by rw [hx]; simp)]
/-- A round that puts. -/
theorem fo.I_put {z mb : Nat} {w W V U : World} {pre : List FoX} {x : FoX} {N : Nat} {gi : ByteArray → Option PItm} {y : PItm} (hz : Boxed W z 128 (.map (some mb))) (hg : GM strKey W mb N (fun s => (gi s).map PItm.agg)) (hgi : ∀ s, (gi s).map PItm.is = fo.map (pre.map Prod.fst) s) (hd : ∀ s x, gi s = some x → Dep (Safe [] W) W (fun U => PBytes U x)) (hN : N ≤ pre.length) (hbw : Below w.heap.size w W)
    (hk : x.1.hasKey = true) (hv : x.1.hasVal = true) (hw : w.heap.size ≤ mb) (hWU : Below W.heap.size W U) (hy : PBytes U y) (hys : y.is = (x.1.key, x.1.val, x.1.off))
    (hV : GM strKey V mb (if ((fun s => (gi s).map PItm.agg) (strOf x.1.key)).isSome then N else N + 1) (gput (fun s => (gi s).map PItm.agg) (strOf x.1.key) y.agg)) (hc : Chg U V (fun k => k = mb)) (hUg : GM strKey U mb N (fun s => (gi s).map PItm.agg)) :
    fo.I z mb w (pre ++ [x]) V ∧ Kept [] W V ∧ Chg W V (fun k => k = mb) := by
  classical
  have hcw : Chg W V (fun k => k = mb) := (chg_of (P := fun k => k = mb) hWU).trans hc fun _ _ h => h
  have hkep : Kept [] W V := fo.kept hg hcw
  have hkep2 : Kept [] U V := fo.kept hUg hc
  refine ⟨⟨_, fun s => if s = strOf x.1.key then some y else gi s, ?_, hV.congr fun s _ => ?_, fun s => ?_, fun s u hu => ?_, ?_, hbw.trans (hcw.below hbw.size fun k hk => by have hk : k = mb := hk; omega)⟩, hkep, hcw⟩
  · exact (hcw.block z hz.lt fun e => by
      have e : z = mb := e
      subst e
      have := hg.no_cells (show W.heap[z]? = _ from hz)
      cases this).trans hz
  · by_cases hs : s = strOf x.1.key
    · subst hs
      dsimp only
      rw [if_pos rfl, gput_same]
      rfl
    · dsimp only
      rw [if_neg hs, gput_other _ hs]
  · rw [List.map_append, List.map_cons, List.map_nil, fo.map_snoc]
    unfold fo.one
    rw [if_pos hk]
    by_cases hs : s = strOf x.1.key
    · dsimp only
      rw [if_pos hs, if_pos hs, if_pos hv, ← hys]
      rfl
    · dsimp only
      rw [if_neg hs, if_neg hs]
      exact hgi s
  · dsimp only at hu
    split at hu
    · obtain rfl : y = u := Option.some.inj hu
      exact (PItm.bytes_dep hy).kept hkep2
    · exact (hd s u hu).kept hkep
  · rw [List.length_append, List.length_singleton]
    split <;> omega
/-- A round that takes away. -/
theorem fo.I_drop {z mb : Nat} {w W V : World} {pre : List FoX} {x : FoX} {N : Nat} {gi : ByteArray → Option PItm} (hz : Boxed W z 128 (.map (some mb))) (hg : GM strKey W mb N (fun s => (gi s).map PItm.agg)) (hgi : ∀ s, (gi s).map PItm.is = fo.map (pre.map Prod.fst) s) (hd : ∀ s x, gi s = some x → Dep (Safe [] W) W (fun U => PBytes U x)) (hN : N ≤ pre.length) (hbw : Below w.heap.size w W)
    (hk : x.1.hasKey = true) (hv : x.1.hasVal = false) (hw : w.heap.size ≤ mb)
    (hV : GM strKey V mb (if ((fun s => (gi s).map PItm.agg) (strOf x.1.key)).isSome then N - 1 else N) (gdel (fun s => (gi s).map PItm.agg) (strOf x.1.key))) (hc : Chg W V (fun k => k = mb)) :
    fo.I z mb w (pre ++ [x]) V ∧ Kept [] W V := by
  classical
  have hkep : Kept [] W V := fo.kept hg hc
  refine ⟨⟨_, fun s => if s = strOf x.1.key then none else gi s, ?_, hV.congr fun s _ => ?_, fun s => ?_, fun s u hu => ?_, ?_, hbw.trans (hc.below hbw.size fun k hk => by have hk : k = mb := hk; omega)⟩, hkep⟩
  · exact (hc.block z hz.lt fun e => by
      have e : z = mb := e
      subst e
      have := hg.no_cells (show W.heap[z]? = _ from hz)
      cases this).trans hz
  · by_cases hs : s = strOf x.1.key
    · subst hs
      dsimp only
      rw [if_pos rfl, gdel_same]
      rfl
    · dsimp only
      rw [if_neg hs, gdel_other hs]
  · rw [List.map_append, List.map_cons, List.map_nil, fo.map_snoc]
    unfold fo.one
    rw [if_pos hk]
    by_cases hs : s = strOf x.1.key
    · dsimp only
      rw [if_pos hs, if_pos hs, if_neg (by rw [hv]; simp)]
      rfl
    · dsimp only
      rw [if_neg hs, if_neg hs]
      exact hgi s
  · dsimp only at hu
    split at hu
    · cases hu
    · exact (hd s u hu).kept hkep
  · rw [List.length_append, List.length_singleton]
    split <;> omega
theorem fo.R_open {Bs : List Nat} {r : Rec} {Ak Av : Option Addr} {ck cv : Nat} {W : World} (h : fo.R Bs (r, (Ak, ck), (Av, cv)) W) : At W Ak r.key.length (byteAt r.key) ∧ At W Av r.val.length (byteAt r.val) ∧ i64ok r.off := by
  obtain ⟨kv, vv, e, ⟨A1, c1, rfl, k1, -⟩, ⟨A2, c2, rfl, m1, -⟩, hio, -⟩ := h.2.now
  unfold fo.xcells fo.cells at e
  simp at e
  obtain ⟨⟨rfl, rfl⟩, rfl, rfl⟩ := e
  exact ⟨k1, m1, hio⟩
theorem fo.at_apart {W : World} {b N : Nat} {g : ByteArray → Option Value} {A : Option Addr} {n : Nat} {V : Nat → Value} (hg : GM strKey W b N g) (ha : At W A n V) : 0 < n → ∀ p off, A = some ⟨p, off, none⟩ → ¬ p = b := fun hn p off e => by
  obtain ⟨p', off', e', -, hc⟩ := ha hn
  rw [e] at e'
  obtain ⟨rfl, rfl⟩ : p = p' ∧ off = off' := by simpa using e'
  exact hg.not_cells (hc 0 hn)
theorem fo.keeps {W V : World} {b B : Nat} (hc : Chg W V (fun k => k = b)) (hb : b < B) : KeepsFrom B W V :=
  ⟨hc.size, fun k o hB hk _ => (hc.block k (heap_in hk) fun e => by have e : k = b := e; omega).trans hk⟩
theorem fo.Nx_small {bs : List Bat} {pre : List FoX} {x : FoX} (hs : fo.Small bs) (h : fo.Nx bs pre x) : x.1.key.length ≤ 1000000 ∧ x.1.val.length ≤ 1000000 := by
  obtain ⟨rest, hr⟩ := h
  have hm : x.1 ∈ rc.flat bs := by
    rw [← hr]
    simp
  unfold rc.flat at hm
  obtain ⟨l, hl, hx⟩ := List.mem_flatten.1 hm
  obtain ⟨b, hb, rfl⟩ := List.mem_map.1 hl
  exact (hs.2 b hb).2 _ hx
/-- The row that is gathered along the keys. -/
theorem fo.row_is {gi : ByteArray → Option PItm} {rs : List Rec} {ks : List ByteArray} {l : List PItm} (hgi : ∀ s, (gi s).map PItm.is = fo.map rs s) (hl : l.map some = ks.map gi) (hks : IsKeys (keyed fun s => (gi s).map PItm.agg) ks) (hri : ks.Pairwise fun x y => pf.lt x y = true) (hsz : ∀ r ∈ rs, r.key.length ≤ 1000000) (hlen : l.length ≤ rs.length) :
    FoIs l rs ∧ ∀ x ∈ l, ∃ s, gi s = some x := by
  have hone : ∀ s x, gi s = some x → x.key = s := fun s x h => by
    have h1 := hgi s
    rw [h] at h1
    obtain ⟨r, -, h2, h3⟩ := fo.map_some rs s _ h1.symm
    have h4 : x.bs = r.key := congrArg Prod.fst h3
    show strOf x.bs = s
    rw [h4, h2]
  have hkey : l.map PItm.key = ks := by
    have h : ∀ (l : List PItm) (ks : List ByteArray), l.map some = ks.map gi → l.map PItm.key = ks := by
      intro l
      induction l with
      | nil => intro ks h; cases ks with | nil => rfl | cons => simp at h
      | cons x l ih =>
        intro ks h
        cases ks with
        | nil => simp at h
        | cons s ks =>
          simp only [List.map_cons, List.cons.injEq] at h ⊢
          exact ⟨hone s x h.1.symm, ih ks h.2⟩
    exact h l ks hl
  have hmem : ∀ x ∈ l, gi x.key = some x := fun x hx => by
    have h1 : some x ∈ ks.map gi := by rw [← hl]; exact List.mem_map.2 ⟨x, hx, rfl⟩
    obtain ⟨s, -, hs⟩ := List.mem_map.1 h1
    rw [hone s x hs]
    exact hs
  refine ⟨⟨?_, fun x hx => ?_, fun s v hv => ?_, hlen⟩, fun x hx => ⟨_, hmem x hx⟩⟩
  · rw [← hkey] at hri
    exact List.pairwise_map.1 hri
  · rw [← hgi, hmem x hx]
    rfl
  · obtain ⟨r, hr, hs, -⟩ := fo.map_some rs s v hv
    have h1 : (gi s).isSome = true := by
      have h2 := hgi s
      rw [hv] at h2
      cases hg : gi s with
      | none => rw [hg] at h2; cases h2
      | some x => rfl
    have h3 : s ∈ ks := (hks.2 s).2 ⟨by rw [hs, strOf_size]; have := hsz r hr; unfold maxLen; omega, by
      rw [keyed_some]
      cases hg : gi s with
      | none => rw [hg] at h1; cases h1
      | some x => rfl⟩
    rw [← hkey] at h3
    exact List.mem_map.1 h3
theorem fo.cell3 (W : World) (T : TypeId) (a b c : Value) : ∀ (j : Nat) (u : Value), [a, b, c][j]? = some u → (W.alloc (.cells #[a, b, c] T)).cell? ((⟨W.heap.size, 0, none⟩ : Addr).add j) = some u := by
  intro j u hu
  have hb := Blk.new W T #[a, b, c]
  have e : (⟨W.heap.size, 0, none⟩ : Addr).add j = ⟨W.heap.size, j, none⟩ := by simp [Addr.add]; exact fun e => e.symm
  rw [e]
  exact hb.cell j (by simpa using hu)
theorem fo.infoP : (Try.prog.info? 60).map (fun i => (i.zero, i.size, i.bytes)) = some (some (.agg #[.slice none 0 0, .slice none 0 0, .int .i64 0]), 3, 56) := by kernel_rfl
theorem fo.zeroP (w : World) : (zeroValue 60).run Try.prog w = .ok (.agg #[.slice none 0 0, .slice none 0 0, .int .i64 0]) w := by
  obtain ⟨i, h1, h2, _⟩ := info_parts fo.infoP
  simp [zeroValue, typeInfo, h1, h2]
end Go.Proofs.Ytbbekgliaedigaa

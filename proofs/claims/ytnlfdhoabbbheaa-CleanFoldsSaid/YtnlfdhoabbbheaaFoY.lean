/- Foldings: what records fold to; pairs compared (fold.Same). -/
import Derived.Test.YtnlfdhoabbbheaaMapX
import Derived.Test.YtnlfdhoabbbheaaMapG
import Derived.Test.YtnlfdhoabbbheaaFoX
import Derived.Test.YtnlfdhoabbbheaaPfX
import Derived.BigQuiet
import Derived.Deep.QuietTactic
import Derived.Deep.Cut
import Derived.Maps.AppendAt
import Derived.Test.YtnlfdhoabbbheaaSbT
import Derived.Test.YtnlfdhoabbbheaaSmR
namespace Go.Proofs.Ytnlfdhoabbbheaa
section
open Go.RowKit Go.Maps Go.WideMaps

/-- Which keys a map of any elements has. -/
def keyed (g : ByteArray → Option Value) : ByteArray → Option Int := fun s => (g s).map fun _ => 0
theorem keyed_some (g : ByteArray → Option Value) (s : ByteArray) : (keyed g s).isSome = (g s).isSome := by unfold keyed; cases g s <;> rfl

theorem strKeys_factsG {w : World} {b N : Nat} {D : DataW Value} (h : w.ownsMap Try.prog 9 anyElem b N D) :
    (strKeys D).Nodup ∧ (∀ x, x ∈ strKeys D ↔ Maps.has D (.string x) = true) ∧ (strKeys D).length = Maps.size D := by
  obtain ⟨es, hD, hpw, _⟩ := h.entries strKey.keyed
  obtain ⟨es', hD', hko⟩ := h.keysOf
  obtain rfl : es = es' := by rw [hD] at hD'; simpa using hD'
  subst hD
  have hk : ∀ p ∈ es, ∃ x, p.1 = .string x := fun p hp => by
    obtain ⟨v, hv⟩ := hko p hp
    obtain ⟨x, _, hx, _⟩ := Maps.keyOf_str Try.underlying9 hv
    exact ⟨x, hx⟩
  refine ⟨?_, fun x => ?_, by simp [strKeys, Maps.size]⟩
  · refine List.pairwise_map.2 (hpw.imp_of_mem fun {p q} hp' hq' hne e => hne ?_)
    obtain ⟨a, ha⟩ := hk p hp'
    obtain ⟨b, hb⟩ := hk q hq'
    rw [ha, hb] at e ⊢
    exact congrArg Lit.string e
  · rw [Maps.has_eq, List.any_eq_true]
    show x ∈ es.map (fun p => Go.strOf p.1) ↔ _
    rw [List.mem_map]
    constructor
    · rintro ⟨p, hp', hs⟩
      obtain ⟨a, ha⟩ := hk p hp'
      rw [ha] at hs
      exact ⟨p, hp', by rw [ha]; simpa [Lit.sameKey, Go.strOf] using hs⟩
    · rintro ⟨p, hp', h⟩
      obtain ⟨a, ha⟩ := hk p hp'
      rw [ha] at h
      exact ⟨p, hp', by rw [ha]; simpa [Lit.sameKey, Go.strOf] using h.symm⟩

theorem keys_of_permG {w : World} {b N : Nat} {g : ByteArray → Option Value} {D : DataW Value} (h1 : w.ownsMap Try.prog 9 anyElem b N D) (h2 : Maps.size D = N) (h3 : Says strKey D g)
    {ss : List (List UInt8)} (hp : ss.Perm (strKeys D)) : IsKeys (keyed g) (ss.map barr) ∧ (ss.map barr).length = N := by
  obtain ⟨hnd, hmem, hlen⟩ := strKeys_factsG h1
  have hle := strKeys_le h1 Try.underlying9
  have h4 : ∀ s : ByteArray, s.size ≤ maxLen → Maps.has D (.string s.data.toList) = (g s).isSome := fun s hs => (h3 s hs).1
  refine ⟨⟨?_, fun s => ?_⟩, by rw [List.length_map, hp.length_eq, hlen, h2]⟩
  · exact List.pairwise_map.2 ((hp.symm.nodup hnd).imp fun hne e => hne (barr_inj e))
  · rw [List.mem_map, keyed_some]
    constructor
    · rintro ⟨x, hx, rfl⟩
      have hx' := hp.mem_iff.1 hx
      have hl := hle x hx'
      refine ⟨by rw [barr_size]; exact hl, ?_⟩
      rw [← h4 (barr x) (by rw [barr_size]; exact hl)]
      simpa [barr] using (hmem x).1 hx'
    · rintro ⟨hs, hg⟩
      refine ⟨s.data.toList, hp.mem_iff.2 ((hmem _).2 ?_), rfl⟩
      rw [h4 s hs]; exact hg

/-- maps.Keys at a map. -/
theorem maps_keysP (mb : Option Nat) (w : World) :
    Calls Try.prog 55 #[.map mb] w fun e w' => e = .returned (.func (.func 63) #[] #[.pointer (some ⟨w.heap.size, 0, none⟩)]) ∧ w' = w.alloc (.cells #[.map mb] 99) :=
  (callsIn_wide (n := 5)).1 (AnyZ.keys_in Try.layKeysP Fence.wide 5 trivial rfl mb w)
theorem keys_givesP (b N : Nat) (w : World) (D : DataW Value) (n : Nat) (hn : 1 ≤ n) (hown : w.ownsMap Try.prog 9 anyElem b N D) :
    SeqGives Fence.wide n Try.prog 63 #[.pointer (some ⟨w.heap.size, 0, none⟩)] encStr (fun ss => ss.Perm (strKeys D)) (Maps.size D) (w.alloc (.cells #[.map (some b)] 99)) := by
  have hbl := hown.lt
  refine AnyZ.keys_gives (ρ := Try.layKeysP_ren) (R := anyElem) { Try.layKeysP with } Fence.wide n trivial rfl hn w.heap.size b N D _ (by simp) (by simp) ?_
  obtain ⟨es, clock, hb, Ft, hs, hD⟩ := hown
  exact ⟨es, clock, (Below.heap_alloc _ _ b hbl).trans hb, Ft, hs, hD⟩

set_option maxHeartbeats 1000000 in
theorem keys_risingP (b N : Nat) (g : ByteArray → Option Value) (w : World) (h : GM strKey w b N g) (hN : N ≤ 1000000) :
    Calls Try.prog 54 #[.func (.func 63) #[] #[.pointer (some ⟨w.heap.size, 0, none⟩)]] (w.alloc (.cells #[.map (some b)] 99)) (RisePost (w.alloc (.cells #[.map (some b)] 99)) N (keyed g)) := by
  obtain ⟨D, h1, h2, h3⟩ := h
  have hc := (callsIn_wide (n := 5)).1 (AnyZ.sorted_in Try.laySorted Fence.wide 5 trivial trivial trivial trivial rfl (by omega) (sorts_in _) (Go.Proofs.enters_of Try.func62 (by kernel_rfl) rfl) 63 #[.pointer (some ⟨w.heap.size, 0, none⟩)] trivial (Go.Proofs.enters_of Try.func63 (by kernel_rfl) rfl) _ (Maps.size D) (by rw [h2]; unfold maxLen; omega) (by rw [h2]; omega) _ (keys_givesP b N w D _ (by omega) h1))
  refine hc.mono ?_
  rintro e w' ⟨v, ss, rfl, hS, hrow, -, hb⟩
  have hp : (ss.mergeSort (fun x y => decide (x ≤ y))).Perm (strKeys D) := (List.mergeSort_perm ss _).trans hS
  obtain ⟨hk, hl⟩ := keys_of_permG h1 h2 h3 hp
  have hnd : ss.Nodup := hS.symm.nodup (strKeys_factsG h1).1
  refine ⟨v, (ss.mergeSort (fun x y => decide (x ≤ y))).map barr, rfl, hk, hl, pf.sort_rises ss hnd, ?_, hb⟩
  rw [List.length_map, (List.mergeSort_perm ss _).length_eq] at hl
  rw [← encStr_barr, ← hl]
  exact hrow
end
section
open Go.RowKit Go.Maps

/-- What a key has: its bytes, its value, its offset. -/
abbrev FoV := List Nat × List Nat × Int
def fo.one (h : ByteArray → Option FoV) (r : Rec) : ByteArray → Option FoV := if r.hasKey then fun s => if s = strOf r.key then (if r.hasVal then some (r.key, r.val, r.off) else none) else h s else h
/-- What records fold to. -/
def fo.map (rs : List Rec) : ByteArray → Option FoV := rs.foldl fo.one (fun _ => none)
theorem fo.map_snoc (rs : List Rec) (r : Rec) : fo.map (rs ++ [r]) = fo.one (fo.map rs) r := by unfold fo.map; rw [List.foldl_append]; rfl
def PItm.is (x : PItm) : FoV := (x.bs, x.vs, x.off)
theorem fo.map_some (rs : List Rec) : ∀ (s : ByteArray) (v : FoV), fo.map rs s = some v → ∃ r ∈ rs, s = strOf r.key ∧ v = (r.key, r.val, r.off) := by
  suffices h : ∀ (rs : List Rec) (h0 : ByteArray → Option FoV) (s : ByteArray) (v : FoV), rs.foldl fo.one h0 s = some v → h0 s = some v ∨ ∃ r ∈ rs, s = strOf r.key ∧ v = (r.key, r.val, r.off) by
    intro s v hv
    rcases h rs _ s v hv with h | h
    · cases h
    · exact h
  intro rs
  induction rs with
  | nil => intro h0 s v hv; exact .inl hv
  | cons r rs ih =>
    intro h0 s v hv
    rcases ih _ s v hv with h | ⟨r', hr, h⟩
    · unfold fo.one at h
      split at h
      · dsimp only at h
        split at h
        · rename_i hs
          split at h
          · exact .inr ⟨r, List.mem_cons_self .., hs, (Option.some.inj h).symm⟩
          · cases h
        · exact .inl h
      · exact .inl h
    · exact .inr ⟨r', List.mem_cons_of_mem _ hr, h⟩

/-- The pairs that records fold to: by keys. -/
structure FoIs (l : List PItm) (rs : List Rec) : Prop where
  rises : Rises l
  says : ∀ x ∈ l, fo.map rs x.key = some x.is
  all : ∀ s v, fo.map rs s = some v → ∃ x ∈ l, x.key = s
  len : l.length ≤ rs.length

theorem GM.no_cells {w : World} {b N : Nat} {g : ByteArray → Option Value} (h : GM strKey w b N g) {o : Obj} (ho : w.heap[b]? = some o) : o.isCells = false := by
  obtain ⟨D, ⟨es, clock, h1, _⟩, _⟩ := h
  rw [h1] at ho
  cases ho
  rfl
/-- A map alone was turned: all cells stand. -/
theorem fo.kept {W V : World} {b N : Nat} {g : ByteArray → Option Value} (h : GM strKey W b N g) (hc : Chg W V (fun k => k = b)) : Kept [] W V :=
  ⟨hc.size, fun k o hk hcc _ => (hc.block k (heap_in hk) fun e => by
    have e : k = b := e
    subst e
    rw [h.no_cells hk] at hcc
    cases hcc).trans hk, fun b hb => (by cases hb), fun _ b hb => (by cases hb)⟩
theorem InB.nil (W : World) : InB [] W := fun b hb => by cases hb

/-- What the rounds of Of keep: at mb the map of what came. -/
def fo.I (z mb : Nat) (w : World) (pre : List FoX) (W : World) : Prop :=
  ∃ (N : Nat) (gi : ByteArray → Option PItm), Boxed W z 99 (.map (some mb)) ∧ GM strKey W mb N (fun s => (gi s).map PItm.agg) ∧ (∀ s, (gi s).map PItm.is = fo.map (pre.map Prod.fst) s) ∧ (∀ s x, gi s = some x → Dep (Safe [] W) W (fun U => PBytes U x)) ∧ N ≤ pre.length ∧ Below w.heap.size w W
theorem fo.I_own {z mb : Nat} {w : World} {B : Nat} (hmb : mb < B) (hB : w.heap.size ≤ B) : OwnFrom B (fo.I z mb w) := fun pre W W' row h hg hr => by
  obtain ⟨N, gi, h1, h2, h3, h4, h5, h6⟩ := h
  have hr' : ∀ r, row = some r → ∃ o : Obj, W.heap[r]? = some o ∧ o.isCells = false := fun r e => (hr r e).2
  refine ⟨N, gi, h1.kept hg fun e => ?_, h2.of_block (hg.block mb h2.lt fun e => ?_), h3, fun s x hx => (h4 s x hx).grown (InB.nil _) hg hr', h5, h6.grown hg h6.size fun k e => Nat.le_trans hB (hr k e).1⟩
  · obtain ⟨o, ho, hc⟩ := hr' z e.symm
    rw [show W.heap[z]? = _ from h1] at ho
    cases ho
    cases hc
  · have := (hr mb e.symm).1
    omega
theorem PItm.bytes_dep {W : World} {x : PItm} (h : PBytes W x) : Dep (Safe [] W) W (fun U => PBytes U x) := by
  obtain ⟨h1, h2, h3, h4, h5, h6⟩ := h
  have hs : ∀ k, Safe [] W k := fun k => ⟨by simp, fun b hb => by cases hb⟩
  exact ((Dep.at' h3 fun _ b _ _ => hs b).both (Dep.at' h6 fun _ b _ _ => hs b)).imp fun U hu => ⟨h1, h2, hu.1, h4, h5, hu.2⟩
/-- A round that leaves the map as it is. -/
theorem fo.I_skip {z mb : Nat} {w W V : World} {pre : List FoX} {x : FoX} (h : fo.I z mb w pre W) (hx : x.1.hasKey = false) (hb : Below W.heap.size W V) : fo.I z mb w (pre ++ [x]) V := by
  obtain ⟨N, gi, h1, h2, h3, h4, h5, h6⟩ := h
  refine ⟨N, gi, h1.kept (grown_by hb) (by simp), h2.below hb h2.lt, fun s => ?_, fun s y hy => (h4 s y hy).below hb |>.weak fun k _ _ => ⟨by simp, fun b hb => by cases hb⟩, by rw [List.length_append]; omega, h6.trans (hb.mono h6.size)⟩
  rw [h3, List.map_append, List.map_cons, List.map_nil, fo.map_snoc]
  unfold fo.one
  rw [if_neg (by rw [hx]; simp)]
/-- A round that puts. -/
theorem fo.I_put {z mb : Nat} {w W V U : World} {pre : List FoX} {x : FoX} {N : Nat} {gi : ByteArray → Option PItm} {y : PItm} (hz : Boxed W z 99 (.map (some mb))) (hg : GM strKey W mb N (fun s => (gi s).map PItm.agg)) (hgi : ∀ s, (gi s).map PItm.is = fo.map (pre.map Prod.fst) s) (hd : ∀ s x, gi s = some x → Dep (Safe [] W) W (fun U => PBytes U x)) (hN : N ≤ pre.length) (hbw : Below w.heap.size w W)
    (hk : x.1.hasKey = true) (hv : x.1.hasVal = true) (hw : w.heap.size ≤ mb) (hWU : Below W.heap.size W U) (hy : PBytes U y) (hys : y.is = (x.1.key, x.1.val, x.1.off))
    (hV : GM strKey V mb (if ((fun s => (gi s).map PItm.agg) (strOf x.1.key)).isSome then N else N + 1) (gput (fun s => (gi s).map PItm.agg) (strOf x.1.key) y.agg)) (hc : Chg U V (fun k => k = mb)) (hUg : GM strKey U mb N (fun s => (gi s).map PItm.agg)) :
    fo.I z mb w (pre ++ [x]) V ∧ Kept [] W V ∧ Chg W V (fun k => k = mb) := by
  classical
  have hcw : Chg W V (fun k => k = mb) := (chg_of (P := fun k => k = mb) hWU).trans hc fun _ _ h => h
  have hkep : Kept [] W V := fo.kept hg hcw
  have hkep2 : Kept [] U V := fo.kept hUg hc
  refine ⟨⟨_, fun s => if s = strOf x.1.key then some y else gi s, ?_, hV.congr fun s _ => ?_, fun s => ?_, fun s u hu => ?_, ?_, hbw.trans (hcw.below hbw.size fun k hk => by have hk : k = mb := hk; omega)⟩, hkep, hcw⟩
  · exact (hcw.block z hz.lt fun e => by
      have e : z = mb := e
      subst e
      have := hg.no_cells (show W.heap[z]? = _ from hz)
      cases this).trans hz
  · by_cases hs : s = strOf x.1.key
    · subst hs
      dsimp only
      rw [if_pos rfl, gput_same]
      rfl
    · dsimp only
      rw [if_neg hs, gput_other _ hs]
  · rw [List.map_append, List.map_cons, List.map_nil, fo.map_snoc]
    unfold fo.one
    rw [if_pos hk]
    by_cases hs : s = strOf x.1.key
    · dsimp only
      rw [if_pos hs, if_pos hs, if_pos hv, ← hys]
      rfl
    · dsimp only
      rw [if_neg hs, if_neg hs]
      exact hgi s
  · dsimp only at hu
    split at hu
    · obtain rfl : y = u := Option.some.inj hu
      exact (PItm.bytes_dep hy).kept hkep2
    · exact (hd s u hu).kept hkep
  · rw [List.length_append, List.length_singleton]
    split <;> omega
/-- A round that takes away. -/
theorem fo.I_drop {z mb : Nat} {w W V : World} {pre : List FoX} {x : FoX} {N : Nat} {gi : ByteArray → Option PItm} (hz : Boxed W z 99 (.map (some mb))) (hg : GM strKey W mb N (fun s => (gi s).map PItm.agg)) (hgi : ∀ s, (gi s).map PItm.is = fo.map (pre.map Prod.fst) s) (hd : ∀ s x, gi s = some x → Dep (Safe [] W) W (fun U => PBytes U x)) (hN : N ≤ pre.length) (hbw : Below w.heap.size w W)
    (hk : x.1.hasKey = true) (hv : x.1.hasVal = false) (hw : w.heap.size ≤ mb)
    (hV : GM strKey V mb (if ((fun s => (gi s).map PItm.agg) (strOf x.1.key)).isSome then N - 1 else N) (gdel (fun s => (gi s).map PItm.agg) (strOf x.1.key))) (hc : Chg W V (fun k => k = mb)) :
    fo.I z mb w (pre ++ [x]) V ∧ Kept [] W V := by
  classical
  have hkep : Kept [] W V := fo.kept hg hc
  refine ⟨⟨_, fun s => if s = strOf x.1.key then none else gi s, ?_, hV.congr fun s _ => ?_, fun s => ?_, fun s u hu => ?_, ?_, hbw.trans (hc.below hbw.size fun k hk => by have hk : k = mb := hk; omega)⟩, hkep⟩
  · exact (hc.block z hz.lt fun e => by
      have e : z = mb := e
      subst e
      have := hg.no_cells (show W.heap[z]? = _ from hz)
      cases this).trans hz
  · by_cases hs : s = strOf x.1.key
    · subst hs
      dsimp only
      rw [if_pos rfl, gdel_same]
      rfl
    · dsimp only
      rw [if_neg hs, gdel_other hs]
  · rw [List.map_append, List.map_cons, List.map_nil, fo.map_snoc]
    unfold fo.one
    rw [if_pos hk]
    by_cases hs : s = strOf x.1.key
    · dsimp only
      rw [if_pos hs, if_pos hs, if_neg (by rw [hv]; simp)]
      rfl
    · dsimp only
      rw [if_neg hs, if_neg hs]
      exact hgi s
  · dsimp only at hu
    split at hu
    · cases hu
    · exact (hd s u hu).kept hkep
  · rw [List.length_append, List.length_singleton]
    split <;> omega
theorem fo.R_open {Bs : List Nat} {r : Rec} {Ak Av : Option Addr} {ck cv : Nat} {W : World} (h : fo.R Bs (r, (Ak, ck), (Av, cv)) W) : At W Ak r.key.length (byteAt r.key) ∧ At W Av r.val.length (byteAt r.val) ∧ i64ok r.off := by
  obtain ⟨kv, vv, e, ⟨A1, c1, rfl, k1, -⟩, ⟨A2, c2, rfl, m1, -⟩, hio, -⟩ := h.2.now
  unfold fo.xcells fo.cells at e
  simp at e
  obtain ⟨⟨rfl, rfl⟩, rfl, rfl⟩ := e
  exact ⟨k1, m1, hio⟩
theorem fo.at_apart {W : World} {b N : Nat} {g : ByteArray → Option Value} {A : Option Addr} {n : Nat} {V : Nat → Value} (hg : GM strKey W b N g) (ha : At W A n V) : 0 < n → ∀ p off, A = some ⟨p, off, none⟩ → ¬ p = b := fun hn p off e => by
  obtain ⟨p', off', e', -, hc⟩ := ha hn
  rw [e] at e'
  obtain ⟨rfl, rfl⟩ : p = p' ∧ off = off' := by simpa using e'
  exact hg.not_cells (hc 0 hn)
theorem fo.keeps {W V : World} {b B : Nat} (hc : Chg W V (fun k => k = b)) (hb : b < B) : KeepsFrom B W V :=
  ⟨hc.size, fun k o hB hk _ => (hc.block k (heap_in hk) fun e => by have e : k = b := e; omega).trans hk⟩
theorem fo.Nx_small {bs : List Bat} {pre : List FoX} {x : FoX} (hs : fo.Small bs) (h : fo.Nx bs pre x) : x.1.key.length ≤ 1000000 ∧ x.1.val.length ≤ 1000000 := by
  obtain ⟨rest, hr⟩ := h
  have hm : x.1 ∈ rc.flat bs := by
    rw [← hr]
    simp
  unfold rc.flat at hm
  obtain ⟨l, hl, hx⟩ := List.mem_flatten.1 hm
  obtain ⟨b, hb, rfl⟩ := List.mem_map.1 hl
  exact (hs.2 b hb).2 _ hx
/-- The row that is gathered along the keys. -/
theorem fo.row_is {gi : ByteArray → Option PItm} {rs : List Rec} {ks : List ByteArray} {l : List PItm} (hgi : ∀ s, (gi s).map PItm.is = fo.map rs s) (hl : l.map some = ks.map gi) (hks : IsKeys (keyed fun s => (gi s).map PItm.agg) ks) (hri : ks.Pairwise fun x y => pf.lt x y = true) (hsz : ∀ r ∈ rs, r.key.length ≤ 1000000) (hlen : l.length ≤ rs.length) :
    FoIs l rs ∧ ∀ x ∈ l, ∃ s, gi s = some x := by
  have hone : ∀ s x, gi s = some x → x.key = s := fun s x h => by
    have h1 := hgi s
    rw [h] at h1
    obtain ⟨r, -, h2, h3⟩ := fo.map_some rs s _ h1.symm
    have h4 : x.bs = r.key := congrArg Prod.fst h3
    show strOf x.bs = s
    rw [h4, h2]
  have hkey : l.map PItm.key = ks := by
    have h : ∀ (l : List PItm) (ks : List ByteArray), l.map some = ks.map gi → l.map PItm.key = ks := by
      intro l
      induction l with
      | nil => intro ks h; cases ks with | nil => rfl | cons => simp at h
      | cons x l ih =>
        intro ks h
        cases ks with
        | nil => simp at h
        | cons s ks =>
          simp only [List.map_cons, List.cons.injEq] at h ⊢
          exact ⟨hone s x h.1.symm, ih ks h.2⟩
    exact h l ks hl
  have hmem : ∀ x ∈ l, gi x.key = some x := fun x hx => by
    have h1 : some x ∈ ks.map gi := by rw [← hl]; exact List.mem_map.2 ⟨x, hx, rfl⟩
    obtain ⟨s, -, hs⟩ := List.mem_map.1 h1
    rw [hone s x hs]
    exact hs
  refine ⟨⟨?_, fun x hx => ?_, fun s v hv => ?_, hlen⟩, fun x hx => ⟨_, hmem x hx⟩⟩
  · rw [← hkey] at hri
    exact List.pairwise_map.1 hri
  · rw [← hgi, hmem x hx]
    rfl
  · obtain ⟨r, hr, hs, -⟩ := fo.map_some rs s v hv
    have h1 : (gi s).isSome = true := by
      have h2 := hgi s
      rw [hv] at h2
      cases hg : gi s with
      | none => rw [hg] at h2; cases h2
      | some x => rfl
    have h3 : s ∈ ks := (hks.2 s).2 ⟨by rw [hs, strOf_size]; have := hsz r hr; unfold maxLen; omega, by
      rw [keyed_some]
      cases hg : gi s with
      | none => rw [hg] at h1; cases h1
      | some x => rfl⟩
    rw [← hkey] at h3
    exact List.mem_map.1 h3
theorem fo.cell3 (W : World) (T : TypeId) (a b c : Value) : ∀ (j : Nat) (u : Value), [a, b, c][j]? = some u → (W.alloc (.cells #[a, b, c] T)).cell? ((⟨W.heap.size, 0, none⟩ : Addr).add j) = some u := by
  intro j u hu
  have hb := Blk.new W T #[a, b, c]
  have e : (⟨W.heap.size, 0, none⟩ : Addr).add j = ⟨W.heap.size, j, none⟩ := by simp [Addr.add]; exact fun e => e.symm
  rw [e]
  exact hb.cell j (by simpa using hu)
theorem fo.infoP : (Try.prog.info? 89).map (fun i => (i.zero, i.size, i.bytes)) = some (some (.agg #[.slice none 0 0, .slice none 0 0, .int .i64 0]), 3, 56) := by kernel_rfl
theorem fo.zeroP (w : World) : (zeroValue 89).run Try.prog w = .ok (.agg #[.slice none 0 0, .slice none 0 0, .int .i64 0]) w := by
  obtain ⟨i, h1, h2, _⟩ := info_parts fo.infoP
  simp [zeroValue, typeInfo, h1, h2]
end
section
open Go.RowKit Go.Maps

theorem pf.put_self {l : List PItm} {x : PItm} : x ∈ pf.put l x := by
  unfold pf.put
  simp
theorem FoIs.put {l : List PItm} {rs : List Rec} {r : Rec} {x : PItm} (h : FoIs l rs) (hk : r.hasKey = true) (hv : r.hasVal = true) (hx : x.is = (r.key, r.val, r.off)) : FoIs (pf.put l x) (rs ++ [r]) := by
  have hxk : x.key = strOf r.key := congrArg (fun t : FoV => strOf t.1) hx
  have hr := pf.put_rises h.rises x
  refine ⟨hr, fun y hy => ?_, fun s v hs => ?_, ?_⟩
  · rw [fo.map_snoc]
    by_cases e : y.key = x.key
    · obtain rfl := pf.key_once hr hy pf.put_self e
      unfold fo.one
      rw [if_pos hk, hxk]
      simp [hv, hx]
    · unfold fo.one
      rw [if_pos hk]
      rcases pf.put_mem hy with rfl | hy
      · exact absurd rfl e
      · have h1 := h.says y hy
        rw [if_neg (by rw [← hxk]; exact e)]
        exact h1
  · rw [fo.map_snoc] at hs
    unfold fo.one at hs
    rw [if_pos hk] at hs
    split at hs
    · rename_i e
      exact ⟨x, pf.put_self, by rw [hxk, e]⟩
    · rename_i e
      obtain ⟨y, hy, hys⟩ := h.all s v hs
      exact ⟨y, pf.put_has hy (by rw [hys, hxk]; exact e), hys⟩
  · rw [pf.put_len, List.length_append, List.length_singleton]
    have := h.len
    split <;> omega
/-- A key taken away. -/
def pf.cut (l : List PItm) (s : ByteArray) : List PItm := l.take (pf.place l s) ++ l.drop (pf.place l s + 1)
theorem pf.cut_sub (l : List PItm) (s : ByteArray) : (pf.cut l s).Sublist l := by
  unfold pf.cut
  have h : (l.take (pf.place l s) ++ l.drop (pf.place l s + 1)).Sublist (l.take (pf.place l s) ++ l.drop (pf.place l s)) := List.Sublist.append (List.Sublist.refl _) (by rw [← List.drop_drop]; exact List.drop_sublist _ _)
  rwa [List.take_append_drop] at h
theorem FoIs.skip {l : List PItm} {rs : List Rec} {r : Rec} (h : FoIs l rs) (hm : fo.map (rs ++ [r]) = fo.map rs) : FoIs l (rs ++ [r]) :=
  ⟨h.rises, fun y hy => by rw [hm]; exact h.says y hy, fun s v hs => by rw [hm] at hs; exact h.all s v hs, by rw [List.length_append]; have := h.len; omega⟩
theorem FoIs.nokey {l : List PItm} {rs : List Rec} {r : Rec} (h : FoIs l rs) (hk : r.hasKey = false) : FoIs l (rs ++ [r]) := h.skip (by
  rw [fo.map_snoc]
  unfold fo.one
  rw [if_neg (by rw [hk]; simp)])
theorem FoIs.gone {l : List PItm} {rs : List Rec} {r : Rec} (h : FoIs l rs) (hk : r.hasKey = true) (hv : r.hasVal = false) (hh : pf.has l (strOf r.key) = false) : FoIs l (rs ++ [r]) := h.skip (by
  rw [fo.map_snoc]
  unfold fo.one
  rw [if_pos hk]
  funext s
  split
  · rename_i e
    rw [if_neg (by rw [hv]; simp)]
    cases hm : fo.map rs s with
    | none => rfl
    | some v =>
      obtain ⟨y, hy, hys⟩ := h.all s v hm
      have h1 := (pf.has_mem h.rises (s := strOf r.key)).2 ⟨y, hy, by rw [hys, e]⟩
      rw [hh] at h1
      cases h1
  · rfl)
theorem FoIs.cut {l : List PItm} {rs : List Rec} {r : Rec} (h : FoIs l rs) (hk : r.hasKey = true) (hv : r.hasVal = false) (hh : pf.has l (strOf r.key) = true) : FoIs (pf.cut l (strOf r.key)) (rs ++ [r]) := by
  have hsub := pf.cut_sub l (strOf r.key)
  obtain ⟨z, hz⟩ := pf.has_at hh
  have hzk := pf.has_key hh hz
  have hsplit : l = l.take (pf.place l (strOf r.key)) ++ z :: l.drop (pf.place l (strOf r.key) + 1) := by
    obtain ⟨h1, h2⟩ := List.getElem?_eq_some_iff.1 hz
    rw [← h2, List.getElem_cons_drop, List.take_append_drop]
  have hne : ∀ y ∈ pf.cut l (strOf r.key), y.key ≠ strOf r.key := fun y hy e => by
    have h1 := h.rises
    rw [hsplit] at h1
    obtain ⟨-, h3, h4⟩ := List.pairwise_append.1 h1
    unfold pf.cut at hy
    rcases List.mem_append.1 hy with hy | hy
    · have h5 := h4 y hy z (List.mem_cons_self ..)
      rw [hzk, e, pf.lt_irrefl] at h5
      cases h5
    · have h5 := (List.pairwise_cons.1 h3).1 y hy
      rw [hzk, e, pf.lt_irrefl] at h5
      cases h5
  have hm : ∀ s, fo.map (rs ++ [r]) s = if s = strOf r.key then none else fo.map rs s := fun s => by
    rw [fo.map_snoc]
    unfold fo.one
    rw [if_pos hk]
    by_cases e : s = strOf r.key
    · simp [e, hv]
    · simp [e]
  refine ⟨h.rises.sublist hsub, fun y hy => ?_, fun s v hs => ?_, ?_⟩
  · rw [hm, if_neg (hne y hy)]
    exact h.says y (hsub.subset hy)
  · rw [hm] at hs
    split at hs
    · cases hs
    · rename_i e
      obtain ⟨y, hy, hys⟩ := h.all s v hs
      refine ⟨y, ?_, hys⟩
      rw [hsplit] at hy
      unfold pf.cut
      rcases List.mem_append.1 hy with hy | hy
      · exact List.mem_append_left _ hy
      · rcases List.mem_cons.1 hy with rfl | hy
        · exact absurd (hys.symm.trans hzk) e
        · exact List.mem_append_right _ hy
  · have h1 := hsub.length_le
    have h2 := h.len
    rw [List.length_append]
    omega
/-- What two folds of the same records say. -/
theorem FoIs.same {l1 l2 : List PItm} {rs : List Rec} (h1 : FoIs l1 rs) (h2 : FoIs l2 rs) : l1.map (fun x => (x.key, x.is)) = l2.map (fun x => (x.key, x.is)) := by
  have hk : l1.map PItm.key = l2.map PItm.key := pf.rising_eq _ _ (List.pairwise_map.2 h1.rises) (List.pairwise_map.2 h2.rises) fun s => by
    rw [List.mem_map, List.mem_map]
    constructor
    · rintro ⟨x, hx, rfl⟩
      exact h2.all _ _ (h1.says x hx)
    · rintro ⟨x, hx, rfl⟩
      exact h1.all _ _ (h2.says x hx)
  have e : ∀ {l : List PItm}, FoIs l rs → l.map (fun x => (x.key, x.is)) = (l.map PItm.key).map fun s => (s, (fo.map rs s).getD ([], [], 0)) := fun {l} h => by
    rw [List.map_map]
    refine List.map_congr_left fun x hx => ?_
    show (x.key, x.is) = (x.key, (fo.map rs x.key).getD ([], [], 0))
    rw [h.says x hx]
    rfl
  rw [e h1, e h2, hk]

section
variable {P : Program} {ops : Array Oper} {S : World → Prop}
theorem wpQuiet_of {Q : Act → Prop} {o : Oper} {rest : List Oper} {a : Act} (hg : o.guard = none) (v : Value) (h : ∀ w, S w → (execOp a.eval o).run P w = .ok (.value v) w) (hk : wpQuiet P ops S Q rest (a.put o.dst v)) : wpQuiet P ops S Q (o :: rest) a := by
  unfold wpQuiet
  rw [if_pos (by simp [Region.wanted, hg])]
  refine ⟨v, fun w hw => ?_, hk⟩
  unfold Oper.quietAt
  rw [h w hw]
  exact ⟨rfl, rfl⟩
end
/-- A slice of a row of pairs, in a quiet region. -/
theorem pf.quiet_slice {ops : Array Oper} {S : World → Prop} {Q : Act → Prop} {rest : List Oper} {o : Oper} {a : Act} (hgd : o.guard = none) (x : Operand) (lo hi : Option Operand)
    (ho : o.op = .slice 78 x lo hi none) (A : Option Addr) (n c l h : Nat) (hx : a.eval x = .slice A n c) (hlo : (lo.map a.eval = none ∧ l = 0) ∨ lo.map a.eval = some (.int .i64 (l : Int))) (hhi : (hi.map a.eval = none ∧ h = n) ∨ hi.map a.eval = some (.int .i64 (h : Int))) (hlh : l ≤ h) (hhn : h ≤ n) (hnc : n ≤ c)
    (hQ : ∀ A' c', (∀ wx (L : List PItm), L.length = n → PAt wx A L → PAt wx A' ((L.drop l).take (h - l))) → h - l ≤ c' → c' ≤ c → wpQuiet Try.prog ops S Q rest (a.put o.dst (.slice A' (h - l) c'))) : wpQuiet Try.prog ops S Q (o :: rest) a := by
  obtain ⟨i0, hi', hz0, hz1, hz2⟩ := info_parts infoPair
  obtain ⟨A', hr, hA⟩ : ∃ A', (∀ w, (Instr.sliceAt 78 (.slice A n c) (lo.map a.eval) (hi.map a.eval) none).run Try.prog w = .ok (.slice A' (h - l) (c - l)) w) ∧ ((A' = A.map fun a => a.add (l * 3)) ∨ h - l = 0) := by
    have h1 : (0 : Int) ≤ (l : Int) ∧ (l : Int) ≤ (h : Int) := by omega
    have h2 : (0 : Int) ≤ (h : Int) ∧ (h : Int) ≤ (c : Int) := by omega
    refine ⟨if c = l then A else A.map fun a => a.add (l * 3), fun w => ?_, ?_⟩
    · generalize lo.map a.eval = low at *
      generalize hi.map a.eval = high at *
      rcases hlo with ⟨rfl, rfl⟩ | rfl <;> rcases hhi with ⟨rfl, rfl⟩ | rfl <;>
        simp [Instr.sliceAt, Instr.slice, Instr.sliceBounds, Instr.sliceBound, run_underlying Try.underlying78, sizeOf, typeInfo, hi', hz1, asIntOf, hlh, Nat.le_trans hhn hnc]
      all_goals (have hq := Nat.le_trans hhn hnc; intros; omega)
    · by_cases e : c = l
      · exact .inr (by omega)
      · rw [if_neg e]
        exact .inl rfl
  refine wpQuiet_of hgd (.slice A' (h - l) (c - l)) (fun w _ => ?_) (hQ A' (c - l) (fun wx L hL hat => ?_) (by omega) (by omega))
  · unfold execOp
    simp only [ho, hx, Option.map_none, Sem.run_bind, Result.andThen_ok, hr, Sem.run_pure]
  · rcases hA with rfl | h0
    · exact (hat.drop l).take _
    · intro hn; rw [List.length_take] at hn; omega
end
section
open Go.RowKit Go.Maps
set_option maxRecDepth 100000

end
section
open Go.RowKit Go.Maps
set_option maxRecDepth 100000

/-- Pairs of the same key and the same value. -/
def pf.eqv (x y : PItm) : Bool := decide (strOf x.bs = strOf y.bs) && decide (strOf x.vs = strOf y.vs)
/-- A pair's bytes lie so, however long they are. -/
def PWide (w : World) (x : PItm) : Prop := x.bs.length = x.k ∧ At w x.A x.k (byteAt x.bs) ∧ x.vs.length = x.vk ∧ At w x.VA x.vk (byteAt x.vs)
theorem PWide.below {w w' : World} {x : PItm} {B : Nat} (h : PWide w x) (hb : Below B w w') (hB : w.heap.size ≤ B) : PWide w' x :=
  ⟨h.1, h.2.1.below hb hB, h.2.2.1, h.2.2.2.below hb hB⟩
theorem PBytes.wide {w : World} {x : PItm} (h : PBytes w x) : PWide w x := ⟨h.1, h.2.2.1, h.2.2.2.1, h.2.2.2.2.2⟩
def pf.eqs : List PItm → List PItm → Bool
  | [], [] => true
  | x :: xs, y :: ys => pf.eqv x y && pf.eqs xs ys
  | _, _ => false
theorem pf.eqs_len : ∀ (l m : List PItm), l.length ≠ m.length → pf.eqs l m = false
  | [], [], h => absurd rfl h
  | [], _ :: _, _ => rfl
  | _ :: _, [], _ => rfl
  | x :: xs, y :: ys, h => by
    unfold pf.eqs
    rw [pf.eqs_len xs ys (fun e => h (by simp [e])), Bool.and_false]
theorem pf.eqs_drop {l m : List PItm} {j : Nat} {x y : PItm} (hx : l[j]? = some x) (hy : m[j]? = some y) : pf.eqs (l.drop j) (m.drop j) = (pf.eqv x y && pf.eqs (l.drop (j + 1)) (m.drop (j + 1))) := by
  obtain ⟨h1, h2⟩ := List.getElem?_eq_some_iff.1 hx
  obtain ⟨h3, h4⟩ := List.getElem?_eq_some_iff.1 hy
  rw [List.drop_eq_getElem_cons h1, List.drop_eq_getElem_cons h3, h2, h4]
  rfl
theorem pf.eqs_end {l m : List PItm} {n : Nat} (h1 : l.length = n) (h2 : m.length = n) : pf.eqs (l.drop n) (m.drop n) = true := by
  rw [List.drop_of_length_le (by rw [h1]; exact Nat.le_refl _), List.drop_of_length_le (by rw [h2]; exact Nat.le_refl _)]
  rfl
set_option maxHeartbeats 2000000 in
theorem fs.one_any (x y : PItm) (w : World) (hx : PWide w x) (hy : PWide w y) :
    Calls Try.prog 45 #[x.agg, y.agg] w fun e w' => e = .returned (.bool (pf.eqv x y)) ∧ Below w.heap.size w w' := by
  obtain ⟨xA, xk, xc, xbs, xVA, xvk, xvc, xvs, xo⟩ := x
  obtain ⟨yA, yk, yc, ybs, yVA, yvk, yvc, yvs, yo⟩ := y
  obtain ⟨a1, a2, a3, a4⟩ := hx
  obtain ⟨b1, b2, b3, b4⟩ := hy
  dsimp only at a1 a2 a3 a4 b1 b2 b3 b4
  subst a1 a3 b1 b3
  have hk := fun wx (h : Below w.heap.size w wx) => bytes.equal_any xA xc xbs yA yc ybs wx (a2.below h (Nat.le_refl _)) (b2.below h (Nat.le_refl _))
  have hv := fun wx (h : Below w.heap.size w wx) => bytes.equal_any xVA xvc xvs yVA yvc yvs wx (a4.below h (Nat.le_refl _)) (b4.below h (Nat.le_refl _))
  have HK := Lib.hid hk; clear hk a2 b2
  have HV := Lib.hid hv; clear hv a4 b4
  unfold PItm.agg pf.eqv
  dsimp only
  by_cases e1 : strOf xbs = strOf ybs
  · rw [decide_eq_true e1] at HK ⊢
    rw [Bool.true_and]
    generalize decide (strOf xvs = strOf yvs) = b at *
    generalize xbs.length = n1 at *
    generalize ybs.length = n2 at *
    generalize xvs.length = n3 at *
    generalize yvs.length = n4 at *
    go_enter Try.func45, Try.ntmps45
    go_wp2_with fail
    refine (HK.out _ (two_boxes _ _)).mono ?_
    rintro e wx ⟨rfl, rfl⟩
    go_wp2_with fail
    refine (HV.out _ (two_boxes _ _)).mono ?_
    rintro e wx ⟨rfl, rfl⟩
    go_wp2_with fail
    go_ret
    exact ⟨rfl, two_boxes _ _⟩
  · rw [decide_eq_false e1] at HK ⊢
    rw [Bool.false_and]
    generalize xbs.length = n1 at *
    generalize ybs.length = n2 at *
    generalize xvs.length = n3 at *
    generalize yvs.length = n4 at *
    go_enter Try.func45, Try.ntmps45
    go_wp2_with fail
    refine (HK.out _ (two_boxes _ _)).mono ?_
    rintro e wx ⟨rfl, rfl⟩
    go_wp2_with fail
    go_ret
    exact ⟨rfl, two_boxes _ _⟩
set_option maxHeartbeats 4000000 in
theorem fs.equal_any (A : Option Addr) (n c : Nat) (l : List PItm) (B : Option Addr) (m d : Nat) (l2 : List PItm) (w : World) (hl : l.length = n) (hm : l2.length = m) (hn1 : n ≤ 1000000) (hm1 : m ≤ 1000000) (ha : PAt w A l) (hb : ∀ x ∈ l, PWide w x) (ha2 : PAt w B l2) (hb2 : ∀ x ∈ l2, PWide w x) :
    Calls Try.prog 44 #[.slice A n c, .slice B m d, .func (.func 45) #[] #[]] w fun e w' => e = .returned (.bool (pf.eqs l l2)) ∧ Below w.heap.size w w' := by
  have HA := Lib.hid (And.intro ha hb); clear ha hb
  have HA2 := Lib.hid (And.intro ha2 hb2); clear ha2 hb2
  by_cases hnm : n = m
  · subst hnm
    have HL := Lib.hid (And.intro hl hm); clear hl hm
    obtain ⟨R, hR⟩ : ∃ R, R = pf.eqs l l2 := ⟨_, rfl⟩
    rw [← hR]
    have HR := Lib.hid hR; clear hR
    go_enter Try.func44, Try.ntmps44
    go_wp2_with fail
    go_loopw [17] (fun i wr => ∃ j : Nat, j ≤ n ∧ i = .int .i64 (j : Int) ∧ R = pf.eqs (l.drop j) (l2.drop j) ∧ Below w.heap.size w wr) (fun i _ => n - (intOf i).toNat)
    case atStart => exact ⟨0, by omega, rfl, HR.out, Below.refl _ _⟩
    case round =>
      obtain ⟨j, hj, rfl, hrs, hbw⟩ := hrel
      clear HR
      have HBW := Lib.hid hbw; clear hbw
      have HRS := Lib.hid hrs; clear hrs
      by_cases hlt : j < n
      · have hlt' : (j : Int) < n := by omega
        obtain ⟨x, hx⟩ : ∃ x, l[j]? = some x := ⟨_, List.getElem?_eq_getElem (by rw [HL.out.1]; exact hlt)⟩
        obtain ⟨y, hy⟩ : ∃ y, l2[j]? = some y := ⟨_, List.getElem?_eq_getElem (by rw [HL.out.2]; exact hlt)⟩
        obtain ⟨p, po, hA1, hp, d0, d1, d2⟩ := HA.out.1.cells hx
        obtain ⟨q, qo, hA2, hq, e0, e1, e2⟩ := HA2.out.1.cells hy
        subst hA1 hA2
        have hstep := pf.eqs_drop hx hy
        have hone := fun wx (h : Below w.heap.size w wx) => fs.one_any x y wx ((HA.out.2 x (List.mem_of_getElem? hx)).below h (Nat.le_refl _)) ((HA2.out.2 y (List.mem_of_getElem? hy)).below h (Nat.le_refl _))
        unfold PItm.agg at hone
        generalize pf.eqv x y = b at *
        have hpw := Nat.lt_of_lt_of_le hp HBW.out.size
        have hqw := Nat.lt_of_lt_of_le hq HBW.out.size
        have f0 := (HBW.out.cell (p := ⟨p, po + j * 3, none⟩) hp).trans d0
        have f1 := (HBW.out.cell (p := ⟨p, po + j * 3 + 1, none⟩) hp).trans d1
        have f2 := (HBW.out.cell (p := ⟨p, po + j * 3 + 2, none⟩) hp).trans d2
        have g0 := (HBW.out.cell (p := ⟨q, qo + j * 3, none⟩) hq).trans e0
        have g1 := (HBW.out.cell (p := ⟨q, qo + j * 3 + 1, none⟩) hq).trans e1
        have g2 := (HBW.out.cell (p := ⟨q, qo + j * 3 + 2, none⟩) hq).trans e2
        have HONE := Lib.hid hone; clear hone
        have HSTEP := Lib.hid hstep; clear hstep hx hy d0 d1 d2 e0 e1 e2
        have htwo : ∀ o o', Below w.heap.size w ((wr.alloc o).alloc o') := fun o o' => HBW.out.trans ((two_boxes o o').mono HBW.out.size)
        go_wp2_with fail
        refine (HONE.out _ (htwo _ _)).mono ?_
        rintro e w5 ⟨rfl, hb5⟩
        have HB5 := Lib.hid ((htwo _ _).trans (hb5.mono (htwo _ _).size)); clear hb5 f0 f1 f2 g0 g1 g2 htwo
        cases b with
        | true =>
          have hr2 : R = pf.eqs (l.drop (j + 1)) (l2.drop (j + 1)) := by rw [HRS.out, HSTEP.out, Bool.true_and]
          have HR2 := Lib.hid hr2; clear hr2
          go_wp2_with fail
          go_roundw
          case rel => exact ⟨j + 1, by omega, by go_num, HR2.out, HB5.out⟩
          case measure => simp [intOf]; omega
        | false =>
          have hr2 : R = false := by rw [HRS.out, HSTEP.out, Bool.false_and]
          subst hr2
          go_wp2_with fail
          go_ret
          exact ⟨rfl, HB5.out⟩
      · obtain rfl : j = n := by omega
        have hr2 : R = true := by rw [HRS.out, pf.eqs_end HL.out.1 HL.out.2]
        subst hr2
        go_wp2_with fail
        go_ret
        exact ⟨rfl, HBW.out⟩
  · have hR : pf.eqs l l2 = false := pf.eqs_len l l2 (by rw [hl, hm]; exact hnm)
    rw [hR]
    have hne : ¬ (n : Int) = (m : Int) := by omega
    clear hR hl hm HA HA2
    go_enter Try.func44, Try.ntmps44
    go_wp2
    go_ret
    exact ⟨rfl, Below.refl _ _⟩
theorem fs.same_any (A : Option Addr) (n c : Nat) (l : List PItm) (B : Option Addr) (m d : Nat) (l2 : List PItm) (w : World) (hl : l.length = n) (hm : l2.length = m) (hn1 : n ≤ 1000000) (hm1 : m ≤ 1000000) (ha : PAt w A l) (hb : ∀ x ∈ l, PWide w x) (ha2 : PAt w B l2) (hb2 : ∀ x ∈ l2, PWide w x) :
    Calls Try.prog 27 #[.slice A n c, .slice B m d] w fun e w' => e = .returned (.bool (pf.eqs l l2)) ∧ Below w.heap.size w w' := by
  have HE := Lib.hid (fs.equal_any A n c l B m d l2 w hl hm hn1 hm1 ha hb ha2 hb2); clear hl hm ha hb ha2 hb2
  generalize pf.eqs l l2 = b at *
  go_enter Try.func27, Try.ntmps27
  go_wp2_with fail
  refine HE.out.mono ?_
  rintro e w1 ⟨rfl, hb1⟩
  have HB := Lib.hid hb1; clear hb1
  go_wp2_with fail
  go_ret
  exact ⟨rfl, HB.out⟩

end
end Go.Proofs.Ytnlfdhoabbbheaa

/- A map of any kind of keys and of any elements, said by a function of keys. No function of the program is named. -/
import Derived.Test.YtkkpbnhagobhmaaBlk
import Derived.Maps.OwnSet
import Derived.Maps.Range
import Derived.Maps.RangeWalk
import Derived.Sort.KeysCollected
import Derived.Test.YtkkpbnhagobhmaaProg
namespace Go.Proofs.Ytkkpbnhagobhmaa
open Go.RowKit Go.Maps Go.WideMaps

/-- An element is read as itself. -/
def anyElem (v : Value) : Option (DataW Value × List MemPlace) := some (.held v, [])

/-- A kind of keys: their type, their values, which may be. -/
structure KeyKind (K : Type) where
  kt : TypeId
  val : K → Value
  lit : K → Lit
  ok : K → Prop
  keyed : Keyed Try.prog kt
  key : ∀ {x}, ok x → keyOf Try.prog kt (val x) = some (lit x)
  inj : ∀ {x y}, lit x = lit y → x = y
  onto : ∀ {v l}, keyOf Try.prog kt v = some l → ∃ x, ok x ∧ v = val x ∧ l = lit x

def intOk (x : Int) : Prop := -9223372036854775808 ≤ x ∧ x ≤ 9223372036854775807
theorem wf_i64 {x : Int} : (Lit.int .i64 x).wf = true ↔ intOk x := by
  have e1 : IntKind.i64.min = -9223372036854775808 := rfl
  have e2 : IntKind.i64.max = 9223372036854775807 := rfl
  simp only [Lit.wf, Bool.and_eq_true, decide_eq_true_eq, e1, e2, intOk]
def intKey : KeyKind Int where
  kt := 3
  val := .int .i64
  lit := .int .i64
  ok := intOk
  keyed := int_keyed Try.underlying3
  key h := keyOf_int_mk Try.underlying3 (wf_i64.2 h)
  inj h := by injection h
  onto h := by
    obtain ⟨x, rfl, rfl, hw⟩ := Maps.keyOf_int_inv Try.underlying3 h
    exact ⟨x, wf_i64.1 hw, rfl, rfl⟩
def strKey : KeyKind ByteArray where
  kt := 9
  val := .string
  lit s := .string s.data.toList
  ok s := s.size ≤ maxLen
  keyed := string_keyed Try.underlying9
  key h := keyOf_string_mk Try.underlying9 h
  inj {x y} h := by
    injection h with h
    exact ByteArray.ext (Array.ext' h)
  onto {v l} h := by
    obtain ⟨x, rfl, rfl, h3⟩ := Maps.keyOf_str Try.underlying9 h
    exact ⟨ByteArray.mk x.toArray, by simpa [ByteArray.size] using h3, by simp [encStr], by simp⟩

variable {K : Type} {κ : KeyKind K}

/-- What the datum says: at x stands g x. -/
def Says (κ : KeyKind K) (D : DataW Value) (g : K → Option Value) : Prop := ∀ x, κ.ok x → Maps.has D (κ.lit x) = (g x).isSome ∧ ∀ z, D.atKey (κ.lit x) (.held z) = .held ((g x).getD z)
/-- Block b is a map of N keys: at x stands g x. -/
def GM (κ : KeyKind K) (w : World) (b N : Nat) (g : K → Option Value) : Prop :=
  ∃ D : DataW Value, w.ownsMap Try.prog κ.kt anyElem b N D ∧ Maps.size D = N ∧ Says κ D g

/-- The function with c at x, and without x. -/
noncomputable def gput (g : K → Option Value) (x : K) (c : Value) : K → Option Value := open Classical in fun u => if u = x then some c else g u
noncomputable def gdel (g : K → Option Value) (x : K) : K → Option Value := open Classical in fun u => if u = x then none else g u
theorem gput_same (g : K → Option Value) (x : K) (c : Value) : gput g x c x = some c := if_pos rfl
theorem gput_other {g : K → Option Value} {x u : K} (c : Value) (h : u ≠ x) : gput g x c u = g u := if_neg h
theorem gdel_same (g : K → Option Value) (x : K) : gdel g x x = none := if_pos rfl
theorem gdel_other {g : K → Option Value} {x u : K} (h : u ≠ x) : gdel g x u = g u := if_neg h

theorem GM.made (κ : KeyKind K) (w : World) : GM κ (w.alloc (.map #[] 0)) w.heap.size 0 (fun _ => none) :=
  ⟨.map [], World.ownsMap_made w _ _ _, rfl, fun _ _ => ⟨rfl, fun _ => rfl⟩⟩
theorem GM.lt {w : World} {b N : Nat} {g : K → Option Value} (h : GM κ w b N g) : b < w.heap.size := by
  obtain ⟨D, h1, _⟩ := h
  exact h1.lt
theorem GM.of_block {w w' : World} {b N : Nat} {g : K → Option Value} (h : GM κ w b N g) (hb : w'.heap[b]? = w.heap[b]?) : GM κ w' b N g := by
  obtain ⟨D, ⟨es, clock, h1, h2⟩, h3⟩ := h
  exact ⟨D, ⟨es, clock, hb.trans h1, h2⟩, h3⟩
theorem GM.chg {w w' : World} {P : Nat → Prop} {b N : Nat} {g : K → Option Value} (h : GM κ w b N g) (hc : Chg w w' P) (hp : ¬ P b) : GM κ w' b N g := h.of_block (hc.block b h.lt hp)
theorem GM.below {w w' : World} {B b N : Nat} {g : K → Option Value} (h : GM κ w b N g) (hc : Below B w w') (hb : b < B) : GM κ w' b N g := h.of_block (hc.block b hb)
theorem GM.drew {w : World} {b N : Nat} {g : K → Option Value} (h : GM κ w b N g) (q : Nat) : GM κ (w.drewN q) b N g := h.of_block rfl
theorem GM.congr {w : World} {b N : Nat} {g g' : K → Option Value} (h : GM κ w b N g) (hg : ∀ x, κ.ok x → g' x = g x) : GM κ w b N g' := by
  obtain ⟨D, h1, h2, h3⟩ := h
  exact ⟨D, h1, h2, fun x hx => by rw [hg x hx]; exact h3 x hx⟩
/-- No block of cells is the map's. -/
theorem GM.not_cells {w : World} {b N : Nat} {g : K → Option Value} (h : GM κ w b N g) {off : Nat} {v : Value} {p : Nat} (hc : w.cell? ⟨p, off, none⟩ = some v) : p ≠ b := by
  rintro rfl
  obtain ⟨D, ⟨es, clock, h1, _⟩, _⟩ := h
  simp [World.cell?, h1] at hc
theorem GM.not_blk {w : World} {b N : Nat} {g : K → Option Value} (h : GM κ w b N g) {p : Nat} {T : TypeId} {cs : Array Value} (hc : Blk w p T cs) : p ≠ b := by
  rintro rfl
  obtain ⟨D, ⟨es, clock, h1, _⟩, _⟩ := h
  have := h1.symm.trans (show w.heap[p]? = _ from hc)
  simp at this

theorem GM.look {w : World} {b N : Nat} {g : K → Option Value} (h : GM κ w b N g) {t e : TypeId} (ht : Try.prog.underlying t = some (.map κ.kt e)) {z : Value} (hz : (zeroValue e).run Try.prog w = .ok z w) (x : K) (hx : κ.ok x) :
    (Instr.lookup t (.map (some b)) (κ.val x) true).run Try.prog w = .ok (.tuple #[(g x).getD z, .bool (g x).isSome]) w := by
  obtain ⟨D, h1, _, h3⟩ := h
  obtain ⟨h4, h5⟩ := h3 x hx
  obtain ⟨v, ps, hrun, hv⟩ := h1.look_ok κ.keyed ht hz (zd := .held z) (zp := []) rfl (κ.key hx)
  rw [h5] at hv
  simp only [anyElem, Option.some.injEq, Prod.mk.injEq, DataW.held.injEq] at hv
  rw [hrun, h4, hv.1]
theorem GM.look1 {w : World} {b N : Nat} {g : K → Option Value} (h : GM κ w b N g) {t e : TypeId} (ht : Try.prog.underlying t = some (.map κ.kt e)) {z : Value} (hz : (zeroValue e).run Try.prog w = .ok z w) (x : K) (hx : κ.ok x) :
    (Instr.lookup t (.map (some b)) (κ.val x) false).run Try.prog w = .ok ((g x).getD z) w := by
  obtain ⟨D, h1, _, h3⟩ := h
  obtain ⟨h4, h5⟩ := h3 x hx
  obtain ⟨v, ps, hrun, hv⟩ := h1.lookup κ.keyed ht hz (zd := .held z) (zp := []) rfl (κ.key hx)
  rw [h5] at hv
  simp only [anyElem, Option.some.injEq, Prod.mk.injEq, DataW.held.injEq] at hv
  rw [hrun, hv.1]
theorem GM.len {w : World} {b N : Nat} {g : K → Option Value} (h : GM κ w b N g) {t e : TypeId} (ht : Try.prog.underlying t = some (.map κ.kt e)) (ty : TypeId) :
    (Builtin.len_ #[t] ty #[.map (some b)]).run Try.prog w = .ok (.int .i64 N) w := by
  obtain ⟨D, h1, h2, _⟩ := h
  rw [h1.len ht ty, h2]
theorem GM.store {w : World} {b N : Nat} {g : K → Option Value} (h : GM κ w b N g) {t e : TypeId} (ht : Try.prog.underlying t = some (.map κ.kt e)) (x : K) (hx : κ.ok x) (c : Value) (hN : N < maxLen) :
    ∃ w', (Instr.mapUpdate t (.map (some b)) (κ.val x) c).run Try.prog w = .ok () w' ∧ GM κ w' b (if (g x).isSome then N else N + 1) (gput g x c) ∧ Chg w w' (fun k => k = b) ∧ w'.heap.size = w.heap.size := by
  obtain ⟨D, h1, h2, h3⟩ := h
  have hk := κ.key hx
  have htidy := h1.tidy κ.keyed
  obtain ⟨w', hrun, hown, hturn⟩ := h1.store κ.keyed ht hN hk (val := c) (d := .held c) (ps := []) rfl
  have hsz : Maps.size (D.put (κ.lit x) (.held c)) = if (g x).isSome then N else N + 1 := by
    rw [Maps.size_put htidy, (h3 x hx).1, h2]
  refine ⟨w', hrun, ⟨_, ?_, hsz, fun u hu => ?_⟩, ?_, ?_⟩
  · obtain ⟨es, clock, q1, q2, q3, q4⟩ := hown
    refine ⟨es, clock, q1, q2, ?_, q4⟩
    rw [← hsz, q4]
    simp [Maps.size, length_sorted]
  · by_cases e : u = x
    · subst e
      rw [gput_same, Maps.has_put_same htidy.isMap (κ.keyed.key hk)]
      exact ⟨rfl, fun z => by rw [Maps.atKey_put_same htidy.isMap (κ.keyed.key hk)]; rfl⟩
    · rw [gput_other c e, Maps.has_put_other (fun e' => e (κ.inj e'))]
      exact ⟨(h3 u hu).1, fun z => by rw [Maps.atKey_put_other (fun e' => e (κ.inj e'))]; exact (h3 u hu).2 z⟩
  · have hg := hturn.grown
    exact ⟨hg.os, hg.tape, hg.output, hg.size, fun k hk hp => hg.block k hk (fun e => hp (by injection e))⟩
  · obtain ⟨es, clock, es', clock', _, rfl⟩ := hturn
    simp [Go.ChangeMaps.setBlock]
theorem GM.drop {w : World} {b N : Nat} {g : K → Option Value} (h : GM κ w b N g) {t e : TypeId} (ht : Try.prog.underlying t = some (.map κ.kt e)) (x : K) (hx : κ.ok x) (ty : TypeId) :
    ∃ w', (Builtin.delete_ #[t, κ.kt] ty #[.map (some b), κ.val x]).run Try.prog w = .ok (.tuple #[]) w' ∧ GM κ w' b (if (g x).isSome then N - 1 else N) (gdel g x) ∧ Chg w w' (fun k => k = b) ∧ w'.heap.size = w.heap.size := by
  obtain ⟨D, h1, h2, h3⟩ := h
  have hk := κ.key hx
  have htidy := h1.tidy κ.keyed
  obtain ⟨w', hrun, hown, hturn⟩ := h1.drop κ.keyed ht hk ty
  have hsz : Maps.size (D.del (κ.lit x)) = if (g x).isSome then N - 1 else N := by
    have := Maps.size_del htidy (k := κ.lit x)
    rw [(h3 x hx).1, h2] at this
    split at this <;> rename_i hh <;> simp [hh] <;> omega
  refine ⟨w', hrun, ⟨_, ?_, hsz, fun u hu => ?_⟩, ?_, ?_⟩
  · obtain ⟨es, clock, q1, q2, q3, q4⟩ := hown
    refine ⟨es, clock, q1, q2, ?_, q4⟩
    rw [← hsz, q4]
    simp [Maps.size, length_sorted]
  · by_cases e : u = x
    · subst e
      rw [gdel_same, Maps.has_del_same]
      exact ⟨rfl, fun z => by rw [Maps.atKey_del_same]; rfl⟩
    · rw [gdel_other e, Maps.has_del_other (fun e' => e (κ.inj e'))]
      exact ⟨(h3 u hu).1, fun z => by rw [Maps.atKey_del_other (fun e' => e (κ.inj e'))]; exact (h3 u hu).2 z⟩
  · have hg := hturn.grown
    exact ⟨hg.os, hg.tape, hg.output, hg.size, fun k hk hp => hg.block k hk (fun e => hp (by injection e))⟩
  · obtain ⟨es, clock, es', clock', _, rfl⟩ := hturn
    simp [Go.ChangeMaps.setBlock]

/-- 'm[x] = c' at a step of a region that draws. -/
theorem GM.step_put {ops : Array Oper} {o : Oper} {a : Act} {Kk : Act → World → Prop} {Q : Exit → Act → World → Prop} {E : Prop} (w : World) (hgd : o.guard = none) (m x v : Operand) {t e : TypeId} (ht : Try.prog.underlying t = some (.map κ.kt e))
    (ho : o.op = .mapUpdate t m x v) {b N : Nat} {g : K → Option Value} (h : GM κ w b N g) (s : K) (hs : κ.ok s) (c : Value) (hN : N < maxLen)
    (hm : a.eval m = .map (some b)) (hx : a.eval x = κ.val s) (hv : a.eval v = c)
    (hk : ∀ w', GM κ w' b (if (g s).isSome then N else N + 1) (gput g s c) → Chg w w' (fun k => k = b) → w'.heap.size = w.heap.size → Kk (a.put o.dst undef) w') :
    if Region.wanted o (yielded ops a.tmps) = true then Oper.wp Try.prog o a w Kk Q else E := by
  have hw : Region.wanted o (yielded ops a.tmps) = true := by simp [Region.wanted, hgd]
  rw [if_pos hw]
  obtain ⟨w', hrun, h1, h2, h3⟩ := h.store ht s hs c hN
  unfold Oper.wp execOp
  simp only [ho, Sem.run_bind, Sem.run_pure, Result.andThen_ok, hm, hx, hv, hrun]
  exact hk w' h1 h2 h3
/-- 'm[x] = c' where operations stand in their order. -/
theorem GM.list_put {ops : Array Oper} {rest : List Oper} {o : Oper} {a : Act} {Q : Exit → Act → World → Prop} (w : World) (hgd : o.guard = none) (m x v : Operand) {t e : TypeId} (ht : Try.prog.underlying t = some (.map κ.kt e))
    (ho : o.op = .mapUpdate t m x v) {b N : Nat} {g : K → Option Value} (h : GM κ w b N g) (s : K) (hs : κ.ok s) (c : Value) (hN : N < maxLen)
    (hm : a.eval m = .map (some b)) (hx : a.eval x = κ.val s) (hv : a.eval v = c)
    (hk : ∀ w', GM κ w' b (if (g s).isSome then N else N + 1) (gput g s c) → Chg w w' (fun k => k = b) → w'.heap.size = w.heap.size → wpList Try.prog ops Q rest (a.put o.dst undef) w') :
    wpList Try.prog ops Q (o :: rest) a w := by
  refine wpList_plain hgd fun K' hK' => ?_
  obtain ⟨w', hrun, h1, h2, h3⟩ := h.store ht s hs c hN
  unfold Oper.wp execOp
  simp only [ho, Sem.run_bind, Sem.run_pure, Result.andThen_ok, hm, hx, hv, hrun]
  exact hK' _ _ (hk w' h1 h2 h3)
/-- 'delete(m, x)' where operations stand in their order. -/
theorem GM.list_drop {ops : Array Oper} {rest : List Oper} {o : Oper} {a : Act} {Q : Exit → Act → World → Prop} (w : World) (hgd : o.guard = none) (m x : Operand) {t e : TypeId} (ht : Try.prog.underlying t = some (.map κ.kt e))
    (ho : o.op = .call { callee := .builtin .delete, args := #[m, x], argTypes := #[t, κ.kt] }) {b N : Nat} {g : K → Option Value} (h : GM κ w b N g) (s : K) (hs : κ.ok s)
    (hm : a.eval m = .map (some b)) (hx : a.eval x = κ.val s)
    (hk : ∀ w', GM κ w' b (if (g s).isSome then N - 1 else N) (gdel g s) → Chg w w' (fun k => k = b) → w'.heap.size = w.heap.size → wpList Try.prog ops Q rest (a.put o.dst (.tuple #[])) w') :
    wpList Try.prog ops Q (o :: rest) a w := by
  refine wpList_plain hgd fun K' hK' => ?_
  obtain ⟨w', hrun, h1, h2, h3⟩ := h.drop ht s hs o.type
  unfold Oper.wp
  simp [execOp, ho, resolve, invoke, builtin, hm, hx, hrun, Result.andThen]
  exact hK' _ _ (hk w' h1 h2 h3)

/-- 'm == nil'. -/
theorem eql_map_nil {t k e : TypeId} (ht : Try.prog.underlying t = some (.map k e)) (m : Option Nat) (w : World) : (binOp .eql t (.map m) (.map none)).run Try.prog w = .ok (.bool m.isNone) w := by
  have h : ∀ d : Nat, (Op.equalIn (d + 1) t (.map m) (.map none)).run Try.prog w = .ok m.isNone w := fun d => by
    cases m <;> simp [Op.equalIn, run_underlying ht]
  simp only [binOp]
  simp [Op.equal, Op.maxDepth, h 9999]

/-- A map, a nil one too. -/
def OMap (κ : KeyKind K) (w : World) (mb : Option Nat) (N : Nat) (g : K → Option Value) : Prop :=
  match mb with
  | none => N = 0 ∧ ∀ x, g x = none
  | some b => GM κ w b N g
theorem OMap.look {w : World} {mb : Option Nat} {N : Nat} {g : K → Option Value} (h : OMap κ w mb N g) {t e : TypeId} (ht : Try.prog.underlying t = some (.map κ.kt e)) {z : Value} (hz : (zeroValue e).run Try.prog w = .ok z w) (x : K) (hx : κ.ok x) :
    (Instr.lookup t (.map mb) (κ.val x) true).run Try.prog w = .ok (.tuple #[(g x).getD z, .bool (g x).isSome]) w := by
  cases mb with
  | none => rw [h.2 x]; exact Maps.look_nil true κ.keyed ht hz (κ.key hx)
  | some b => exact GM.look h ht hz x hx
theorem OMap.look1 {w : World} {mb : Option Nat} {N : Nat} {g : K → Option Value} (h : OMap κ w mb N g) {t e : TypeId} (ht : Try.prog.underlying t = some (.map κ.kt e)) {z : Value} (hz : (zeroValue e).run Try.prog w = .ok z w) (x : K) (hx : κ.ok x) :
    (Instr.lookup t (.map mb) (κ.val x) false).run Try.prog w = .ok ((g x).getD z) w := by
  cases mb with
  | none => rw [h.2 x]; exact Maps.look_nil false κ.keyed ht hz (κ.key hx)
  | some b => exact GM.look1 h ht hz x hx
theorem OMap.len {w : World} {mb : Option Nat} {N : Nat} {g : K → Option Value} (h : OMap κ w mb N g) {t e : TypeId} (ht : Try.prog.underlying t = some (.map κ.kt e)) (ty : TypeId) :
    (Builtin.len_ #[t] ty #[.map mb]).run Try.prog w = .ok (.int .i64 N) w := by
  cases mb with
  | none => rw [h.1]; exact Maps.len_nil ht ty
  | some b => exact GM.len h ht ty
theorem OMap.chg {w w' : World} {P : Nat → Prop} {mb : Option Nat} {N : Nat} {g : K → Option Value} (h : OMap κ w mb N g) (hc : Chg w w' P) (hp : ∀ b, mb = some b → ¬ P b) : OMap κ w' mb N g := by
  cases mb with
  | none => exact h
  | some b => exact GM.chg h hc (hp b rfl)

/-- A loop over a map: block r goes over it; left: who is still to come. -/
def GR (κ : KeyKind K) (w : World) (b r N : Nat) (g : K → Option Value) (left : K → Bool) (cnt : Nat) : Prop :=
  ∃ (D : DataW Value) (lf : Lit → Bool), w.ranges Try.prog κ.kt anyElem b r N D lf cnt ∧ Maps.size D = N ∧ Says κ D g ∧ ∀ x, κ.ok x → lf (κ.lit x) = left x
theorem GR.gm {w : World} {b r N : Nat} {g : K → Option Value} {left : K → Bool} {cnt : Nat} (h : GR κ w b r N g left cnt) : GM κ w b N g := by
  obtain ⟨D, lf, h1, h2, h3, _⟩ := h
  exact ⟨D, h1.owns, h2, h3⟩
theorem GR.left_eq {w : World} {b r N : Nat} {g : K → Option Value} {left : K → Bool} {cnt : Nat} (h : GR κ w b r N g left cnt) : w.rangeLeft b r = cnt := by
  obtain ⟨D, lf, h1, _⟩ := h
  exact h1.left_eq
theorem GR.of_blocks {w w' : World} {b r N : Nat} {g : K → Option Value} {left : K → Bool} {cnt : Nat} (h : GR κ w b r N g left cnt) (hb : w'.heap[b]? = w.heap[b]?) (hr : w'.heap[r]? = w.heap[r]?) : GR κ w' b r N g left cnt := by
  obtain ⟨D, lf, ⟨es, clock, since, seen, c0, q1, q2, q3, q4, q5, q6⟩, h2⟩ := h
  exact ⟨D, lf, ⟨es, clock, since, seen, c0, hb.trans q1, q2, q3, q4, hr.trans q5, q6⟩, h2⟩
theorem GR.lt {w : World} {b r N : Nat} {g : K → Option Value} {left : K → Bool} {cnt : Nat} (h : GR κ w b r N g left cnt) : r < w.heap.size := by
  obtain ⟨D, lf, ⟨es, clock, since, seen, c0, q1, q2, q3, q4, q5, q6⟩, h2⟩ := h
  rcases Nat.lt_or_ge r w.heap.size with h | h
  · exact h
  · rw [Array.getElem?_eq_none h] at q5; cases q5
theorem GR.chg {w w' : World} {P : Nat → Prop} {b r N : Nat} {g : K → Option Value} {left : K → Bool} {cnt : Nat} (h : GR κ w b r N g left cnt) (hc : Chg w w' P) (h1 : ¬ P b) (h2 : ¬ P r) : GR κ w' b r N g left cnt :=
  h.of_blocks (hc.block b h.gm.lt h1) (hc.block r h.lt h2)
/-- 'range m'. -/
theorem GM.range {w : World} {b N : Nat} {g : K → Option Value} (h : GM κ w b N g) {t e : TypeId} (ht : Try.prog.underlying t = some (.map κ.kt e)) :
    ∃ w', (Instr.range t (.map (some b))).run Try.prog w = .ok (.pointer (some ⟨w.heap.size, 0, none⟩)) w' ∧ GR κ w' b w.heap.size N g (fun x => (g x).isSome) N ∧ Chg w w' (fun _ => False) ∧ w'.heap.size = w.heap.size + 1 := by
  obtain ⟨D, h1, h2, h3⟩ := h
  obtain ⟨w', r1, r2, r3, r4⟩ := h1.range κ.keyed ht
  exact ⟨w', r1, ⟨D, Maps.has D, by rw [← h2]; exact h2 ▸ r2, h2, h3, fun x hx => (h3 x hx).1⟩, ⟨r3.os, r3.tape, r3.output, r3.size, fun k hk _ => r3.block k hk (by simp)⟩, r4⟩
/-- 'range m' where operations stand in their order. -/
theorem GM.list_range {ops : Array Oper} {rest : List Oper} {o : Oper} {a : Act} {Q : Exit → Act → World → Prop} (w : World) (hgd : o.guard = none) (m : Operand) {t e : TypeId} (ht : Try.prog.underlying t = some (.map κ.kt e)) (ho : o.op = .range t m)
    {b N : Nat} {g : K → Option Value} (h : GM κ w b N g) (hm : a.eval m = .map (some b))
    (hk : ∀ w', GR κ w' b w.heap.size N g (fun x => (g x).isSome) N → Chg w w' (fun _ => False) → w'.heap.size = w.heap.size + 1 → wpList Try.prog ops Q rest (a.put o.dst (.pointer (some ⟨w.heap.size, 0, none⟩))) w') :
    wpList Try.prog ops Q (o :: rest) a w := by
  refine wpList_plain hgd fun K' hK' => ?_
  obtain ⟨w', hrun, r1, r2, r3⟩ := h.range ht
  unfold Oper.wp
  simp [execOp, ho, hm, hrun, Result.andThen]
  exact hK' _ _ (hk w' r1 r2 r3)
/-- The step of the loop. -/
theorem GR.list_next {ops : Array Oper} {rest : List Oper} {o : Oper} {a : Act} {Q : Exit → Act → World → Prop} (w : World) (hgd : o.guard = none) (it : Operand) (ho : o.op = .next it false)
    {b r N : Nat} {g : K → Option Value} {left : K → Bool} {cnt : Nat} (h : GR κ w b r N g left cnt) (hit : a.eval it = .pointer (some ⟨r, 0, none⟩))
    (hDone : cnt = 0 → (∀ x, κ.ok x → left x = false) → wpList Try.prog ops Q rest (a.put o.dst (.tuple #[.bool false])) w)
    (hMore : ∀ (x : K) (c : Value) (w' : World) (left' : K → Bool) (cnt' : Nat), κ.ok x → left x = true → g x = some c → left' x = false → (∀ y, κ.ok y → y ≠ x → left' y = left y) → GR κ w' b r N g left' cnt' → cnt' < cnt → Chg w w' (fun k => k = r) → w'.heap.size = w.heap.size →
      (Instr.entry (.pointer (some ⟨r, 0, none⟩))).run Try.prog w' = .ok (.tuple #[κ.val x, c]) w' → wpList Try.prog ops Q rest (a.put o.dst (.tuple #[.bool true, κ.val x, c])) w') :
    wpList Try.prog ops Q (o :: rest) a w := by
  obtain ⟨D, lf, h1, h2, h3, h4⟩ := h
  refine wpList_plain hgd fun K' hK' => ?_
  unfold Oper.wp
  rcases h1.next κ.keyed o.type with ⟨h0, hl, hrun⟩ | ⟨key, v, kl, y, w', cnt', hkey, hlk, hv, hat, hrun, hrg, hlt, hgr, hsz, hen⟩
  · simp [execOp, ho, hit, hrun, Result.andThen]
    exact hK' _ _ (hDone h0 fun x hx => by rw [← h4 x hx]; exact hl _)
  · obtain ⟨x, hx, rfl, rfl⟩ := κ.onto hkey
    simp only [anyElem, Option.some.injEq] at hv
    subst hv
    have hgx : g x = some v := by
      have := (h3 x hx).2 undef
      rw [hat] at this
      cases hq : g x with
      | none =>
        have h5 := (h3 x hx).1
        rw [hq, Maps.has_true_of_atKey hat] at h5
        cases h5
      | some c => rw [hq] at this; simpa using this.symm
    have hself : (κ.lit x).sameKey (κ.lit x) = true := WideAt.sameKey_self (κ.keyed.key hkey)
    simp [execOp, ho, hit, hrun, Result.andThen]
    refine hK' _ _ (hMore x v w' (open Classical in fun y => left y && !decide (y = x)) cnt' hx (by rw [← h4 x hx]; exact hlk) hgx (by simp) (fun y _ hne => by simp [hne]) ⟨D, _, hrg, h2, h3, fun y hy => ?_⟩ hlt ⟨hgr.os, hgr.tape, hgr.output, hgr.size, fun k hk hp => hgr.block k hk (fun e => hp (by injection e))⟩ hsz hen)
    rw [h4 y hy]
    by_cases e : y = x
    · subst e; rw [hself]; simp
    · rw [Maps.sameKey_ne (fun e' => e (κ.inj e'))]; simp [e]
end Go.Proofs.Ytkkpbnhagobhmaa

/- A map from texts to numbers, said by a function of texts. No function of the program is named. -/
import Derived.Test.YtnlfdhoabbbheaaBlk
import Derived.Test.YtnlfdhoabbbheaaConv
import Derived.Maps.OwnSet
import Derived.Test.YtnlfdhoabbbheaaProg
namespace Go.Proofs.Ytnlfdhoabbbheaa
open Go.RowKit Go.Maps Go.WideMaps

theorem mapLaw : Keyed Try.prog 9 := string_keyed Try.underlying9
theorem lit_inj {s u : ByteArray} (h : Lit.string s.data.toList = .string u.data.toList) : s = u := by
  injection h with h
  exact ByteArray.ext (Array.ext' h)

theorem infoMapInt : (Try.prog.info? 3).map (fun i => (i.zero, i.size, i.bytes)) = some (some (.int .i64 0), 1, 8) := by kernel_rfl
theorem zero_int (w : World) : (zeroValue 3).run Try.prog w = .ok (.int .i64 0) w := by
  obtain ⟨i, h1, h2, _⟩ := info_parts infoMapInt
  simp [zeroValue, typeInfo, h1, h2]

/-- Block b is a map of N keys: at s stands g s. -/
def SM (w : World) (b N : Nat) (g : ByteArray → Option Int) : Prop :=
  ∃ D : DataW Unit, w.ownsMap Try.prog 9 (plainElem Try.prog 3) b N D ∧ Maps.size D = N ∧ ∀ s : ByteArray, s.size ≤ maxLen →
    Maps.has D (.string s.data.toList) = (g s).isSome ∧ D.atKey (.string s.data.toList) (.lit (.int .i64 0)) = .lit (.int .i64 ((g s).getD 0))

/-- The function with c at s. -/
def upd (g : ByteArray → Option Int) (s : ByteArray) (c : Int) : ByteArray → Option Int := fun u => if u = s then some c else g u

theorem SM.made (w : World) : SM (w.alloc (.map #[] 0)) w.heap.size 0 (fun _ => none) :=
  ⟨.map [], World.ownsMap_made w _ _ _, rfl, fun _ _ => ⟨rfl, rfl⟩⟩
theorem SM.lt {w : World} {b N : Nat} {g : ByteArray → Option Int} (h : SM w b N g) : b < w.heap.size := by
  obtain ⟨D, h1, _⟩ := h
  exact h1.lt
theorem SM.of_block {w w' : World} {b N : Nat} {g : ByteArray → Option Int} (h : SM w b N g) (hb : w'.heap[b]? = w.heap[b]?) : SM w' b N g := by
  obtain ⟨D, ⟨es, clock, h1, h2⟩, h3⟩ := h
  exact ⟨D, ⟨es, clock, hb.trans h1, h2⟩, h3⟩
theorem SM.chg {w w' : World} {P : Nat → Prop} {b N : Nat} {g : ByteArray → Option Int} (h : SM w b N g) (hc : Chg w w' P) (hp : ¬ P b) : SM w' b N g := h.of_block (hc.block b h.lt hp)
theorem SM.below {w w' : World} {B b N : Nat} {g : ByteArray → Option Int} (h : SM w b N g) (hc : Below B w w') (hb : b < B) : SM w' b N g := h.of_block (hc.block b hb)
theorem SM.drew {w : World} {b N : Nat} {g : ByteArray → Option Int} (h : SM w b N g) (q : Nat) : SM (w.drewN q) b N g := h.of_block rfl
/-- No block of cells is the map's. -/
theorem SM.not_cells {w : World} {b N : Nat} {g : ByteArray → Option Int} (h : SM w b N g) {off : Nat} {v : Value} {p : Nat} (hc : w.cell? ⟨p, off, none⟩ = some v) : p ≠ b := by
  rintro rfl
  obtain ⟨D, ⟨es, clock, h1, _⟩, _⟩ := h
  simp [World.cell?, h1] at hc
theorem SM.not_blk {w : World} {b N : Nat} {g : ByteArray → Option Int} (h : SM w b N g) {p : Nat} {T : TypeId} {cs : Array Value} (hc : Blk w p T cs) : p ≠ b := by
  rintro rfl
  obtain ⟨D, ⟨es, clock, h1, _⟩, _⟩ := h
  have := h1.symm.trans (show w.heap[p]? = _ from hc)
  simp at this

theorem SM.look {w : World} {b N : Nat} {g : ByteArray → Option Int} (h : SM w b N g) (s : ByteArray) (hs : s.size ≤ maxLen) :
    (Instr.lookup 71 (.map (some b)) (.string s) true).run Try.prog w = .ok (.tuple #[.int .i64 ((g s).getD 0), .bool (g s).isSome]) w := by
  obtain ⟨D, h1, _, h3⟩ := h
  obtain ⟨h4, h5⟩ := h3 s hs
  obtain ⟨v, ps, hrun, hv⟩ := h1.look_ok mapLaw Try.underlying71 (z := .int .i64 0) (zero_int w) (zd := .lit (.int .i64 0)) (zp := []) (plainElem_int Try.underlying3 (by decide)) (keyOf_string_mk Try.underlying9 hs)
  obtain ⟨c, rfl, hc, _⟩ := plainElem_int_inv Try.underlying3 hv
  rw [h5] at hc
  simp only [Prod.mk.injEq, DataW.lit.injEq, Lit.int.injEq, true_and] at hc
  rw [hrun, h4, hc.1]
theorem SM.look1 {w : World} {b N : Nat} {g : ByteArray → Option Int} (h : SM w b N g) (s : ByteArray) (hs : s.size ≤ maxLen) :
    (Instr.lookup 71 (.map (some b)) (.string s) false).run Try.prog w = .ok (.int .i64 ((g s).getD 0)) w := by
  obtain ⟨D, h1, _, h3⟩ := h
  obtain ⟨h4, h5⟩ := h3 s hs
  obtain ⟨v, ps, hrun, hv⟩ := h1.lookup mapLaw Try.underlying71 (z := .int .i64 0) (zero_int w) (zd := .lit (.int .i64 0)) (zp := []) (plainElem_int Try.underlying3 (by decide)) (keyOf_string_mk Try.underlying9 hs)
  obtain ⟨c, rfl, hc, _⟩ := plainElem_int_inv Try.underlying3 hv
  rw [h5] at hc
  simp only [Prod.mk.injEq, DataW.lit.injEq, Lit.int.injEq, true_and] at hc
  rw [hrun, hc.1]
theorem SM.len {w : World} {b N : Nat} {g : ByteArray → Option Int} (h : SM w b N g) (ty : TypeId) :
    (Builtin.len_ #[71] ty #[.map (some b)]).run Try.prog w = .ok (.int .i64 N) w := by
  obtain ⟨D, h1, h2, _⟩ := h
  rw [h1.len Try.underlying71 ty, h2]
theorem SM.store {w : World} {b N : Nat} {g : ByteArray → Option Int} (h : SM w b N g) (s : ByteArray) (hs : s.size ≤ maxLen) (c : Int) (hc : -9223372036854775808 ≤ c ∧ c ≤ 9223372036854775807) (hN : N < maxLen) :
    ∃ w', (Instr.mapUpdate 71 (.map (some b)) (.string s) (.int .i64 c)).run Try.prog w = .ok () w' ∧ SM w' b (if (g s).isSome then N else N + 1) (upd g s c) ∧ Chg w w' (fun k => k = b) ∧ w'.heap.size = w.heap.size := by
  obtain ⟨D, h1, h2, h3⟩ := h
  have hk := keyOf_string_mk (P := Try.prog) Try.underlying9 hs
  have hwf : (Lit.int .i64 c).wf = true := by
    have e1 : IntKind.i64.min = -9223372036854775808 := rfl
    have e2 : IntKind.i64.max = 9223372036854775807 := rfl
    simp only [Lit.wf, Bool.and_eq_true, decide_eq_true_eq, e1, e2]
    exact hc
  have htidy := h1.tidy mapLaw
  obtain ⟨w', hrun, hown, hturn⟩ := h1.store mapLaw Try.underlying71 hN hk (plainElem_int (H := Unit) Try.underlying3 hwf)
  have hsz : Maps.size (D.put (.string s.data.toList) (.lit (.int .i64 c))) = if (g s).isSome then N else N + 1 := by
    rw [Maps.size_put htidy, (h3 s hs).1, h2]
  refine ⟨w', hrun, ⟨_, ?_, hsz, fun u hu => ?_⟩, ?_, ?_⟩
  · obtain ⟨es, clock, q1, q2, q3, q4⟩ := hown
    refine ⟨es, clock, q1, q2, ?_, q4⟩
    rw [← hsz, q4]
    simp [Maps.size, length_sorted]
  · unfold upd
    by_cases e : u = s
    · subst e
      rw [if_pos rfl, Maps.has_put_same htidy.isMap (mapLaw.key hk), Maps.atKey_put_same htidy.isMap (mapLaw.key hk)]
      exact ⟨rfl, rfl⟩
    · rw [if_neg e, Maps.has_put_other (fun e' => e (lit_inj e')), Maps.atKey_put_other (fun e' => e (lit_inj e'))]
      exact h3 u hu
  · have hg := hturn.grown
    exact ⟨hg.os, hg.tape, hg.output, hg.size, fun k hk hp => hg.block k hk (fun e => hp (by injection e))⟩
  · obtain ⟨es, clock, es', clock', _, rfl⟩ := hturn
    simp [Go.ChangeMaps.setBlock]
theorem SM.drop {w : World} {b N : Nat} {g : ByteArray → Option Int} (h : SM w b N g) (s : ByteArray) (hs : s.size ≤ maxLen) (ty : TypeId) :
    ∃ w', (Builtin.delete_ #[71, 9] ty #[.map (some b), .string s]).run Try.prog w = .ok (.tuple #[]) w' ∧ SM w' b (if (g s).isSome then N - 1 else N) (fun u => if u = s then none else g u) ∧ Chg w w' (fun k => k = b) ∧ w'.heap.size = w.heap.size := by
  obtain ⟨D, h1, h2, h3⟩ := h
  have hk := keyOf_string_mk (P := Try.prog) Try.underlying9 hs
  have htidy := h1.tidy mapLaw
  obtain ⟨w', hrun, hown, hturn⟩ := h1.drop mapLaw Try.underlying71 hk ty
  have hsz : Maps.size (D.del (.string s.data.toList)) = if (g s).isSome then N - 1 else N := by
    have := Maps.size_del htidy (k := .string s.data.toList)
    rw [(h3 s hs).1, h2] at this
    split at this <;> rename_i hh <;> simp [hh] <;> omega
  refine ⟨w', hrun, ⟨_, ?_, hsz, fun u hu => ?_⟩, ?_, ?_⟩
  · obtain ⟨es, clock, q1, q2, q3, q4⟩ := hown
    refine ⟨es, clock, q1, q2, ?_, q4⟩
    rw [← hsz, q4]
    simp [Maps.size, length_sorted]
  · by_cases e : u = s
    · subst e
      dsimp only
      rw [if_pos rfl, Maps.has_del_same, Maps.atKey_del_same]
      exact ⟨rfl, rfl⟩
    · dsimp only
      rw [if_neg e, Maps.has_del_other (fun e' => e (lit_inj e')), Maps.atKey_del_other (fun e' => e (lit_inj e'))]
      exact h3 u hu
  · have hg := hturn.grown
    exact ⟨hg.os, hg.tape, hg.output, hg.size, fun k hk hp => hg.block k hk (fun e => hp (by injection e))⟩
  · obtain ⟨es, clock, es', clock', _, rfl⟩ := hturn
    simp [Go.ChangeMaps.setBlock]
/-- 'm[s] = c' at a step of a region that draws. -/
theorem SM.step_put {ops : Array Oper} {o : Oper} {a : Act} {K : Act → World → Prop} {Q : Exit → Act → World → Prop} {E : Prop} (w : World) (hgd : o.guard = none) (m x v : Operand)
    (ho : o.op = .mapUpdate 71 m x v) {b N : Nat} {g : ByteArray → Option Int} (h : SM w b N g) (s : ByteArray) (hs : s.size ≤ maxLen) (c : Int) (hc : -9223372036854775808 ≤ c ∧ c ≤ 9223372036854775807) (hN : N < maxLen)
    (hm : a.eval m = .map (some b)) (hx : a.eval x = .string s) (hv : a.eval v = .int .i64 c)
    (hk : ∀ w', SM w' b (if (g s).isSome then N else N + 1) (upd g s c) → Chg w w' (fun k => k = b) → w'.heap.size = w.heap.size → K (a.put o.dst undef) w') :
    if Region.wanted o (yielded ops a.tmps) = true then Oper.wp Try.prog o a w K Q else E := by
  have hw : Region.wanted o (yielded ops a.tmps) = true := by simp [Region.wanted, hgd]
  rw [if_pos hw]
  obtain ⟨w', hrun, h1, h2, h3⟩ := h.store s hs c hc hN
  unfold Oper.wp execOp
  simp only [ho, Sem.run_bind, Sem.run_pure, Result.andThen_ok, hm, hx, hv, hrun]
  exact hk w' h1 h2 h3
end Go.Proofs.Ytnlfdhoabbbheaa

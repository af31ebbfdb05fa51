/- client: an entry of a map of topics and partitions, there or not (m[k] = m[k] + n). -/
import Derived.Test.YtahncanmfjmfnaaCnH
namespace Go.Proofs.Ytahncanmfjmfnaa
open Go.RowKit Go.Maps Go.WideMaps Go.WideElems Go.ChangeMaps
set_option maxRecDepth 100000

theorem cn.setBlock_chg (w : World) (b : Nat) (o : Obj) : Chg w (setBlock w b o) (fun k => k = b) := by
  refine ⟨rfl, rfl, rfl, by simp [setBlock], fun k _ hk => ?_⟩
  simp only [setBlock]
  rw [Array.getElem?_setIfInBounds, if_neg fun e => hk e.symm]
theorem cn.setBlock_two (w : World) (b : Nat) (o o' : Obj) : setBlock (setBlock w b o) b o' = setBlock w b o' := by
  simp [setBlock]
theorem cn.entry {w : World} {b N : Nat} {g : SlotK → Option Value} (h : GM slotKey w b N g) (x : SlotK) (hN : N < maxLen) :
    ∃ (v0 : Value) (st : Nat) (w1 : World) (N1 : Nat) (g1 : SlotK → Option Value), (Instr.mapEntry 74 (.map (some b)) (.agg #[.string x.s, .int .i64 x.p])).run Try.prog w = .ok (.tuple #[v0, .int .i64 st]) w1 ∧ GM slotKey w1 b N1 g1 ∧ (g1 x).getD (.int .i64 0) = (g x).getD (.int .i64 0) ∧ Chg w w1 (fun k => k = b) ∧
      ∀ c, ∃ w2 N2, (Instr.entryStore 74 (.map (some b)) (.int .i64 st) c).run Try.prog w1 = .ok () w2 ∧ GM slotKey w2 b N2 (gput g x c) ∧ N2 ≤ N + 1 ∧ Chg w w2 (fun k => k = b) := by
  have K : KeyLaw Try.prog 91 := slot.law
  have ht := Try.underlying74
  have hkey : keyOf Try.prog 91 (.agg #[.string x.s, .int .i64 x.p]) = some (slotKey.lit x) := slotKey.key (x := x) trivial
  have hstore := fun c => GM.store (κ := slotKey) h ht x trivial c hN
  have hg := h
  obtain ⟨D, ⟨es, clock, hb, F, -⟩, -⟩ := h
  obtain ⟨v0, st, es1, clock1, hm, -, hs⟩ := entry_then_store K ht cn.zero_int hb F hkey
  have hb1 : (setBlock w b (.map es1 clock1)).heap[b]? = some (.map es1 clock1) := by
    have hlt := (Array.getElem?_eq_some_iff.1 hb).1
    simp [setBlock, hlt]
  have hlast : ∀ c, ∃ w2 N2, (Instr.entryStore 74 (.map (some b)) (.int .i64 st) c).run Try.prog (setBlock w b (.map es1 clock1)) = .ok () w2 ∧ GM slotKey w2 b N2 (gput g x c) ∧ N2 ≤ N + 1 ∧ Chg w w2 (fun k => k = b) := fun c => by
    obtain ⟨es', clock', h1, h2⟩ := hs _ c hb1
    obtain ⟨w', hrun, hgm, hc, -⟩ := hstore c
    have e : w' = setBlock w b (.map es' clock') := by
      have : Result.ok () w' = Result.ok () (setBlock w b (.map es' clock')) := hrun.symm.trans h2
      injection this
    rw [cn.setBlock_two] at h1
    refine ⟨_, _, h1, by rw [← e]; exact hgm, by split <;> omega, cn.setBlock_chg _ _ _⟩
  rcases K.find w hkey es.toList F.keys with ⟨h1, h2⟩ | ⟨j, e0, h1, h2, h3⟩
  · have hm' : (Instr.mapEntry 74 (.map (some b)) (.agg #[.string x.s, .int .i64 x.p])).run Try.prog w = .ok (.tuple #[.int .i64 0, goInt clock]) (setBlock w b (.map (es.push ⟨.agg #[.string x.s, .int .i64 x.p], .int .i64 0, clock⟩) (clock + 1))) := by
      simp [Instr.mapEntry, run_underlying ht, MapKept.run_getObj_map hb, K.check w false hkey, h1, MapKept.run_setObj_map _ hb, Result.andThen, setBlock]
    have hup : (Instr.mapUpdate 74 (.map (some b)) (.agg #[.string x.s, .int .i64 x.p]) (.int .i64 0)).run Try.prog w = .ok () (setBlock w b (.map (es.push ⟨.agg #[.string x.s, .int .i64 x.p], .int .i64 0, clock⟩) (clock + 1))) := by
      simp [Instr.mapUpdate, run_underlying ht, MapKept.run_getObj_map hb, K.check w false hkey, h1, MapKept.run_setObj_map _ hb, Result.andThen, setBlock]
    have hl := GM.look1 hg ht (cn.zero_int w) x trivial
    have hl2 : (Instr.lookup 74 (.map (some b)) (.agg #[.string x.s, .int .i64 x.p]) false).run Try.prog w = .ok (.int .i64 0) w := by
      simp [Instr.lookup, run_underlying ht, MapKept.run_getObj_map hb, K.check w _ hkey, h1, Result.andThen]
    have hgz : (g x).getD (.int .i64 0) = .int .i64 0 := by
      have : Result.ok ((g x).getD (.int .i64 0)) w = Result.ok (.int .i64 0) w := hl.symm.trans hl2
      injection this
    obtain ⟨w', hrun, hgm, hc, -⟩ := hstore (.int .i64 0)
    have e : w' = setBlock w b (.map (es.push ⟨.agg #[.string x.s, .int .i64 x.p], .int .i64 0, clock⟩) (clock + 1)) := by
      have : Result.ok () w' = Result.ok () _ := hrun.symm.trans hup
      injection this
    have e2 : setBlock w b (.map es1 clock1) = w' := by
      have : Result.ok (Value.tuple #[v0, goInt st]) (setBlock w b (.map es1 clock1)) = Result.ok _ _ := hm.symm.trans hm'
      rw [e]
      injection this
    exact ⟨v0, st, _, _, _, hm, by rw [e2]; exact hgm, by rw [gput_same, hgz]; rfl, cn.setBlock_chg _ _ _, hlast⟩
  · have hj : es[j]? = some e0 := by simpa using h2
    have hsame : es.modify j (fun e => { e with key := .agg #[.string x.s, .int .i64 x.p] }) = es := by
      apply Array.ext_getElem?
      intro i
      rw [Array.getElem?_modify]
      by_cases hi : j = i
      · subst hi
        rw [if_pos rfl, hj, Option.map_some, ← h3]
      · rw [if_neg hi]
    have hw : setBlock w b (.map es clock) = w := by
      unfold setBlock
      have : w.heap.setIfInBounds b (.map es clock) = w.heap := by
        apply Array.ext_getElem?
        intro i
        rw [Array.getElem?_setIfInBounds]
        by_cases hi : b = i
        · subst hi
          rw [if_pos rfl]
          have hlt := (Array.getElem?_eq_some_iff.1 hb).1
          rw [if_pos hlt, hb]
        · rw [if_neg hi]
      rw [this]
    have hm' : (Instr.mapEntry 74 (.map (some b)) (.agg #[.string x.s, .int .i64 x.p])).run Try.prog w = .ok (.tuple #[e0.val, goInt e0.born]) (setBlock w b (.map es clock)) := by
      simp [Instr.mapEntry, run_underlying ht, MapKept.run_getObj_map hb, K.check w false hkey, h1, hj, h3, K.stays w hkey, hsame, MapKept.run_setObj_map _ hb, Result.andThen, setBlock]
    have e2 : setBlock w b (.map es1 clock1) = w := by
      have : Result.ok (Value.tuple #[v0, goInt st]) (setBlock w b (.map es1 clock1)) = Result.ok _ _ := hm.symm.trans hm'
      injection this with _ q
      exact q.trans hw
    exact ⟨v0, st, _, N, g, hm, by rw [e2]; exact hg, rfl, cn.setBlock_chg _ _ _, hlast⟩
end Go.Proofs.Ytahncanmfjmfnaa

/- An entry of a map that is there, looked up ahead and written behind (m[a], m[b] = x, y). No function of the program is named. -/
import Derived.WideKeyEntry
import Derived.Test.YtahncanmfjmfnaaMapG
namespace Go.Proofs.Ytahncanmfjmfnaa
open Go.RowKit Go.Maps Go.WideMaps Go.WideElems Go.ChangeMaps

set_option maxRecDepth 20000
variable {K : Type} {κ : KeyKind K}

theorem GM.entry {w : World} {b N : Nat} {g : K → Option Value} (h : GM κ w b N g) {t e : TypeId} (ht : Try.prog.underlying t = some (.map κ.kt e)) {z : Value} (hz : ∀ u : World, (zeroValue e).run Try.prog u = .ok z u) (x : K) (hx : κ.ok x) (hs : (g x).isSome = true) (hN : N < maxLen) :
    ∃ (v0 : Value) (st : Nat), (Instr.mapEntry t (.map (some b)) (κ.val x)).run Try.prog w = .ok (.tuple #[v0, .int .i64 st]) w ∧
      ∀ c, ∃ w', (Instr.entryStore t (.map (some b)) (.int .i64 st) c).run Try.prog w = .ok () w' ∧ GM κ w' b N (gput g x c) ∧ Chg w w' (fun k => k = b) ∧ w'.heap.size = w.heap.size := by
  have hK := κ.keyed
  have hkey := κ.key hx
  have hlook := GM.look (κ := κ) h ht (hz w) x hx
  rw [hs] at hlook
  have hst := fun c => GM.store (κ := κ) h ht x hx c hN
  obtain ⟨D, ⟨es, clock, hb, F, -⟩, -⟩ := h
  rcases hK.find w hkey es.toList (fun e0 he => by
    obtain ⟨y, hy⟩ := F.reads e0 he
    exact ⟨_, rd_key hy⟩) with ⟨h1, h2⟩ | ⟨j, e0, h1, h2, h3⟩
  · exfalso
    simp [Instr.lookup, run_underlying ht, MapKept.run_getObj_map hb, hK.check w _ hkey, h1, hz, Result.andThen] at hlook
  · have hj : es[j]? = some e0 := by simpa using h2
    have hsame : es.modify j (fun e => { e with key := κ.val x }) = es := by
      apply Array.ext_getElem?
      intro i
      rw [Array.getElem?_modify]
      by_cases hi : j = i
      · subst hi
        rw [if_pos rfl, hj, Option.map_some, ← h3]
      · rw [if_neg hi]
    have hw : setBlock w b (.map es clock) = w := by
      unfold setBlock
      have : w.heap.setIfInBounds b (.map es clock) = w.heap := by
        apply Array.ext_getElem?
        intro i
        rw [Array.getElem?_setIfInBounds]
        by_cases hi : b = i
        · subst hi
          rw [if_pos rfl]
          have hlt := (Array.getElem?_eq_some_iff.1 hb).1
          rw [if_pos hlt, hb]
        · rw [if_neg hi]
      rw [this]
    refine ⟨e0.val, e0.born, ?_, fun c => ?_⟩
    · have : (Instr.mapEntry t (.map (some b)) (κ.val x)).run Try.prog w = .ok (.tuple #[e0.val, .int .i64 e0.born]) (setBlock w b (.map es clock)) := by
        simp [Instr.mapEntry, run_underlying ht, MapKept.run_getObj_map hb, hK.check w false hkey, h1, hj, h3, hK.stays w hkey, hsame, MapKept.run_setObj_map _ hb, Result.andThen, setBlock, goInt]
      rw [this, hw]
    · obtain ⟨w', hrun, hg, hc, hsz⟩ := hst c
      rw [if_pos hs] at hg
      refine ⟨w', ?_, hg, hc, hsz⟩
      have hidx : es.findIdx? (fun e => ((e.born : Nat) : Int) == ((e0.born : Nat) : Int)) = some j := by
        rw [findIdx_arr]
        exact findIdx_born F.stamped.2.1 h2
      have hmod : es.modify j (fun e => { e with val := c }) = es.modify j (fun e' => { e' with key := κ.val x, val := c }) := by
        apply Array.ext_getElem?
        intro i
        rw [Array.getElem?_modify, Array.getElem?_modify]
        by_cases hi : j = i
        · subst hi
          rw [if_pos rfl, if_pos rfl, hj, Option.map_some, Option.map_some, ← h3]
        · rw [if_neg hi, if_neg hi]
      have hup : (Instr.mapUpdate t (.map (some b)) (κ.val x) c).run Try.prog w = .ok () (setBlock w b (.map (es.modify j (fun e' => { e' with key := κ.val x, val := c })) clock)) := by
        simp [Instr.mapUpdate, run_underlying ht, MapKept.run_getObj_map hb, hK.check w false hkey, h1, hj, h3, hK.stays w hkey, MapKept.run_setObj_map _ hb, Result.andThen, setBlock]
      rw [hup] at hrun
      obtain rfl : setBlock w b (.map (es.modify j (fun e' => { e' with key := κ.val x, val := c })) clock) = w' := by
        injection hrun
      simp [Instr.entryStore, MapKept.run_getObj_map hb, asInt, asIntOf, hidx, hmod, MapKept.run_setObj_map _ hb, Result.andThen, setBlock]
end Go.Proofs.Ytahncanmfjmfnaa

/- A map's keys: a topic and a partition (api.Slot). -/
import Derived.Test.YtahncanmfjmfnaaMapE
import Derived.DeepKeys4
namespace Go.Proofs.Ytahncanmfjmfnaa
open Go.RowKit Go.Maps Go.WideMaps
set_option maxRecDepth 100000

theorem slot.laid : laidOutB Try.prog = true := by kernel_rfl
theorem slot.row : (91 : TypeId) < Try.prog.types.size := of_decide_eq_true (by kernel_rfl)
theorem slot.wide : (match Try.prog.underlying 91 with | some (.array _ _) | some (.struct _) => true | _ => false) = true := by rw [Try.underlying91]
theorem slot.law : KeyLaw Try.prog 91 := deep_law_laid slot.laid (m := 2) (by decide) slot.row (by kernel_rfl) slot.wide
theorem slot.type : Try.prog.keyType 91 = true := by kernel_rfl
theorem slot.cells : Try.prog.cellsOf 91 = 2 := by kernel_rfl
theorem slot.cell1 : Try.prog.cellsOf 9 = 1 := by kernel_rfl
theorem slot.cell2 : Try.prog.cellsOf 3 = 1 := by kernel_rfl
theorem slot.size : ∃ n, Try.prog.types.size = n + 1 := by
  have h := slot.row
  exact ⟨Try.prog.types.size - 1, (Nat.succ_pred_eq_of_pos (Nat.lt_of_le_of_lt (Nat.zero_le _) h)).symm⟩
theorem slot.str (n : Nat) (s : ByteArray) (h : s.size ≤ maxLen) : Try.prog.keyLits (n + 1) 9 [.string s] = some [.string s.data.toList] := by
  unfold Program.keyLits
  rw [Try.underlying9]
  exact if_pos h
theorem slot.num (n : Nat) (p : Int) (h : intOk p) : Try.prog.keyLits (n + 1) 3 [.int .i64 p] = some [.int .i64 p] := by
  unfold Program.keyLits
  rw [Try.underlying3]
  exact if_pos ⟨rfl, wf_i64.2 h⟩
theorem slot.str_inv (n : Nat) (cs : List Value) (ls : List Lit) (h : Try.prog.keyLits (n + 1) 9 cs = some ls) : ∃ s, cs = [.string s] ∧ s.size ≤ maxLen ∧ ls = [.string s.data.toList] := by
  unfold Program.keyLits at h
  rw [Try.underlying9] at h
  split at h
  all_goals first | (exfalso; rename_i e; cases e; done) | cases h | skip
  all_goals first | (rename_i e1 e2 _; cases e1; done) | skip
  · rename_i s _
    split at h
    · rename_i hs
      exact ⟨_, rfl, hs, (Option.some.inj h).symm⟩
    · cases h
theorem slot.num_inv (n : Nat) (cs : List Value) (ls : List Lit) (h : Try.prog.keyLits (n + 1) 3 cs = some ls) : ∃ p, cs = [.int .i64 p] ∧ intOk p ∧ ls = [.int .i64 p] := by
  unfold Program.keyLits at h
  rw [Try.underlying3] at h
  split at h
  all_goals first | cases h | skip
  all_goals first | (rename_i e; cases e; done) | skip
  · rename_i q q' m e
    obtain rfl : IntKind.i64 = q := by injection e with e; injection e
    split at h
    · rename_i hq
      obtain ⟨rfl, hw⟩ := hq
      exact ⟨m, rfl, wf_i64.1 hw, (Option.some.inj h).symm⟩
    · cases h
theorem slot.two (s : ByteArray) (p : Int) (hs : s.size ≤ maxLen) (hp : intOk p) : Try.prog.keyLits (Try.prog.types.size + 1) 91 [.string s, .int .i64 p] = some [.string s.data.toList, .int .i64 p] := by
  obtain ⟨n, hn⟩ := slot.size
  rw [hn]
  unfold Program.keyLits
  rw [Try.underlying91]
  dsimp only
  rw [if_pos ⟨by rw [slot.cells]; rfl, by kernel_rfl⟩]
  simp only [List.mapM_cons, List.mapM_nil, slot.cell1, slot.cell2, List.take, List.drop]
  rw [slot.str n s hs, slot.num n p hp]
  rfl
theorem slot.two_inv (cs : List Value) (ls : List Lit) (h : Try.prog.keyLits (Try.prog.types.size + 1) 91 cs = some ls) : ∃ s p, cs = [.string s, .int .i64 p] ∧ s.size ≤ maxLen ∧ intOk p ∧ ls = [.string s.data.toList, .int .i64 p] := by
  obtain ⟨n, hn⟩ := slot.size
  rw [hn] at h
  unfold Program.keyLits at h
  rw [Try.underlying91] at h
  dsimp only at h
  split at h
  · rename_i hc
    rw [slot.cells] at hc
    match cs, hc.1 with
    | [a, b], _ =>
      simp only [List.mapM_cons, List.mapM_nil, slot.cell1, slot.cell2, List.take, List.drop] at h
      cases h1 : Try.prog.keyLits (n + 1) 9 [a] with
      | none => rw [h1] at h; cases h
      | some l1 =>
        cases h2 : Try.prog.keyLits (n + 1) 3 [b] with
        | none => rw [h1, h2] at h; cases h
        | some l2 =>
          rw [h1, h2] at h
          obtain ⟨s, e1, hs, rfl⟩ := slot.str_inv n _ _ h1
          obtain ⟨p, e2, hp, rfl⟩ := slot.num_inv n _ _ h2
          obtain rfl : a = .string s := by simpa using e1
          obtain rfl : b = .int .i64 p := by simpa using e2
          exact ⟨s, p, rfl, hs, hp, (Option.some.inj h).symm⟩
  · cases h
/-- A topic and a partition, as a key. -/
structure SlotK where
  s : ByteArray
  p : Int
  hs : s.size ≤ maxLen
  hp : intOk p
def slotKey : KeyKind SlotK where
  kt := 91
  val x := .agg #[.string x.s, .int .i64 x.p]
  lit x := .string (keyBytes [.string x.s.data.toList, .int .i64 x.p])
  ok _ := True
  keyed := Keyed.of_law slot.law
  key {x} _ := by
    unfold keyOf
    rw [Try.underlying91]
    dsimp only
    rw [if_pos (by rw [slot.type]; simp [Value.formed, Try.underlying91, slot.cells])]
    have := slot.two x.s x.p x.hs x.hp
    rw [show (Value.agg #[.string x.s, .int .i64 x.p]).cells.toList = [.string x.s, .int .i64 x.p] from rfl, this]
    rfl
  inj {x y} h := by
    injection h with h
    have := keyLits_inj (slot.two x.s x.p x.hs x.hp) (slot.two y.s y.p y.hs y.hp) h
    obtain ⟨xs, xp, _, _⟩ := x
    obtain ⟨ys, yp, _, _⟩ := y
    simp only [List.cons.injEq, Lit.string.injEq, Lit.int.injEq, true_and, and_true] at this
    obtain rfl : xs = ys := ByteArray.ext (Array.ext' this.1)
    obtain rfl : xp = yp := this.2
    rfl
  onto {v l} h := by
    obtain ⟨xs, L, rfl, h1, rfl⟩ := keyOf_top slot.wide h
    obtain ⟨s, p, e, hs, hp, rfl⟩ := slot.two_inv _ _ h1
    refine ⟨⟨s, p, hs, hp⟩, trivial, ?_, rfl⟩
    rw [show xs = #[.string s, .int .i64 p] from Array.ext' e]
end Go.Proofs.Ytahncanmfjmfnaa

/- commits: a place as a key of a map (chapter 18). -/
import Derived.Test.YtkkpbnhagobhmaaMapG
import Derived.Test.YtkkpbnhagobhmaaCmX
import Derived.DeepKeys4
import Derived.WideKeyEntry
namespace Go.Proofs.Ytkkpbnhagobhmaa
open Go.RowKit Go.Maps Go.WideMaps
set_option maxRecDepth 100000
theorem pk.laid : laidOutB Try.prog = true := by kernel_rfl
theorem pk.row : (72 : TypeId) < Try.prog.types.size := of_decide_eq_true (by kernel_rfl)
theorem pk.wide : (match Try.prog.underlying 72 with | some (.array _ _) | some (.struct _) => true | _ => false) = true := by rw [Try.underlying72]
theorem pk.law : KeyLaw Try.prog 72 := deep_law_laid pk.laid (m := 2) (by decide) pk.row (by kernel_rfl) pk.wide
theorem pk.type : Try.prog.keyType 72 = true := by kernel_rfl
theorem pk.cells : Try.prog.cellsOf 72 = 3 := by kernel_rfl
theorem pk.cell1 : Try.prog.cellsOf 9 = 1 := by kernel_rfl
theorem pk.cell2 : Try.prog.cellsOf 3 = 1 := by kernel_rfl
theorem pk.size : ∃ n, Try.prog.types.size = n + 1 := by
  have h := pk.row
  exact ⟨Try.prog.types.size - 1, (Nat.succ_pred_eq_of_pos (Nat.lt_of_le_of_lt (Nat.zero_le _) h)).symm⟩
theorem pk.str (n : Nat) (s : ByteArray) (h : s.size ≤ maxLen) : Try.prog.keyLits (n + 1) 9 [.string s] = some [.string s.data.toList] := by
  unfold Program.keyLits
  rw [Try.underlying9]
  exact if_pos h
theorem pk.num (n : Nat) (p : Int) (h : intOk p) : Try.prog.keyLits (n + 1) 3 [.int .i64 p] = some [.int .i64 p] := by
  unfold Program.keyLits
  rw [Try.underlying3]
  exact if_pos ⟨rfl, wf_i64.2 h⟩
theorem pk.str_inv (n : Nat) (cs : List Value) (ls : List Lit) (h : Try.prog.keyLits (n + 1) 9 cs = some ls) : ∃ s, cs = [.string s] ∧ s.size ≤ maxLen ∧ ls = [.string s.data.toList] := by
  unfold Program.keyLits at h
  rw [Try.underlying9] at h
  split at h
  all_goals first | (exfalso; rename_i e; cases e; done) | cases h | skip
  all_goals first | (rename_i e1 e2 _; cases e1; done) | skip
  · rename_i s _
    split at h
    · rename_i hs
      exact ⟨_, rfl, hs, (Option.some.inj h).symm⟩
    · cases h
theorem pk.num_inv (n : Nat) (cs : List Value) (ls : List Lit) (h : Try.prog.keyLits (n + 1) 3 cs = some ls) : ∃ p, cs = [.int .i64 p] ∧ intOk p ∧ ls = [.int .i64 p] := by
  unfold Program.keyLits at h
  rw [Try.underlying3] at h
  split at h
  all_goals first | cases h | skip
  all_goals first | (rename_i e; cases e; done) | skip
  · rename_i q q' m e
    obtain rfl : IntKind.i64 = q := by injection e with e; injection e
    split at h
    · rename_i hq
      obtain ⟨rfl, hw⟩ := hq
      exact ⟨m, rfl, wf_i64.1 hw, (Option.some.inj h).symm⟩
    · cases h
theorem pk.three (g t : ByteArray) (p : Int) (hg : g.size ≤ maxLen) (ht : t.size ≤ maxLen) (hp : intOk p) : Try.prog.keyLits (Try.prog.types.size + 1) 72 [.string g, .string t, .int .i64 p] = some [.string g.data.toList, .string t.data.toList, .int .i64 p] := by
  obtain ⟨n, hn⟩ := pk.size
  rw [hn]
  unfold Program.keyLits
  rw [Try.underlying72]
  dsimp only
  rw [if_pos ⟨by rw [pk.cells]; rfl, by kernel_rfl⟩]
  simp only [List.mapM_cons, List.mapM_nil, pk.cell1, pk.cell2, List.take, List.drop]
  rw [pk.str n g hg, pk.str n t ht, pk.num n p hp]
  rfl
theorem pk.three_inv (cs : List Value) (ls : List Lit) (h : Try.prog.keyLits (Try.prog.types.size + 1) 72 cs = some ls) : ∃ g t p, cs = [.string g, .string t, .int .i64 p] ∧ g.size ≤ maxLen ∧ t.size ≤ maxLen ∧ intOk p ∧ ls = [.string g.data.toList, .string t.data.toList, .int .i64 p] := by
  obtain ⟨n, hn⟩ := pk.size
  rw [hn] at h
  unfold Program.keyLits at h
  rw [Try.underlying72] at h
  dsimp only at h
  split at h
  · rename_i hc
    rw [pk.cells] at hc
    match cs, hc.1 with
    | [a, b, c], _ =>
      simp only [List.mapM_cons, List.mapM_nil, pk.cell1, pk.cell2, List.take, List.drop] at h
      cases h1 : Try.prog.keyLits (n + 1) 9 [a] with
      | none => rw [h1] at h; cases h
      | some l1 =>
        cases h2 : Try.prog.keyLits (n + 1) 9 [b] with
        | none => rw [h1, h2] at h; cases h
        | some l2 =>
          cases h3 : Try.prog.keyLits (n + 1) 3 [c] with
          | none => rw [h1, h2, h3] at h; cases h
          | some l3 =>
            rw [h1, h2, h3] at h
            obtain ⟨s, e1, hs, rfl⟩ := pk.str_inv n _ _ h1
            obtain ⟨t, e2, ht, rfl⟩ := pk.str_inv n _ _ h2
            obtain ⟨p, e3, hp, rfl⟩ := pk.num_inv n _ _ h3
            obtain rfl : a = .string s := by simpa using e1
            obtain rfl : b = .string t := by simpa using e2
            obtain rfl : c = .int .i64 p := by simpa using e3
            exact ⟨s, t, p, rfl, hs, ht, hp, (Option.some.inj h).symm⟩
  · cases h
/-- A place, as a key. -/
structure PlK where
  g : ByteArray
  t : ByteArray
  p : Int
  hg : g.size ≤ maxLen
  ht : t.size ≤ maxLen
  hp : intOk p
theorem PlK.eq {x y : PlK} (h1 : x.g = y.g) (h2 : x.t = y.t) (h3 : x.p = y.p) : x = y := by
  obtain ⟨a, b, c, _, _, _⟩ := x
  obtain ⟨a', b', c', _, _, _⟩ := y
  simp only at h1 h2 h3
  subst h1 h2 h3
  rfl
def PlK.val (x : PlK) : Value := .agg #[.string x.g, .string x.t, .int .i64 x.p]
def placeKey : KeyKind PlK where
  kt := 72
  val x := .agg #[.string x.g, .string x.t, .int .i64 x.p]
  lit x := .string (keyBytes [.string x.g.data.toList, .string x.t.data.toList, .int .i64 x.p])
  ok _ := True
  keyed := Keyed.of_law pk.law
  key {x} _ := by
    unfold keyOf
    rw [Try.underlying72]
    dsimp only
    rw [if_pos (by rw [pk.type]; simp [Value.formed, Try.underlying72, pk.cells])]
    have := pk.three x.g x.t x.p x.hg x.ht x.hp
    rw [show (Value.agg #[.string x.g, .string x.t, .int .i64 x.p]).cells.toList = [.string x.g, .string x.t, .int .i64 x.p] from rfl, this]
    rfl
  inj {x y} h := by
    injection h with h
    have := keyLits_inj (pk.three x.g x.t x.p x.hg x.ht x.hp) (pk.three y.g y.t y.p y.hg y.ht y.hp) h
    simp only [List.cons.injEq, Lit.string.injEq, Lit.int.injEq, true_and, and_true] at this
    exact PlK.eq (ByteArray.ext (Array.ext' this.1)) (ByteArray.ext (Array.ext' this.2.1)) this.2.2
  onto {v l} h := by
    obtain ⟨xs, L, rfl, h1, rfl⟩ := keyOf_top pk.wide h
    obtain ⟨g, t, p, e, hg, ht, hp, rfl⟩ := pk.three_inv _ _ h1
    refine ⟨⟨g, t, p, hg, ht, hp⟩, trivial, ?_, rfl⟩
    rw [show xs = #[.string g, .string t, .int .i64 p] from Array.ext' e]
end Go.Proofs.Ytkkpbnhagobhmaa

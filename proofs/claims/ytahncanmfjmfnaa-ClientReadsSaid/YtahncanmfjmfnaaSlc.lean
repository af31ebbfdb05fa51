/- A piece of a slice of bytes, whatever its capacity: one step of a walk. -/
import Derived.Test.YtahncanmfjmfnaaBdG
namespace Go.Proofs.Ytahncanmfjmfnaa
open Go.RowKit

theorem run_slicep (w : World) (A : Option Addr) (n c l h : Nat) (low high : Option Value) (hlo : (low = none ∧ l = 0) ∨ low = some (.int .i64 (l : Int))) (hhi : (high = none ∧ h = n) ∨ high = some (.int .i64 (h : Int))) (hlh : l ≤ h) (hhn : h ≤ n) (hnc : n ≤ c) :
    ∃ A', (Instr.sliceAt 33 (.slice A n c) low high none).run Try.prog w = .ok (.slice A' (h - l) (c - l)) w ∧ ((A' = A.map fun a => a.add l) ∨ h - l = 0) := by
  obtain ⟨i0, hi, hz0, hz1, hz2⟩ := info_parts infoByte
  have h1 : (0 : Int) ≤ (l : Int) ∧ (l : Int) ≤ (h : Int) := by omega
  have h2 : (0 : Int) ≤ (h : Int) ∧ (h : Int) ≤ (c : Int) := by omega
  refine ⟨if c = l then A else A.map fun a => a.add (l * 1), ?_, ?_⟩
  · rcases hlo with ⟨rfl, rfl⟩ | rfl <;> rcases hhi with ⟨rfl, rfl⟩ | rfl <;>
      simp [Instr.sliceAt, Instr.slice, Instr.sliceBounds, Instr.sliceBound, run_underlying Try.underlying33, sizeOf, typeInfo, hi, hz1, asIntOf, hlh, Nat.le_trans hhn hnc]
    all_goals (have hq := Nat.le_trans hhn hnc; intros; omega)
  · by_cases e : c = l
    · exact .inr (by omega)
    · rw [if_neg e, Nat.mul_one]
      exact .inl rfl
theorem wpList_slicep {ops : Array Oper} {rest : List Oper} {o : Oper} {a : Act} {w : World} {Q : Exit → Act → World → Prop} (hgd : o.guard = none) (x : Operand) (lo hi : Option Operand)
    (ho : o.op = .slice 33 x lo hi none) (A : Option Addr) (n c l h : Nat) (hx : a.eval x = .slice A n c) (hlo : (lo.map a.eval = none ∧ l = 0) ∨ lo.map a.eval = some (.int .i64 (l : Int))) (hhi : (hi.map a.eval = none ∧ h = n) ∨ hi.map a.eval = some (.int .i64 (h : Int))) (hlh : l ≤ h) (hhn : h ≤ n) (hnc : n ≤ c)
    (hQ : ∀ A' c', (∀ L : List Nat, L.length = n → Piece A L A' ((L.drop l).take (h - l))) → h - l ≤ c' → c' ≤ c → wpList Try.prog ops Q rest (a.put o.dst (.slice A' (h - l) c')) w) : wpList Try.prog ops Q (o :: rest) a w :=
  wpList_plain hgd fun _ hK => by
    obtain ⟨A', hr, hA⟩ := run_slicep w A n c l h (lo.map a.eval) (hi.map a.eval) hlo hhi hlh hhn hnc
    unfold Oper.wp execOp
    simp only [ho, hx, Option.map_none, Sem.run_bind, Result.andThen_ok, hr]
    refine hK _ _ (hQ A' (c - l) (fun L hL => ?_) (by omega) (by omega))
    rcases hA with rfl | h0
    · exact (Piece.drop A L l).trans (Piece.take _ _ _ (by rw [List.length_drop]; omega))
    · exact fun wx _ => At.none0 (by rw [List.length_take]; omega)
end Go.Proofs.Ytahncanmfjmfnaa

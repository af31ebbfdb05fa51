/- The reference of chapter 5: encode. -/
import Derived.Test.YtkkpbnhagobhmaaBtF
import Derived.Test.YtkkpbnhagobhmaaRefB
import Derived.Test.YtkkpbnhagobhmaaCrcR
import Derived.Test.YtkkpbnhagobhmaaRefN
import Derived.Test.YtkkpbnhagobhmaaPlanC
import Derived.Deep.CutRange
namespace Go.Proofs.Ytkkpbnhagobhmaa
open Go.RowKit

/-- A row of bytes laid since w3, and what else was there is as it was. -/
def Acc (w3 : World) (v : Value) (L : List Nat) (w : World) : Prop := w.ownsRow w3.heap.size 5 1 v L.length (u8s L) ∧ Below w3.heap.size w3 w
theorem Acc.keep {w3 w w' : World} {v : Value} {L : List Nat} (h : Acc w3 v L w) (hb : Below w.heap.size w w') : Acc w3 v L w' := ⟨own_below h.1 hb, h.2.trans (hb.mono h.2.size)⟩
theorem Acc.start {w3 w1 w : World} {v : Value} {n : Nat} {L : List Nat} (h : w.ownsRow w1.heap.size 5 1 v n (u8s L)) (hb : Below w1.heap.size w1 w) (h1 : Below w3.heap.size w3 w1) : Acc w3 v L w := by
  have hn : L.length = n := by have := h.1; rw [u8s_len] at this; omega
  subst hn
  exact ⟨ownsRow_base h h1.size, h1.trans (hb.mono h1.size)⟩
theorem Acc.at' {w3 w : World} {v : Value} {L : List Nat} (h : Acc w3 v L w) : ∃ A c, v = .slice A L.length c ∧ L.length ≤ c ∧ At w A L.length (byteAt L) := by
  obtain ⟨A, c, h1, h2, -, h3⟩ := own_bytes h.1
  exact ⟨A, c, h1, h2, h3⟩
theorem wpList_acc {w3 w : World} {ops : Array Oper} {rest : List Oper} {o : Oper} {a : Act} {Q : Exit → Act → World → Prop} (hgd : o.guard = none) (s x : Operand)
    (ho : o.op = .call { callee := .builtin .append, args := #[s, x], argTypes := #[35, 35] })
    (v : Value) (L : List Nat) (hs : a.eval s = v) (hA : Acc w3 v L w) (X : Option Addr) (m c : Nat) (M : List Nat) (hx : a.eval x = .slice X m c) (hM : M.length = m) (hat : At w X m (byteAt M))
    (hlen : L.length + M.length ≤ 70368744177664)
    (h : ∀ v' w', Acc w3 v' (L ++ M) w' → wpList Try.prog ops Q rest (a.put o.dst v') w') : wpList Try.prog ops Q (o :: rest) a w := by
  subst hM
  obtain ⟨i0, hi, hz0, hz1, hz2⟩ := info_parts infoByte
  refine wpList_app2 w hgd s x 35 ho w3.heap.size 5 i0 _ 1 1 Try.underlying35 hi hz0 hz1 hz2 rfl (by decide) v L.length (u8s L) hs hA.1 X M.length c (byteAt M) hx (by rw [Nat.mul_one]; exact hat) (fun j _ => byteAt_one _ j) (by unfold maxLen; omega) (by omega) hA.2.size ?_
  intro v' w' hown hg _
  rw [byteAt_cells_n _ _ rfl, ← u8s_append] at hown
  refine h v' w' ⟨?_, ?_⟩
  · rw [List.length_append]
    exact hown
  · exact hA.2.grown hg hA.2.size (fun g hg => (hA.1.lt g hg).1)

/-- What stands behind a record's length. -/
def Rec.rest (r : Rec) (first base : Int) : List Nat := num.put (r.time - first) ++ num.put (r.off - base) ++ bat.field r.hasKey r.key ++ bat.field r.hasVal r.val
theorem bat.field_len (has : Bool) (L : List Nat) (h : has = false → L = []) : ((bat.field has L).length : Int) = num.widI (bat.len has L.length) + L.length := by
  unfold bat.field bat.len num.widI
  cases has
  · rw [h rfl]
    simp [num.put_len]
  · simp [num.put_len]
theorem Rec.rest_len (r : Rec) (first base : Int) (hk : r.hasKey = false → r.key = []) (hv : r.hasVal = false → r.val = []) : ((r.rest first base).length : Int) = r.body first base := by
  have h1 := bat.field_len r.hasKey r.key hk
  have h2 := bat.field_len r.hasVal r.val hv
  have h3 : (num.put (r.time - first)).length = num.widI (r.time - first) := num.put_len _
  have h4 : (num.put (r.off - base)).length = num.widI (r.off - base) := num.put_len _
  unfold Rec.rest Rec.body
  simp only [List.length_append]
  omega
theorem Rec.rest_bytes (r : Rec) (first base : Int) (hk : r.hasKey = false → r.key = []) (hv : r.hasVal = false → r.val = []) : num.put ((r.rest first base).length : Int) ++ r.rest first base = r.bytes first base := by
  rw [Rec.rest_len r first base hk hv]
  unfold Rec.rest Rec.bytes
  simp only [List.append_assoc]

theorem Acc.up {w3 w1 w : World} {v : Value} {L : List Nat} (h : Acc w1 v L w) (h1 : Below w3.heap.size w3 w1) : Acc w3 v L w := ⟨ownsRow_base h.1 h1.size, h1.trans (h.2.mono h1.size)⟩

/-- The records' flags agree with their bytes. -/
def Bat.flags (b : Bat) : Prop := ∀ r ∈ b.recs, (r.hasKey = false → r.key = []) ∧ (r.hasVal = false → r.val = [])

end Go.Proofs.Ytkkpbnhagobhmaa

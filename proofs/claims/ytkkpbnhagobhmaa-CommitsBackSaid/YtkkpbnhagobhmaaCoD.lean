/- A slice of one record, built. -/
import Derived.BigQuiet
import Derived.Test.YtkkpbnhagobhmaaCoB
namespace Go.Proofs.Ytkkpbnhagobhmaa
open Go.RowKit Go.Maps
set_option maxRecDepth 100000
theorem co.run_ent (w : World) : (Instr.build 42 #[(0, .string ⟨#[103]⟩), (1, .string ⟨#[116]⟩)]).run Try.prog w = .ok (.agg #[.string ⟨#[103]⟩, .string ⟨#[116]⟩, .int .i64 0, .int .i64 0]) w := by
  go_simp
theorem co.run_zero (w : World) : (Instr.build 37 #[]).run Try.prog w = .ok (.agg #[.int .i64 0, .int .i64 0, .bool false, .slice none 0 0, .bool false, .slice none 0 0]) w := by
  go_simp
theorem co.run_build (w : World) (a b : Int) (c d : Bool) (A B : Option Addr) (n m p q : Nat) :
    (Instr.buildSlice 62 1 #[(0, .agg #[.int .i64 a, .int .i64 b, .bool c, .slice A n p, .bool d, .slice B m q])]).run Try.prog w = .ok (.slice (some ⟨w.heap.size, 0, none⟩) 1 1) (w.alloc (.cells #[.int .i64 a, .int .i64 b, .bool c, .slice A n p, .bool d, .slice B m q] 37)) := by
  go_simp
theorem co.list_build {ops : Array Oper} {rest : List Oper} {o : Oper} {a : Act} {Q : Exit → Act → World → Prop} (w : World) (hgd : o.guard = none) (x : Operand) (ho : o.op = .buildSlice 62 1 #[(0, x)]) (i j : Int) (c d : Bool) (A B : Option Addr) (n m p q : Nat)
    (hx : a.eval x = .agg #[.int .i64 i, .int .i64 j, .bool c, .slice A n p, .bool d, .slice B m q])
    (h : wpList Try.prog ops Q rest (a.put o.dst (.slice (some ⟨w.heap.size, 0, none⟩) 1 1)) (w.alloc (.cells #[.int .i64 i, .int .i64 j, .bool c, .slice A n p, .bool d, .slice B m q] 37))) : wpList Try.prog ops Q (o :: rest) a w := by
  refine wpList_plain hgd fun K hK => ?_
  have hrun := co.run_build w i j c d A B n m p q
  unfold Oper.wp execOp
  simp only [ho, Sem.run_bind, Sem.run_pure, Result.andThen_ok, List.map_toArray, List.map_cons, List.map_nil, hx, hrun]
  exact hK _ _ h
/-- A record of the row, where it lies. -/
theorem co.rec_at {W : World} {B b off j c : Nat} {l : List Rec} (h : RowR W B (.slice (some ⟨b, off, none⟩) j c) l) {m : Nat} {X : Rec} (hx : l[m]? = some X) :
    ∃ Ak nk ck Au nu cu, b < W.heap.size ∧ W.cell? ⟨b, off + m * 6, none⟩ = some (.int .i64 X.off) ∧ W.cell? ⟨b, off + m * 6 + 1, none⟩ = some (.int .i64 X.time) ∧ W.cell? ⟨b, off + m * 6 + 2, none⟩ = some (.bool X.hasKey) ∧
      W.cell? ⟨b, off + m * 6 + 3, none⟩ = some (.slice Ak nk ck) ∧ W.cell? ⟨b, off + m * 6 + 4, none⟩ = some (.bool X.hasVal) ∧ W.cell? ⟨b, off + m * 6 + 5, none⟩ = some (.slice Au nu cu) ∧ nk = X.key.length ∧ At W Ak X.key.length (byteAt X.key) ∧ (∀ x ∈ X.key, x < 256) ∧
      cm.RecV W (.agg #[.int .i64 X.off, .int .i64 X.time, .bool X.hasKey, .slice Ak nk ck, .bool X.hasVal, .slice Au nu cu]) X := by
  obtain ⟨A, c', e, hr⟩ := h.recsV
  obtain ⟨b2, off2, c2, kv, vv, e2, -, -, hb, h0, h1, h2, h3, h4, h5, hk, hv, -⟩ := hr.at' hx
  rw [e2] at e
  obtain ⟨rfl, rfl⟩ : b = b2 ∧ off = off2 := by simp at e; exact ⟨e.1.1, e.1.2⟩
  have hk' := hk
  have hv' := hv
  obtain ⟨Ak, ck, rfl, hk1, -, -, hk2⟩ := hk
  obtain ⟨Au, cu, rfl, -⟩ := hv
  exact ⟨Ak, _, ck, Au, _, cu, hb, h0, h1, h2, h3, h4, h5, rfl, hk1, hk2, _, _, rfl, hk', hv'⟩
theorem co.drop_cons {l : List CAct} {m : Nat} {a : CAct} (h : l[m]? = some a) : l.drop m = a :: l.drop (m + 1) := by
  have hm := (List.getElem?_eq_some_iff.1 h).1
  rw [List.drop_eq_getElem_cons hm]
  congr 1
  exact (List.getElem?_eq_some_iff.1 h).2
/-- What is left to do, where the act is the last of its key, and where it is not. -/
theorem co.step_yes {ac : List CAct} {l : List Rec} (h : co.Ofs ac l) {m : Nat} {a : CAct} {X : Rec} (ha : ac[m]? = some a) (hX : l[m]? = some X) {V S : CTab} (hall : co.all V (co.last (ac.drop m)) = S)
    (hr : ∀ s Y, m < s → s < l.length → l[s]? = some Y → Y.key ≠ X.key) : co.all (V.does a) (co.last (ac.drop (m + 1))) = S := by
  rw [co.drop_cons ha, co.last_no] at hall
  · exact hall
  · rintro ⟨b, hb, hs⟩
    obtain ⟨i, hi⟩ := List.getElem?_of_mem hb
    rw [List.getElem?_drop] at hi
    have hil := (List.getElem?_eq_some_iff.1 hi).1
    have hY : l[m + 1 + i]? = some (l[m + 1 + i]'(by rw [← h.1]; exact hil)) := List.getElem?_eq_getElem _
    exact hr _ _ (by omega) (by rw [← h.1]; exact hil) hY (((h.2 _ _ _ ha hX).key (h.2 _ _ _ hi hY)).2 hs).symm
theorem co.step_no {ac : List CAct} {l : List Rec} (h : co.Ofs ac l) {m : Nat} {a : CAct} {X : Rec} (ha : ac[m]? = some a) (hX : l[m]? = some X) {V S : CTab} (hall : co.all V (co.last (ac.drop m)) = S)
    (hr : ¬ ∀ s Y, m < s → s < l.length → l[s]? = some Y → Y.key ≠ X.key) : co.all V (co.last (ac.drop (m + 1))) = S := by
  rw [co.drop_cons ha, co.last_yes] at hall
  · exact hall
  · refine Classical.byContradiction fun hn => hr fun s Y h1 h2 hY hk => hn ?_
    have hsl : s < ac.length := by rw [h.1]; exact h2
    refine ⟨ac[s]'hsl, List.mem_of_getElem? (i := s - (m + 1)) ?_, ((h.2 _ _ _ ha hX).key (h.2 _ _ _ (List.getElem?_eq_getElem hsl) hY)).1 hk.symm⟩
    rw [List.getElem?_drop, show m + 1 + (s - (m + 1)) = s by omega]
    exact List.getElem?_eq_getElem hsl
end Go.Proofs.Ytkkpbnhagobhmaa

/- The reference's Fold (cordwainref10): it folds records as the document says. -/
import Derived.BigQuiet
import Derived.Deep.QuietTactic
import Derived.Test.YtbbekgliaedigaaFoD
import Derived.Test.YtbbekgliaedigaaPfD
namespace Go.Proofs.Ytbbekgliaedigaa
open Go.RowKit Go.Maps

theorem pf.put_self {l : List PItm} {x : PItm} : x ∈ pf.put l x := by
  unfold pf.put
  simp
theorem FoIs.put {l : List PItm} {rs : List Rec} {r : Rec} {x : PItm} (h : FoIs l rs) (hk : r.hasKey = true) (hv : r.hasVal = true) (hx : x.is = (r.key, r.val, r.off)) : FoIs (pf.put l x) (rs ++ [r]) := by
  have hxk : x.key = strOf r.key := congrArg (fun t : FoV => strOf t.1) hx
  have hr := pf.put_rises h.rises x
  refine ⟨hr, fun y hy => ?_, fun s v hs => ?_, ?_⟩
  · rw [fo.map_snoc]
    by_cases e : y.key = x.key
    · obtain rfl := pf.key_once hr hy pf.put_self e
      unfold fo.one
      rw [if_pos hk, hxk]
      simp [hv, hx]
    · unfold fo.one
      rw [if_pos hk]
      rcases pf.put_mem hy with rfl | hy
      · exact absurd rfl e
      · have h1 := h.says y hy
        rw [if_neg (by rw [← hxk]; exact e)]
        exact h1
  · rw [fo.map_snoc] at hs
    unfold fo.one at hs
    rw [if_pos hk] at hs
    split at hs
    · rename_i e
      exact ⟨x, pf.put_self, by rw [hxk, e]⟩
    · rename_i e
      obtain ⟨y, hy, hys⟩ := h.all s v hs
      exact ⟨y, pf.put_has hy (by rw [hys, hxk]; exact e), hys⟩
  · rw [pf.put_len, List.length_append, List.length_singleton]
    have := h.len
    split <;> omega
/-- A key taken away. -/
def pf.cut (l : List PItm) (s : ByteArray) : List PItm := l.take (pf.place l s) ++ l.drop (pf.place l s + 1)
theorem pf.cut_sub (l : List PItm) (s : ByteArray) : (pf.cut l s).Sublist l := by
  unfold pf.cut
  have h : (l.take (pf.place l s) ++ l.drop (pf.place l s + 1)).Sublist (l.take (pf.place l s) ++ l.drop (pf.place l s)) := List.Sublist.append (List.Sublist.refl _) (by rw [← List.drop_drop]; exact List.drop_sublist _ _)
  rwa [List.take_append_drop] at h
theorem FoIs.skip {l : List PItm} {rs : List Rec} {r : Rec} (h : FoIs l rs) (hm : fo.map (rs ++ [r]) = fo.map rs) : FoIs l (rs ++ [r]) :=
  ⟨h.rises, fun y hy => by rw [hm]; exact h.says y hy, fun s v hs => by rw [hm] at hs; exact h.all s v hs, by rw [List.length_append]; have := h.len; omega⟩
theorem FoIs.nokey {l : List PItm} {rs : List Rec} {r : Rec} (h : FoIs l rs) (hk : r.hasKey = false) : FoIs l (rs ++ [r]) := h.skip (by
  rw [fo.map_snoc]
  unfold fo.one
  rw [if_neg (by rw [hk]; simp)])
theorem FoIs.gone {l : List PItm} {rs : List Rec} {r : Rec} (h : FoIs l rs) (hk : r.hasKey = true) (hv : r.hasVal = false) (hh : pf.has l (strOf r.key) = false) : FoIs l (rs ++ [r]) := h.skip (by
  rw [fo.map_snoc]
  unfold fo.one
  rw [if_pos hk]
  funext s
  split
  · rename_i e
    rw [if_neg (by rw [hv]; simp)]
    cases hm : fo.map rs s with
    | none => rfl
    | some v =>
      obtain ⟨y, hy, hys⟩ := h.all s v hm
      have h1 := (pf.has_mem h.rises (s := strOf r.key)).2 ⟨y, hy, by rw [hys, e]⟩
      rw [hh] at h1
      cases h1
  · rfl)
theorem FoIs.cut {l : List PItm} {rs : List Rec} {r : Rec} (h : FoIs l rs) (hk : r.hasKey = true) (hv : r.hasVal = false) (hh : pf.has l (strOf r.key) = true) : FoIs (pf.cut l (strOf r.key)) (rs ++ [r]) := by
  have hsub := pf.cut_sub l (strOf r.key)
  obtain ⟨z, hz⟩ := pf.has_at hh
  have hzk := pf.has_key hh hz
  have hsplit : l = l.take (pf.place l (strOf r.key)) ++ z :: l.drop (pf.place l (strOf r.key) + 1) := by
    obtain ⟨h1, h2⟩ := List.getElem?_eq_some_iff.1 hz
    rw [← h2, List.getElem_cons_drop, List.take_append_drop]
  have hne : ∀ y ∈ pf.cut l (strOf r.key), y.key ≠ strOf r.key := fun y hy e => by
    have h1 := h.rises
    rw [hsplit] at h1
    obtain ⟨-, h3, h4⟩ := List.pairwise_append.1 h1
    unfold pf.cut at hy
    rcases List.mem_append.1 hy with hy | hy
    · have h5 := h4 y hy z (List.mem_cons_self ..)
      rw [hzk, e, pf.lt_irrefl] at h5
      cases h5
    · have h5 := (List.pairwise_cons.1 h3).1 y hy
      rw [hzk, e, pf.lt_irrefl] at h5
      cases h5
  have hm : ∀ s, fo.map (rs ++ [r]) s = if s = strOf r.key then none else fo.map rs s := fun s => by
    rw [fo.map_snoc]
    unfold fo.one
    rw [if_pos hk]
    by_cases e : s = strOf r.key
    · simp [e, hv]
    · simp [e]
  refine ⟨h.rises.sublist hsub, fun y hy => ?_, fun s v hs => ?_, ?_⟩
  · rw [hm, if_neg (hne y hy)]
    exact h.says y (hsub.subset hy)
  · rw [hm] at hs
    split at hs
    · cases hs
    · rename_i e
      obtain ⟨y, hy, hys⟩ := h.all s v hs
      refine ⟨y, ?_, hys⟩
      rw [hsplit] at hy
      unfold pf.cut
      rcases List.mem_append.1 hy with hy | hy
      · exact List.mem_append_left _ hy
      · rcases List.mem_cons.1 hy with rfl | hy
        · exact absurd (hys.symm.trans hzk) e
        · exact List.mem_append_right _ hy
  · have h1 := hsub.length_le
    have h2 := h.len
    rw [List.length_append]
    omega
/-- What two folds of the same records say. -/
theorem FoIs.same {l1 l2 : List PItm} {rs : List Rec} (h1 : FoIs l1 rs) (h2 : FoIs l2 rs) : l1.map (fun x => (x.key, x.is)) = l2.map (fun x => (x.key, x.is)) := by
  have hk : l1.map PItm.key = l2.map PItm.key := pf.rising_eq _ _ (List.pairwise_map.2 h1.rises) (List.pairwise_map.2 h2.rises) fun s => by
    rw [List.mem_map, List.mem_map]
    constructor
    · rintro ⟨x, hx, rfl⟩
      exact h2.all _ _ (h1.says x hx)
    · rintro ⟨x, hx, rfl⟩
      exact h1.all _ _ (h2.says x hx)
  have e : ∀ {l : List PItm}, FoIs l rs → l.map (fun x => (x.key, x.is)) = (l.map PItm.key).map fun s => (s, (fo.map rs s).getD ([], [], 0)) := fun {l} h => by
    rw [List.map_map]
    refine List.map_congr_left fun x hx => ?_
    show (x.key, x.is) = (x.key, (fo.map rs x.key).getD ([], [], 0))
    rw [h.says x hx]
    rfl
  rw [e h1, e h2, hk]

section
variable {P : Program} {ops : Array Oper} {S : World → Prop}
theorem wpQuiet_of {Q : Act → Prop} {o : Oper} {rest : List Oper} {a : Act} (hg : o.guard = none) (v : Value) (h : ∀ w, S w → (execOp a.eval o).run P w = .ok (.value v) w) (hk : wpQuiet P ops S Q rest (a.put o.dst v)) : wpQuiet P ops S Q (o :: rest) a := by
  unfold wpQuiet
  rw [if_pos (by simp [Region.wanted, hg])]
  refine ⟨v, fun w hw => ?_, hk⟩
  unfold Oper.quietAt
  rw [h w hw]
  exact ⟨rfl, rfl⟩
end
/-- A slice of a row of pairs, in a quiet region. -/
theorem pf.quiet_slice {ops : Array Oper} {S : World → Prop} {Q : Act → Prop} {rest : List Oper} {o : Oper} {a : Act} (hgd : o.guard = none) (x : Operand) (lo hi : Option Operand)
    (ho : o.op = .slice 33 x lo hi none) (A : Option Addr) (n c l h : Nat) (hx : a.eval x = .slice A n c) (hlo : (lo.map a.eval = none ∧ l = 0) ∨ lo.map a.eval = some (.int .i64 (l : Int))) (hhi : (hi.map a.eval = none ∧ h = n) ∨ hi.map a.eval = some (.int .i64 (h : Int))) (hlh : l ≤ h) (hhn : h ≤ n) (hnc : n ≤ c)
    (hQ : ∀ A' c', (∀ wx (L : List PItm), L.length = n → PAt wx A L → PAt wx A' ((L.drop l).take (h - l))) → h - l ≤ c' → c' ≤ c → wpQuiet Try.prog ops S Q rest (a.put o.dst (.slice A' (h - l) c'))) : wpQuiet Try.prog ops S Q (o :: rest) a := by
  obtain ⟨i0, hi', hz0, hz1, hz2⟩ := info_parts infoPair
  obtain ⟨A', hr, hA⟩ : ∃ A', (∀ w, (Instr.sliceAt 33 (.slice A n c) (lo.map a.eval) (hi.map a.eval) none).run Try.prog w = .ok (.slice A' (h - l) (c - l)) w) ∧ ((A' = A.map fun a => a.add (l * 3)) ∨ h - l = 0) := by
    have h1 : (0 : Int) ≤ (l : Int) ∧ (l : Int) ≤ (h : Int) := by omega
    have h2 : (0 : Int) ≤ (h : Int) ∧ (h : Int) ≤ (c : Int) := by omega
    refine ⟨if c = l then A else A.map fun a => a.add (l * 3), fun w => ?_, ?_⟩
    · generalize lo.map a.eval = low at *
      generalize hi.map a.eval = high at *
      rcases hlo with ⟨rfl, rfl⟩ | rfl <;> rcases hhi with ⟨rfl, rfl⟩ | rfl <;>
        simp [Instr.sliceAt, Instr.slice, Instr.sliceBounds, Instr.sliceBound, run_underlying Try.underlying33, sizeOf, typeInfo, hi', hz1, asIntOf, hlh, Nat.le_trans hhn hnc]
      all_goals (have hq := Nat.le_trans hhn hnc; intros; omega)
    · by_cases e : c = l
      · exact .inr (by omega)
      · rw [if_neg e]
        exact .inl rfl
  refine wpQuiet_of hgd (.slice A' (h - l) (c - l)) (fun w _ => ?_) (hQ A' (c - l) (fun wx L hL hat => ?_) (by omega) (by omega))
  · unfold execOp
    simp only [ho, hx, Option.map_none, Sem.run_bind, Result.andThen_ok, hr, Sem.run_pure]
  · rcases hA with rfl | h0
    · exact (hat.drop l).take _
    · intro hn; rw [List.length_take] at hn; omega
end Go.Proofs.Ytbbekgliaedigaa

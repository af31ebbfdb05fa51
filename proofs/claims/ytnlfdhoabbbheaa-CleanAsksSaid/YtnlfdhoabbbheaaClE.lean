/- clean.All: segments, pure and as they lie. -/
import Derived.Test.YtnlfdhoabbbheaaClZ
import Derived.Test.YtnlfdhoabbbheaaKbA
namespace Go.Proofs.Ytnlfdhoabbbheaa
open Go.RowKit Go.Maps
set_option maxRecDepth 20000

theorem cl.flat_app (a b : List Bat) : rc.flat (a ++ b) = rc.flat a ++ rc.flat b := by unfold rc.flat; rw [List.map_append, List.flatten_append]
theorem cl.bone {w : World} {cs : List Value} {b : Bat} (h : BatR w cs b) : ∀ (k : Nat) (v : Value), cs[k]? = some v → v.oneCell' = true := by
  obtain ⟨v, rfl, ⟨A, c, V, rfl, -⟩, -⟩ := h
  intro k u hk
  match k, hk with
  | 0, hk | 1, hk | 2, hk | 3, hk | 4, hk | 5, hk => cases hk; rfl
  | k + 6, hk => simp at hk
theorem cl.ones {w : World} {bs : List Bat} {V : Nat → Value} (h : ∀ (i : Nat) (b : Bat), bs[i]? = some b → BatR w (cellsAt V i 6) b) : ∀ j, j < bs.length * 6 → (V j).oneCell' = true := fun j hj => by
  have hi : j / 6 < bs.length := by omega
  have e : j / 6 * 6 + j % 6 = j := by omega
  have h1 := cellsAt_get V (j / 6) 6 (j % 6) (by omega)
  rw [e] at h1
  exact cl.bone (h _ _ (List.getElem?_eq_getElem hi)) _ _ h1
/-- A row of batches, their bytes where they lay. -/
def cl.BRow (w : World) (xs : List Value) (l : List Bat) : Prop := xs.length = l.length * 6 ∧ ∀ (i : Nat) (b : Bat), l[i]? = some b → BatR w (cellsAt (fun j => xs.getD j undef) i 6) b
theorem cl.BRow.nil (w : World) : cl.BRow w [] [] := ⟨rfl, fun i b h => by simp at h⟩
theorem cl.BRow.append {w : World} {xs ys : List Value} {l m : List Bat} (h : cl.BRow w xs l) (g : cl.BRow w ys m) : cl.BRow w (xs ++ ys) (l ++ m) := by
  obtain ⟨h1, h2⟩ := h
  obtain ⟨g1, g2⟩ := g
  refine ⟨by rw [List.length_append, List.length_append, h1, g1]; omega, fun i b hi => ?_⟩
  by_cases hlt : i < l.length
  · rw [List.getElem?_append_left hlt] at hi
    rw [show cellsAt (fun j => (xs ++ ys).getD j undef) i 6 = cellsAt (fun j => xs.getD j undef) i 6 from cellsAt_congr fun k hk => by
      rw [List.getD_eq_getElem?_getD, List.getElem?_append_left (by omega), List.getD_eq_getElem?_getD]]
    exact h2 i b hi
  · rw [List.getElem?_append_right (by omega)] at hi
    rw [show cellsAt (fun j => (xs ++ ys).getD j undef) i 6 = cellsAt (fun j => ys.getD j undef) (i - l.length) 6 from cellsAt_congr fun k hk => by
      rw [List.getD_eq_getElem?_getD, List.getElem?_append_right (by omega), List.getD_eq_getElem?_getD, show i * 6 + k - xs.length = (i - l.length) * 6 + k from by omega]]
    exact g2 _ b hi
theorem cl.BRow.of {w : World} {l : List Bat} {V : Nat → Value} (h : ∀ (i : Nat) (b : Bat), l[i]? = some b → BatR w (cellsAt V i 6) b) : cl.BRow w (cellsOf (l.length * 6) V) l := by
  refine ⟨cellsOf_len _ _, fun i b hi => ?_⟩
  have hid := (List.getElem?_eq_some_iff.1 hi).1
  rw [show cellsAt (fun j => (cellsOf (l.length * 6) V).getD j undef) i 6 = cellsAt V i 6 from cellsAt_congr fun k hk => by
    rw [List.getD_eq_getElem?_getD, cellsOf_get _ _ _ (by omega)]
    rfl]
  exact h i b hi
theorem cl.BRow.bats {w wx : World} {xs : List Value} {l : List Bat} {v : Value} {B n : Nat} (h : cl.BRow w xs l) (hb : Below w.heap.size w wx) (hn : l.length = n) (ho : wx.ownsRow B 46 6 v n xs) : ∃ A c, v = .slice A n c ∧ n ≤ c ∧ c ≤ maxLen ∧ BatsAt wx A l := by
  have hv := own_at ho
  obtain ⟨A, c, rfl, hc, hat⟩ := hv
  exact ⟨A, c, rfl, hc, own_cap ho, _, by rw [hn]; exact hat, fun i b hi => (h.2 i b hi).below hb (Nat.le_refl _)⟩

/-- Segments lie at A. -/
def cl.SegsAt (w : World) (A : Option Addr) (ss : List (List Bat)) : Prop :=
  ∃ V, At w A ss.length V ∧ ∀ (i : Nat) (bs : List Bat), ss[i]? = some bs → ∃ B c, V i = .slice B bs.length c ∧ bs.length ≤ c ∧ c ≤ maxLen ∧ BatsAt w B bs
theorem cl.SegsAt.below {w w' : World} {A : Option Addr} {ss : List (List Bat)} {B : Nat} (h : cl.SegsAt w A ss) (hb : Below B w w') (hB : w.heap.size ≤ B) : cl.SegsAt w' A ss := by
  obtain ⟨V, h1, h2⟩ := h
  refine ⟨V, h1.below hb hB, fun i bs hi => ?_⟩
  obtain ⟨D, c, e1, e2, e3, e4⟩ := h2 i bs hi
  exact ⟨D, c, e1, e2, e3, e4.below hb hB⟩
theorem cl.SegsAt.at' {w : World} {A : Option Addr} {ss : List (List Bat)} (h : cl.SegsAt w A ss) {i : Nat} {bs : List Bat} (hi : ss[i]? = some bs) :
    ∃ b off D c, A = some ⟨b, off, none⟩ ∧ b < w.heap.size ∧ w.cell? ⟨b, off + i, none⟩ = some (.slice D bs.length c) ∧ bs.length ≤ c ∧ c ≤ maxLen ∧ BatsAt w D bs := by
  obtain ⟨V, h1, h2⟩ := h
  have hid := (List.getElem?_eq_some_iff.1 hi).1
  obtain ⟨b, off, hA, hb, hc⟩ := h1 (by omega)
  obtain ⟨D, c, e1, e2, e3, e4⟩ := h2 i bs hi
  exact ⟨b, off, D, c, hA, hb, by rw [hc i hid, e1], e2, e3, e4⟩

/-- What is left of segment i, of n. -/
def cl.seg (F : Rec → Bool) (ss : List (List Bat)) (i : Nat) : List Bat := if i + 1 = ss.length then ss.getD i [] else ps.all F (ss.getD i [])
def cl.outs (F : Rec → Bool) (ss : List (List Bat)) (k : Nat) : List (List Bat) := (List.range k).map (cl.seg F ss)
def cl.gone (F : Rec → Bool) (ss : List (List Bat)) (k : Nat) : Int := ((List.range k).map fun i => ((rc.flat (ss.getD i [])).length : Int) - ((rc.flat (cl.seg F ss i)).length : Int)).sum
theorem cl.outs_len (F : Rec → Bool) (ss : List (List Bat)) (k : Nat) : (cl.outs F ss k).length = k := by unfold cl.outs; simp
theorem cl.outs_succ (F : Rec → Bool) (ss : List (List Bat)) (k : Nat) : cl.outs F ss (k + 1) = cl.outs F ss k ++ [cl.seg F ss k] := by
  unfold cl.outs
  rw [List.range_succ, List.map_append]
  rfl
theorem cl.gone_succ (F : Rec → Bool) (ss : List (List Bat)) (k : Nat) : cl.gone F ss (k + 1) = cl.gone F ss k + (((rc.flat (ss.getD k [])).length : Int) - ((rc.flat (cl.seg F ss k)).length : Int)) := by
  unfold cl.gone
  rw [List.range_succ, List.map_append, List.sum_append]
  simp

/-- A row of segments as it grows, each in blocks of its own. -/
def cl.Outs (B : Nat) (w : World) (v : Value) (xs : List Value) (l : List (List Bat)) : Prop :=
  ∀ (i : Nat) (bs : List Bat), l[i]? = some bs → ∃ A c, xs[i]? = some (.slice A bs.length c) ∧ bs.length ≤ c ∧ c ≤ maxLen ∧ Dep (fun q => B ≤ q ∧ v.ownBlock ≠ some q) w (fun U => BatsAt U A bs)
theorem cl.Outs.below {B : Nat} {w w' : World} {v : Value} {xs : List Value} {l : List (List Bat)} (h : cl.Outs B w v xs l) (hb : Below w.heap.size w w') : cl.Outs B w' v xs l := fun i bs hi => by
  obtain ⟨A, c, h1, h2, h3, h4⟩ := h i bs hi
  exact ⟨A, c, h1, h2, h3, h4.below hb⟩
theorem cl.Outs.snoc {B : Nat} {w w' : World} {v v' : Value} {xs : List Value} {l : List (List Bat)} {bs : List Bat} {A : Option Addr} {c : Nat} (h : cl.Outs B w v xs l) (hx : xs.length = l.length) (h1 : bs.length ≤ c) (h2 : c ≤ maxLen)
    (hd : Dep (fun q => B ≤ q ∧ v.ownBlock ≠ some q) w (fun U => BatsAt U A bs)) (hg : w.grownBy w' v.ownBlock) (hl : v'.ownBlock = v.ownBlock ∨ v'.ownBlock = some w.heap.size) : cl.Outs B w' v' (xs ++ [.slice A bs.length c]) (l ++ [bs]) := by
  have hmove : ∀ {P : World → Prop}, Dep (fun q => B ≤ q ∧ v.ownBlock ≠ some q) w P → Dep (fun q => B ≤ q ∧ v'.ownBlock ≠ some q) w' P := fun h => h.move (fun k o hz ho _ => ⟨(hg.block k (heap_in ho) fun e => hz.2 e.symm).trans ho, hz.1, fun e => by
    rcases hl with h | h
    · exact hz.2 (h ▸ e)
    · rw [h] at e
      have e1 : w.heap.size = k := by simpa using e
      have := heap_in ho
      omega⟩) hg.size
  intro i x hi
  by_cases hlt : i < l.length
  · rw [List.getElem?_append_left hlt] at hi
    obtain ⟨A', c', e1, e2, e3, e4⟩ := h i x hi
    exact ⟨A', c', by rw [List.getElem?_append_left (by omega)]; exact e1, e2, e3, hmove e4⟩
  · have hi' := (List.getElem?_eq_some_iff.1 hi).1
    rw [List.length_append, List.length_singleton] at hi'
    obtain rfl : i = l.length := by omega
    rw [List.getElem?_append_right (by omega), Nat.sub_self] at hi
    obtain rfl : bs = x := by simpa using hi
    exact ⟨A, c, by rw [List.getElem?_append_right (by omega), hx, Nat.sub_self]; rfl, h1, h2, hmove hd⟩
theorem cl.Outs.segs {B B2 : Nat} {w : World} {v : Value} {xs : List Value} {l : List (List Bat)} {n : Nat} (h : cl.Outs B w v xs l) (hn : l.length = n) (ho : w.ownsRow B2 31 1 v n xs) : ∃ A c, v = .slice A n c ∧ n ≤ c ∧ c ≤ maxLen ∧ cl.SegsAt w A l := by
  have hv := own_at ho
  obtain ⟨A, c, rfl, hc, hat⟩ := hv
  refine ⟨A, c, rfl, hc, own_cap ho, fun j => xs.getD j undef, by rw [hn]; rw [Nat.mul_one] at hat; exact hat, fun i bs hi => ?_⟩
  obtain ⟨A', c', e1, e2, e3, e4⟩ := h i bs hi
  exact ⟨A', c', by show xs.getD i undef = _; rw [List.getD_eq_getElem?_getD, e1]; rfl, e2, e3, e4.now⟩
end Go.Proofs.Ytnlfdhoabbbheaa

/- FoldWhole: good batches' records rise; what is left of two windows one behind the other is the whole. -/
import Derived.Test.YtbbekgliaedigaaCkR
import Derived.Test.YtbbekgliaedigaaRsA
namespace Go.Proofs.Ytbbekgliaedigaa
open Go.RowKit

abbrev fw.Asc (l : List Rec) : Prop := l.Pairwise fun a b => a.off < b.off
theorem fw.chks_rise {last : Int} : ∀ (rs : List Rec) (ahead : Int), bat.chks last ahead rs = 0 → (∀ r ∈ rs, ahead < r.off ∧ r.off ≤ last) ∧ fw.Asc rs
  | [], _, _ => ⟨fun r hr => (by cases hr), List.Pairwise.nil⟩
  | x :: xs, ahead, h => by
    rw [bat.chks_cons] at h
    split at h
    · cases h
    · rename_i hx
      split at h
      · rename_i hc
        exact absurd h hc
      · obtain ⟨h1, h2⟩ := fw.chks_rise xs x.off h
        refine ⟨fun r hr => ?_, List.Pairwise.cons (fun r hr => (h1 r hr).1) h2⟩
        rcases List.mem_cons.1 hr with rfl | hr
        · omega
        · have := h1 r hr
          omega
theorem fw.check_rise {b : Bat} (h : b.check = 0) : 0 ≤ b.base ∧ b.base ≤ b.last ∧ b.last ≤ 4611686018427387904 ∧ (∀ r ∈ b.recs, b.base ≤ r.off ∧ r.off ≤ b.last) ∧ fw.Asc b.recs := by
  unfold Bat.check at h
  split at h
  · cases h
  · rename_i hm
    have hm := Classical.not_not.1 hm
    unfold Bat.may at hm
    split at h
    · cases h
    · split at h
      · rename_i hc
        exact absurd h hc
      · rename_i hc
        obtain ⟨h1, h2⟩ := fw.chks_rise b.recs (b.base - 1) (Classical.not_not.1 hc)
        exact ⟨hm.1, hm.2.2.1, hm.2.2.2.1, fun r hr => by have := h1 r hr; omega, h2⟩
/-- The first k batches are good, one behind the other. -/
def fw.Up (bs : List Bat) (k : Nat) : Prop := fw.Asc (rc.flat (bs.take k)) ∧ ∀ r ∈ rc.flat (bs.take k), 0 ≤ r.off ∧ r.off ≤ 4611686018427387904 ∧ ∀ b, 0 < k → bs[k - 1]? = some b → r.off ≤ b.last
theorem fw.up_zero (bs : List Bat) : fw.Up bs 0 := ⟨by rw [List.take_zero]; exact List.Pairwise.nil, fun r hr => by rw [List.take_zero] at hr; cases hr⟩
theorem fw.up_succ {bs : List Bat} {k : Nat} {b : Bat} (h : fw.Up bs k) (hb : bs[k]? = some b) (hc : b.check = 0) (hl : ∀ a, 0 < k → bs[k - 1]? = some a → a.last < b.base) : fw.Up bs (k + 1) := by
  obtain ⟨h1, h2⟩ := h
  obtain ⟨c1, c2, c3, c4, c5⟩ := fw.check_rise hc
  obtain ⟨hk, -⟩ := List.getElem?_eq_some_iff.1 hb
  have hcross : ∀ r ∈ rc.flat (bs.take k), r.off < b.base := fun r hr => by
    rcases Nat.eq_zero_or_pos k with h0 | h0
    · subst h0
      rw [List.take_zero] at hr
      cases hr
    · obtain ⟨a, ha⟩ : ∃ a, bs[k - 1]? = some a := ⟨_, List.getElem?_eq_getElem (by omega)⟩
      have e1 := hl a h0 ha
      have e2 := (h2 r hr).2.2 a h0 ha
      omega
  unfold fw.Up
  rw [rc.flat_take hb]
  refine ⟨List.pairwise_append.2 ⟨h1, c5, fun r hr s hs => ?_⟩, fun r hr => ?_⟩
  · have e1 := hcross r hr
    have e2 := (c4 s hs).1
    omega
  · have hlast : ∀ x, bs[k + 1 - 1]? = some x → x = b := fun x hx => by rw [Nat.add_sub_cancel, hb] at hx; exact (Option.some.inj hx).symm
    rcases List.mem_append.1 hr with hr | hr
    · have e1 := h2 r hr
      have e2 := hcross r hr
      exact ⟨e1.1, e1.2.1, fun x _ hx => by rw [hlast x hx]; omega⟩
    · have e1 := c4 r hr
      exact ⟨by omega, by omega, fun x _ hx => by rw [hlast x hx]; exact e1.2⟩
theorem fw.flat_all (f t : Int) : ∀ bs : List Bat, rc.flat (rs.all f t bs) = (rc.flat bs).filter (rs.in f t)
  | [] => rfl
  | b :: bs => by
    have ih := fw.flat_all f t bs
    have h1 : rc.flat (b :: bs) = b.recs ++ rc.flat bs := by unfold rc.flat; rw [List.map_cons, List.flatten_cons]
    rw [h1, List.filter_append, ← ih]
    unfold rs.all
    rw [List.map_cons]
    by_cases h : 0 < (rs.cut f t b).recs.length
    · rw [List.filter_cons_of_pos (by simpa using h)]
      unfold rc.flat
      rw [List.map_cons, List.flatten_cons]
      rfl
    · rw [List.filter_cons_of_neg (by simpa using h)]
      have e : b.recs.filter (rs.in f t) = [] := List.length_eq_zero_iff.1 (by have : (rs.cut f t b).recs = b.recs.filter (rs.in f t) := rfl; rw [← this]; omega)
      rw [e, List.nil_append]
theorem fw.flat_app (a b : List Bat) : rc.flat (a ++ b) = rc.flat a ++ rc.flat b := by unfold rc.flat; rw [List.map_append, List.flatten_append]
theorem fw.split {t m : Int} : ∀ l : List Rec, fw.Asc l → (∀ r ∈ l, 0 ≤ r.off ∧ r.off < m) → l.filter (rs.in 0 t) ++ l.filter (rs.in t m) = l
  | [], _, _ => rfl
  | x :: xs, ha, hl => by
    obtain ⟨h1, h2⟩ := List.pairwise_cons.1 ha
    have hx := hl x (List.mem_cons_self ..)
    have hxs := fun r hr => hl r (List.mem_cons_of_mem _ hr)
    by_cases hlt : x.off < t
    · have e1 : rs.in 0 t x = true := by simp [rs.in]; omega
      have e2 : ¬ rs.in t m x = true := by simp [rs.in]; omega
      rw [List.filter_cons_of_pos e1, List.filter_cons_of_neg e2, List.cons_append, fw.split xs h2 hxs]
    · have e1 : (x :: xs).filter (rs.in 0 t) = [] := List.filter_eq_nil_iff.2 fun r hr => by
        rcases List.mem_cons.1 hr with rfl | hr
        · simp [rs.in]; omega
        · have := h1 r hr
          simp [rs.in]; omega
      have e2 : (x :: xs).filter (rs.in t m) = x :: xs := List.filter_eq_self.2 fun r hr => by
        have := hl r hr
        rcases List.mem_cons.1 hr with rfl | hr
        · simp [rs.in]; omega
        · have := h1 r hr
          simp [rs.in]; omega
      rw [e1, e2, List.nil_append]
theorem fw.whole {bs : List Bat} {t : Int} (h : fw.Up bs bs.length) : rc.flat (rs.all 0 t bs ++ rs.all t 4611686018427387905 bs) = rc.flat bs := by
  unfold fw.Up at h
  rw [List.take_length] at h
  rw [fw.flat_app, fw.flat_all, fw.flat_all]
  exact fw.split _ h.1 fun r hr => by have := h.2 r hr; omega

theorem BatR.one {w : World} {cs : List Value} {b : Bat} (h : BatR w cs b) : ∀ (k : Nat) (v : Value), cs[k]? = some v → v.oneCell' = true := by
  obtain ⟨v, rfl, ⟨A, c, V, rfl, -⟩, -⟩ := h
  intro k u hk
  match k, hk with
  | 0, hk | 1, hk | 2, hk | 3, hk | 4, hk | 5, hk => cases hk; rfl
  | k + 6, hk => simp at hk
theorem fw.ones {w : World} {bs : List Bat} {V : Nat → Value} (h : ∀ (i : Nat) (b : Bat), bs[i]? = some b → BatR w (cellsAt V i 6) b) : ∀ j, j < bs.length * 6 → (V j).oneCell' = true := fun j hj => by
  have hi : j / 6 < bs.length := by omega
  have e : j / 6 * 6 + j % 6 = j := by omega
  have h1 := cellsAt_get V (j / 6) 6 (j % 6) (by omega)
  rw [e] at h1
  exact (h _ _ (List.getElem?_eq_getElem hi)).one _ _ h1
theorem fw.join {w w' : World} {a d : List Bat} {V1 V2 : Nat → Value} {v : Value} {B : Nat} (h1 : ∀ (i : Nat) (b : Bat), a[i]? = some b → BatR w (cellsAt V1 i 6) b) (h2 : ∀ (i : Nat) (b : Bat), d[i]? = some b → BatR w (cellsAt V2 i 6) b) (hw : Below w.heap.size w w')
    (ho : w'.ownsRow B 47 6 v (a.length + d.length) (cellsOf (a.length * 6) V1 ++ cellsOf (d.length * 6) V2)) : ∃ A c, v = .slice A (a ++ d).length c ∧ c ≤ maxLen ∧ BatsAt w' A (a ++ d) := by
  obtain ⟨A, c, rfl, -, hat⟩ := own_at ho
  refine ⟨A, c, by rw [List.length_append], ?_, fun j => (cellsOf (a.length * 6) V1 ++ cellsOf (d.length * 6) V2).getD j undef, by rw [List.length_append]; exact hat, fun i b hi => ?_⟩
  · exact own_cap ho
  · have hl1 : (cellsOf (a.length * 6) V1).length = a.length * 6 := by simp [cellsOf]
    by_cases hlt : i < a.length
    · rw [List.getElem?_append_left hlt] at hi
      have := (h1 i b hi).below hw (Nat.le_refl _)
      rwa [show cellsAt (fun j => (cellsOf (a.length * 6) V1 ++ cellsOf (d.length * 6) V2).getD j undef) i 6 = cellsAt V1 i 6 from cellsAt_congr fun k hk => by
        rw [List.getD_eq_getElem?_getD, List.getElem?_append_left (by rw [hl1]; omega)]
        simp only [cellsOf]
        rw [List.getElem?_map, List.getElem?_range (by omega)]
        rfl]
    · rw [List.getElem?_append_right (by omega)] at hi
      have hid := (List.getElem?_eq_some_iff.1 hi).1
      have := (h2 _ b hi).below hw (Nat.le_refl _)
      rwa [show cellsAt (fun j => (cellsOf (a.length * 6) V1 ++ cellsOf (d.length * 6) V2).getD j undef) i 6 = cellsAt V2 (i - a.length) 6 from cellsAt_congr fun k hk => by
        rw [List.getD_eq_getElem?_getD, List.getElem?_append_right (by rw [hl1]; omega), hl1]
        simp only [cellsOf]
        rw [List.getElem?_map, show i * 6 + k - a.length * 6 = (i - a.length) * 6 + k from by omega, List.getElem?_range (by omega)]
        rfl]
end Go.Proofs.Ytbbekgliaedigaa

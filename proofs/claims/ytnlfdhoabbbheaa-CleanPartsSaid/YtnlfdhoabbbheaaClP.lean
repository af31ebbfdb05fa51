/- Segments that a log may have: what is so of them. No function of the program is named. -/
import Derived.Test.YtnlfdhoabbbheaaClE
import Derived.Test.YtnlfdhoabbbheaaCkR
import Derived.Test.YtnlfdhoabbbheaaKbW
import Derived.Test.YtnlfdhoabbbheaaKcA
namespace Go.Proofs.Ytnlfdhoabbbheaa
open Go.RowKit
set_option maxRecDepth 20000

theorem cp.chks_rise {last : Int} : ∀ (rs : List Rec) (ahead : Int), bat.chks last ahead rs = 0 → ∀ r ∈ rs, ahead < r.off ∧ r.off ≤ last ∧ r.chk = 0
  | [], _, _ => fun r hr => (by cases hr)
  | x :: xs, ahead, h => by
    rw [bat.chks_cons] at h
    split at h
    · cases h
    · rename_i hx
      split at h
      · rename_i hc
        exact absurd h hc
      · rename_i hc
        have h1 := cp.chks_rise xs x.off h
        intro r hr
        rcases List.mem_cons.1 hr with rfl | hr
        · exact ⟨by omega, by omega, Classical.not_not.1 hc⟩
        · obtain ⟨h2, h3, h4⟩ := h1 r hr
          exact ⟨by omega, h3, h4⟩
theorem cp.rok {b : Bat} {last : Int} (hl : last = b.last) : ∀ (rs : List Rec) (ahead l : Int), bat.chks last ahead rs = 0 → b.base - 1 ≤ ahead → l ≤ ahead → l ≤ b.last → kc.ROk b l rs
  | [], _, _, _, _, _, h => h
  | x :: xs, ahead, l, h, h1, h2, h3 => by
    rw [bat.chks_cons] at h
    split at h
    · cases h
    · rename_i hx
      split at h
      · rename_i hc
        exact absurd h hc
      · exact ⟨⟨by omega, by omega, by omega⟩, cp.rok hl xs x.off x.off h (by omega) (Int.le_refl _) (by omega)⟩
/-- What a batch that may be says of itself. -/
theorem cp.check {b : Bat} (h : b.check = 0) : 0 ≤ b.base ∧ b.base ≤ b.last ∧ b.last ≤ 4611686018427387904 ∧ (∀ r ∈ b.recs, 0 ≤ r.time ∧ r.time ≤ 1125899906842624) ∧ ∀ l, l < b.base → kc.ROk b l b.recs := by
  unfold Bat.check at h
  split at h
  · cases h
  · rename_i hm
    have hm := Classical.not_not.1 hm
    unfold Bat.may at hm
    split at h
    · cases h
    · split at h
      · rename_i hc
        exact absurd h hc
      · rename_i hc
        have hc := Classical.not_not.1 hc
        refine ⟨hm.1, hm.2.2.1, hm.2.2.2.1, fun r hr => ?_, fun l hl => cp.rok rfl b.recs (b.base - 1) l hc (Int.le_refl _) (by omega) (by have := hm.2.2.1; omega)⟩
        obtain ⟨h1, h2, h3⟩ := cp.chks_rise b.recs _ hc r hr
        have h4 := Rec.chk_ok h3
        exact ⟨h4.1, h4.2.1⟩

/-- Batches that a log may have, from an offset on; the last one's end. -/
def cp.Good : Int → List Bat → Prop
  | _, [] => True
  | l, b :: bs => (l < b.base ∧ b.check = 0 ∧ 0 < b.recs.length ∧ b.recs.length ≤ 100) ∧ cp.Good b.last bs
def cp.end (l : Int) (bs : List Bat) : Int := (bs.getLast?.map Bat.last).getD l
theorem cp.end_snoc (l : Int) (bs : List Bat) (b : Bat) : cp.end l (bs ++ [b]) = b.last := by unfold cp.end; simp
theorem cp.end_cons (l m : Int) (x y : Bat) (bs : List Bat) : cp.end l (x :: y :: bs) = cp.end m (y :: bs) := by
  unfold cp.end
  rw [List.getLast?_cons_cons]
  cases h : (y :: bs).getLast? with
  | none => simp at h
  | some z => rfl
theorem cp.Good.snoc {b : Bat} : ∀ {bs : List Bat} {l : Int}, cp.Good l bs → cp.end l bs < b.base → b.check = 0 → 0 < b.recs.length → b.recs.length ≤ 100 → cp.Good l (bs ++ [b])
  | [], l, _, h1, h2, h3, h4 => ⟨⟨h1, h2, h3, h4⟩, trivial⟩
  | [x], l, h, h1, h2, h3, h4 => ⟨h.1, ⟨h1, h2, h3, h4⟩, trivial⟩
  | x :: y :: bs, l, h, h1, h2, h3, h4 => ⟨h.1, cp.Good.snoc (bs := y :: bs) (l := x.last) h.2 (by rw [cp.end_cons l x.last] at h1; exact h1) h2 h3 h4⟩
theorem cp.Good.bok : ∀ {bs : List Bat} {l : Int}, cp.Good l bs → kc.BOk l bs
  | [], _, _ => trivial
  | b :: bs, l, h => by
    obtain ⟨c1, c2, c3, c4, c5⟩ := cp.check h.1.2.1
    exact ⟨⟨h.1.1, c5 l h.1.1, c3⟩, cp.Good.bok h.2⟩
theorem cp.Good.mem : ∀ {bs : List Bat} {l : Int}, cp.Good l bs → ∀ b ∈ bs, l < b.base ∧ b.check = 0 ∧ 0 < b.recs.length ∧ b.recs.length ≤ 100
  | [], _, _, b, hb => by cases hb
  | x :: bs, l, h, b, hb => by
    rcases List.mem_cons.1 hb with rfl | hb
    · exact h.1
    · obtain ⟨h1, h2⟩ := cp.Good.mem h.2 b hb
      obtain ⟨c1, c2, c3, c4, c5⟩ := cp.check h.1.2.1
      exact ⟨by have := h.1.1; omega, h2⟩
theorem cp.Good.apart : ∀ {bs : List Bat} {l : Int}, cp.Good l bs → bs.Pairwise (fun a b => a.last < b.base)
  | [], _, _ => .nil
  | _ :: _, _, h => .cons (fun b hb => (cp.Good.mem h.2 b hb).1) (cp.Good.apart h.2)
theorem cp.Good.append : ∀ {a b : List Bat} {l : Int}, cp.Good l (a ++ b) → cp.Good l a ∧ cp.Good (cp.end l a) b
  | [], b, l, h => ⟨trivial, h⟩
  | [x], b, l, h => ⟨⟨h.1, trivial⟩, h.2⟩
  | x :: y :: a, b, l, h => by
    obtain ⟨h1, h2⟩ := cp.Good.append (a := y :: a) (l := x.last) h.2
    refine ⟨⟨h.1, h1⟩, ?_⟩
    rw [cp.end_cons l x.last]
    exact h2
/-- Segments that a log may have. -/
structure cp.May (ss : List (List Bat)) : Prop where
  len : ss.length ≤ 20
  each : ∀ bs ∈ ss, bs.length ≤ 30
  sum : (ss.flatten.map Bat.weight).sum ≤ 4000
  good : cp.Good (-1) ss.flatten
theorem cp.weight_pos (b : Bat) : 1 ≤ b.weight := by
  have h := weights_ge b.recs
  unfold Bat.weight
  omega
theorem cp.weight_len : ∀ bs : List Bat, (bs.length : Int) ≤ (bs.map Bat.weight).sum
  | [] => by simp
  | b :: bs => by
    have h1 := cp.weight_len bs
    have h2 := cp.weight_pos b
    simp only [List.map_cons, List.sum_cons, List.length_cons]
    omega
theorem cp.weight_one : ∀ (bs : List Bat) (b : Bat), b ∈ bs → b.weight ≤ (bs.map Bat.weight).sum
  | [], b, h => by cases h
  | x :: bs, b, h => by
    have h0 := cp.weight_len bs
    simp only [List.map_cons, List.sum_cons]
    rcases List.mem_cons.1 h with rfl | h
    · omega
    · have := cp.weight_one bs b h
      have := cp.weight_pos x
      omega
theorem cp.bytes (rs : List Rec) (r : Rec) (h : r ∈ rs) : (r.key.length : Int) + (r.val.length : Int) ≤ (rs.map Rec.weight).sum := by
  induction rs with
  | nil => cases h
  | cons x rs ih =>
    have h1 := weights_ge rs
    simp only [List.map_cons, List.sum_cons]
    rcases List.mem_cons.1 h with rfl | h
    · unfold Rec.weight at *
      omega
    · have := ih h
      have := x.weight_pos
      omega
/-- Batches that weigh little are small. -/
theorem cp.small {bs : List Bat} (h : (bs.map Bat.weight).sum ≤ 4000) : bs.length ≤ 4000 ∧ fo.Small bs ∧ (rc.flat bs).length ≤ 4000 ∧ ∀ r ∈ rc.flat bs, r.key.length ≤ 4000 ∧ r.val.length ≤ 4000 := by
  have hb : ∀ b ∈ bs, (b.recs.length : Int) ≤ 4000 ∧ ∀ r ∈ b.recs, (r.key.length : Int) ≤ 4000 ∧ (r.val.length : Int) ≤ 4000 := fun b hb => by
    have h3 := cp.weight_one bs b hb
    have h4 := weights_ge b.recs
    have h5 : b.weight = min (1 + (b.recs.map Rec.weight).sum) 1099511627776 := rfl
    refine ⟨by omega, fun r hr => ?_⟩
    have h6 := cp.bytes b.recs r hr
    omega
  have hf := weight_flat bs _ (Int.le_refl _) h
  have hl := cp.weight_len bs
  refine ⟨by omega, ⟨by omega, fun b h => ⟨by have := (hb b h).1; omega, fun r hr => by have := (hb b h).2 r hr; omega⟩⟩, by have := hf.1; omega, fun r hr => ?_⟩
  unfold rc.flat at hr
  obtain ⟨l, hl, hx⟩ := List.mem_flatten.1 hr
  obtain ⟨b, hbb, rfl⟩ := List.mem_map.1 hl
  have := (hb b hbb).2 r hx
  omega
theorem cp.May.times {ss : List (List Bat)} (h : cp.May ss) : ∀ x ∈ ss.flatten, x.last ≤ 4611686018427387904 ∧ ∀ r ∈ x.recs, 0 ≤ r.time := fun x hx => by
  obtain ⟨c1, c2, c3, c4, c5⟩ := cp.check (cp.Good.mem h.good x hx).2.1
  exact ⟨c3, fun r hr => (c4 r hr).1⟩
end Go.Proofs.Ytnlfdhoabbbheaa

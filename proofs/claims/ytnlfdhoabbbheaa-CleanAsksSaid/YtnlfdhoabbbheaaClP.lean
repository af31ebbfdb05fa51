/- Segments that a log may have; what a cleaning leaves, and another one. -/
import Derived.Test.YtnlfdhoabbbheaaClE
import Derived.Test.YtnlfdhoabbbheaaCkR
import Derived.Test.YtnlfdhoabbbheaaKbW
import Derived.Test.YtnlfdhoabbbheaaKcA
import Derived.Test.YtnlfdhoabbbheaaSmR
namespace Go.Proofs.Ytnlfdhoabbbheaa
section
open Go.RowKit
set_option maxRecDepth 20000

theorem cp.chks_rise {last : Int} : ∀ (rs : List Rec) (ahead : Int), bat.chks last ahead rs = 0 → ∀ r ∈ rs, ahead < r.off ∧ r.off ≤ last ∧ r.chk = 0
  | [], _, _ => fun r hr => (by cases hr)
  | x :: xs, ahead, h => by
    rw [bat.chks_cons] at h
    split at h
    · cases h
    · rename_i hx
      split at h
      · rename_i hc
        exact absurd h hc
      · rename_i hc
        have h1 := cp.chks_rise xs x.off h
        intro r hr
        rcases List.mem_cons.1 hr with rfl | hr
        · exact ⟨by omega, by omega, Classical.not_not.1 hc⟩
        · obtain ⟨h2, h3, h4⟩ := h1 r hr
          exact ⟨by omega, h3, h4⟩
theorem cp.rok {b : Bat} {last : Int} (hl : last = b.last) : ∀ (rs : List Rec) (ahead l : Int), bat.chks last ahead rs = 0 → b.base - 1 ≤ ahead → l ≤ ahead → l ≤ b.last → kc.ROk b l rs
  | [], _, _, _, _, _, h => h
  | x :: xs, ahead, l, h, h1, h2, h3 => by
    rw [bat.chks_cons] at h
    split at h
    · cases h
    · rename_i hx
      split at h
      · rename_i hc
        exact absurd h hc
      · exact ⟨⟨by omega, by omega, by omega⟩, cp.rok hl xs x.off x.off h (by omega) (Int.le_refl _) (by omega)⟩
/-- What a batch that may be says of itself. -/
theorem cp.check {b : Bat} (h : b.check = 0) : 0 ≤ b.base ∧ b.base ≤ b.last ∧ b.last ≤ 4611686018427387904 ∧ (∀ r ∈ b.recs, 0 ≤ r.time ∧ r.time ≤ 1125899906842624) ∧ ∀ l, l < b.base → kc.ROk b l b.recs := by
  unfold Bat.check at h
  split at h
  · cases h
  · rename_i hm
    have hm := Classical.not_not.1 hm
    unfold Bat.may at hm
    split at h
    · cases h
    · split at h
      · rename_i hc
        exact absurd h hc
      · rename_i hc
        have hc := Classical.not_not.1 hc
        refine ⟨hm.1, hm.2.2.1, hm.2.2.2.1, fun r hr => ?_, fun l hl => cp.rok rfl b.recs (b.base - 1) l hc (Int.le_refl _) (by omega) (by have := hm.2.2.1; omega)⟩
        obtain ⟨h1, h2, h3⟩ := cp.chks_rise b.recs _ hc r hr
        have h4 := Rec.chk_ok h3
        exact ⟨h4.1, h4.2.1⟩

/-- Batches that a log may have, from an offset on; the last one's end. -/
def cp.Good : Int → List Bat → Prop
  | _, [] => True
  | l, b :: bs => (l < b.base ∧ b.check = 0 ∧ 0 < b.recs.length ∧ b.recs.length ≤ 100) ∧ cp.Good b.last bs
def cp.end (l : Int) (bs : List Bat) : Int := (bs.getLast?.map Bat.last).getD l
theorem cp.end_snoc (l : Int) (bs : List Bat) (b : Bat) : cp.end l (bs ++ [b]) = b.last := by unfold cp.end; simp
theorem cp.end_cons (l m : Int) (x y : Bat) (bs : List Bat) : cp.end l (x :: y :: bs) = cp.end m (y :: bs) := by
  unfold cp.end
  rw [List.getLast?_cons_cons]
  cases h : (y :: bs).getLast? with
  | none => simp at h
  | some z => rfl
theorem cp.Good.snoc {b : Bat} : ∀ {bs : List Bat} {l : Int}, cp.Good l bs → cp.end l bs < b.base → b.check = 0 → 0 < b.recs.length → b.recs.length ≤ 100 → cp.Good l (bs ++ [b])
  | [], l, _, h1, h2, h3, h4 => ⟨⟨h1, h2, h3, h4⟩, trivial⟩
  | [x], l, h, h1, h2, h3, h4 => ⟨h.1, ⟨h1, h2, h3, h4⟩, trivial⟩
  | x :: y :: bs, l, h, h1, h2, h3, h4 => ⟨h.1, cp.Good.snoc (bs := y :: bs) (l := x.last) h.2 (by rw [cp.end_cons l x.last] at h1; exact h1) h2 h3 h4⟩
theorem cp.Good.bok : ∀ {bs : List Bat} {l : Int}, cp.Good l bs → kc.BOk l bs
  | [], _, _ => trivial
  | b :: bs, l, h => by
    obtain ⟨c1, c2, c3, c4, c5⟩ := cp.check h.1.2.1
    exact ⟨⟨h.1.1, c5 l h.1.1, c3⟩, cp.Good.bok h.2⟩
theorem cp.Good.mem : ∀ {bs : List Bat} {l : Int}, cp.Good l bs → ∀ b ∈ bs, l < b.base ∧ b.check = 0 ∧ 0 < b.recs.length ∧ b.recs.length ≤ 100
  | [], _, _, b, hb => by cases hb
  | x :: bs, l, h, b, hb => by
    rcases List.mem_cons.1 hb with rfl | hb
    · exact h.1
    · obtain ⟨h1, h2⟩ := cp.Good.mem h.2 b hb
      obtain ⟨c1, c2, c3, c4, c5⟩ := cp.check h.1.2.1
      exact ⟨by have := h.1.1; omega, h2⟩
theorem cp.Good.apart : ∀ {bs : List Bat} {l : Int}, cp.Good l bs → bs.Pairwise (fun a b => a.last < b.base)
  | [], _, _ => .nil
  | _ :: _, _, h => .cons (fun b hb => (cp.Good.mem h.2 b hb).1) (cp.Good.apart h.2)
theorem cp.Good.append : ∀ {a b : List Bat} {l : Int}, cp.Good l (a ++ b) → cp.Good l a ∧ cp.Good (cp.end l a) b
  | [], b, l, h => ⟨trivial, h⟩
  | [x], b, l, h => ⟨⟨h.1, trivial⟩, h.2⟩
  | x :: y :: a, b, l, h => by
    obtain ⟨h1, h2⟩ := cp.Good.append (a := y :: a) (l := x.last) h.2
    refine ⟨⟨h.1, h1⟩, ?_⟩
    rw [cp.end_cons l x.last]
    exact h2
/-- Segments that a log may have. -/
structure cp.May (ss : List (List Bat)) : Prop where
  len : ss.length ≤ 20
  each : ∀ bs ∈ ss, bs.length ≤ 30
  sum : (ss.flatten.map Bat.weight).sum ≤ 4000
  good : cp.Good (-1) ss.flatten
theorem cp.weight_pos (b : Bat) : 1 ≤ b.weight := by
  have h := weights_ge b.recs
  unfold Bat.weight
  omega
theorem cp.weight_len : ∀ bs : List Bat, (bs.length : Int) ≤ (bs.map Bat.weight).sum
  | [] => by simp
  | b :: bs => by
    have h1 := cp.weight_len bs
    have h2 := cp.weight_pos b
    simp only [List.map_cons, List.sum_cons, List.length_cons]
    omega
theorem cp.weight_one : ∀ (bs : List Bat) (b : Bat), b ∈ bs → b.weight ≤ (bs.map Bat.weight).sum
  | [], b, h => by cases h
  | x :: bs, b, h => by
    have h0 := cp.weight_len bs
    simp only [List.map_cons, List.sum_cons]
    rcases List.mem_cons.1 h with rfl | h
    · omega
    · have := cp.weight_one bs b h
      have := cp.weight_pos x
      omega
theorem cp.bytes (rs : List Rec) (r : Rec) (h : r ∈ rs) : (r.key.length : Int) + (r.val.length : Int) ≤ (rs.map Rec.weight).sum := by
  induction rs with
  | nil => cases h
  | cons x rs ih =>
    have h1 := weights_ge rs
    simp only [List.map_cons, List.sum_cons]
    rcases List.mem_cons.1 h with rfl | h
    · unfold Rec.weight at *
      omega
    · have := ih h
      have := x.weight_pos
      omega
/-- Batches that weigh little are small. -/
theorem cp.small {bs : List Bat} (h : (bs.map Bat.weight).sum ≤ 4000) : bs.length ≤ 4000 ∧ fo.Small bs ∧ (rc.flat bs).length ≤ 4000 ∧ ∀ r ∈ rc.flat bs, r.key.length ≤ 4000 ∧ r.val.length ≤ 4000 := by
  have hb : ∀ b ∈ bs, (b.recs.length : Int) ≤ 4000 ∧ ∀ r ∈ b.recs, (r.key.length : Int) ≤ 4000 ∧ (r.val.length : Int) ≤ 4000 := fun b hb => by
    have h3 := cp.weight_one bs b hb
    have h4 := weights_ge b.recs
    have h5 : b.weight = min (1 + (b.recs.map Rec.weight).sum) 1099511627776 := rfl
    refine ⟨by omega, fun r hr => ?_⟩
    have h6 := cp.bytes b.recs r hr
    omega
  have hf := weight_flat bs _ (Int.le_refl _) h
  have hl := cp.weight_len bs
  refine ⟨by omega, ⟨by omega, fun b h => ⟨by have := (hb b h).1; omega, fun r hr => by have := (hb b h).2 r hr; omega⟩⟩, by have := hf.1; omega, fun r hr => ?_⟩
  unfold rc.flat at hr
  obtain ⟨l, hl, hx⟩ := List.mem_flatten.1 hr
  obtain ⟨b, hbb, rfl⟩ := List.mem_map.1 hl
  have := (hb b hbb).2 r hx
  omega
theorem cp.May.times {ss : List (List Bat)} (h : cp.May ss) : ∀ x ∈ ss.flatten, x.last ≤ 4611686018427387904 ∧ ∀ r ∈ x.recs, 0 ≤ r.time := fun x hx => by
  obtain ⟨c1, c2, c3, c4, c5⟩ := cp.check (cp.Good.mem h.good x hx).2.1
  exact ⟨c3, fun r hr => (c4 r hr).1⟩
end
section
open Go.RowKit
set_option maxRecDepth 20000

def ck.up (o : Option Int) (z : Int) : Int := match o with | some m => max m z | none => z
theorem ck.mx_cons (f u : Int) (x r : Rec) (rs : List Rec) (o : Option Int) : kc.mx f u x o (r :: rs) = kc.mx f u x (if kc.hit f u x r = true then some (ck.up o r.off) else o) rs := rfl
theorem ck.mx_spec (f u : Int) (x : Rec) : ∀ (rs : List Rec) (o : Option Int) (m : Int), kc.mx f u x o rs = some m →
    (o = some m ∨ ∃ r ∈ rs, kc.hit f u x r = true ∧ r.off = m) ∧ (∀ r ∈ rs, kc.hit f u x r = true → r.off ≤ m) ∧ ∀ m0, o = some m0 → m0 ≤ m
  | [], o, m, h => ⟨.inl h, fun r hr => (by cases hr), fun m0 h0 => by
      have h1 : o = some m := h
      rw [h0] at h1
      have := Option.some.inj h1
      omega⟩
  | r :: rs, o, m, h => by
    have h' := h
    rw [ck.mx_cons] at h'
    by_cases hr : kc.hit f u x r = true
    · rw [if_pos hr] at h'
      obtain ⟨h1, h2, h3⟩ := ck.mx_spec f u x rs _ m h'
      have h4 := h3 _ rfl
      refine ⟨?_, fun y hy hh => ?_, fun m0 h0 => ?_⟩
      · rcases h1 with h1 | ⟨y, hy, h5⟩
        · have h1 := Option.some.inj h1
          cases o with
          | none => exact .inr ⟨r, by simp, hr, h1⟩
          | some m0 =>
            unfold ck.up at h1
            dsimp only at h1
            by_cases hc : m0 ≤ r.off
            · exact .inr ⟨r, by simp, hr, by omega⟩
            · exact .inl (congrArg some (by omega))
        · exact .inr ⟨y, by simp [hy], h5⟩
      · rcases List.mem_cons.1 hy with rfl | hy
        · cases o with
          | none => exact h4
          | some m0 => unfold ck.up at h4; dsimp only at h4; omega
        · exact h2 y hy hh
      · subst h0
        unfold ck.up at h4
        dsimp only at h4
        omega
    · rw [if_neg hr] at h'
      obtain ⟨h1, h2, h3⟩ := ck.mx_spec f u x rs _ m h'
      refine ⟨?_, fun y hy hh => ?_, h3⟩
      · rcases h1 with h1 | ⟨y, hy, h5⟩
        · exact .inl h1
        · exact .inr ⟨y, by simp [hy], h5⟩
      · rcases List.mem_cons.1 hy with rfl | hy
        · exact absurd hh hr
        · exact h2 y hy hh
/-- What the map of a cleaning says: of each key that lies between f and U the greatest offset there. -/
structure ck.Map (f U : Int) (rs : List Rec) (g : ByteArray → Option Int) : Prop where
  known : ∀ r ∈ rs, r.hasKey = true → f ≤ r.off → r.off < U → ∃ o, g (strOf r.key) = some o ∧ r.off ≤ o
  is : ∀ (x : Rec) (o : Int), g (strOf x.key) = some o → ∃ r ∈ rs, r.hasKey = true ∧ f ≤ r.off ∧ r.off < U ∧ strOf r.key = strOf x.key ∧ r.off = o
theorem ck.hit_iff {f u : Int} {x r : Rec} : kc.hit f u x r = true ↔ r.hasKey = true ∧ f ≤ r.off ∧ r.off < u ∧ strOf r.key = strOf x.key := by
  unfold kc.hit kc.win kb.use
  rw [Bool.and_eq_true, Bool.and_eq_true, Bool.and_eq_true, decide_eq_true_eq, decide_eq_true_eq, decide_eq_true_eq]
  exact ⟨fun h => ⟨h.1.1.1, h.1.1.2, h.1.2, h.2⟩, fun h => ⟨⟨⟨h.1, h.2.1⟩, h.2.2.1⟩, h.2.2.2⟩⟩
theorem ck.map_of {f U : Int} {rs : List Rec} {N : Nat} {g : ByteArray → Option Int} (h : (N, g) = kc.free (0, fun _ => none) (rs.filter (kc.win f U))) : ck.Map f U rs g := by
  have hg : ∀ x : Rec, g (strOf x.key) = kc.mx f U x none rs := fun x => by
    have h1 := kc.free_at f U x rs 0 (fun _ => none)
    rw [← h] at h1
    exact h1
  refine ⟨fun r hr h1 h2 h3 => ?_, fun x o ho => ?_⟩
  · rw [hg r]
    have hh : kc.hit f U r r = true := ck.hit_iff.2 ⟨h1, h2, h3, rfl⟩
    have h4 := kc.at_none f U r rs hr hh
    exact ⟨_, h4, (ck.mx_spec f U r rs none _ h4).2.1 r hr hh⟩
  · rw [hg x] at ho
    rcases (ck.mx_spec f U x rs none o ho).1 with h1 | ⟨r, hr, h1, h2⟩
    · cases h1
    · obtain ⟨a, b, c, d⟩ := ck.hit_iff.1 h1
      exact ⟨r, hr, a, b, c, d, h2⟩
/-- The window of a map that was built of good batches. -/
theorem ck.built {f M : Int} {bs : List Bat} (hb : cp.Good (-1) bs) (hM : 0 ≤ M) : ck.Map f (kb.go f M 0 (fun _ => none) f bs).2.2 (rc.flat bs) (kb.go f M 0 (fun _ => none) f bs).2.1 ∧ f ≤ (kb.go f M 0 (fun _ => none) f bs).2.2 := by
  have h1 := (kc.go (f := f) (M := M) bs 0 (fun _ => none) f (by simpa using hM)).1
  obtain ⟨h2, h3⟩ := kc.window hb.bok h1
  exact ⟨ck.map_of h2, h3⟩

theorem ck.flat_all (F : Rec → Bool) : ∀ bs : List Bat, rc.flat (ps.all F bs) = (rc.flat bs).filter F
  | [] => rfl
  | b :: bs => by
    rw [rc.flat_one, List.filter_append, ← ck.flat_all F bs]
    unfold ps.all
    rw [List.map_cons, List.filter_cons]
    split
    · rw [rc.flat_one]
      rfl
    · rename_i h
      have h0 : (ps.cut F b).recs.length = 0 := by simpa using h
      rw [show b.recs.filter F = [] from List.eq_nil_of_length_eq_zero h0]
      rfl
theorem ck.all_app (F : Rec → Bool) (a b : List Bat) : ps.all F (a ++ b) = ps.all F a ++ ps.all F b := by unfold ps.all; rw [List.map_append, List.filter_append]
theorem ck.all_flat (F : Rec → Bool) : ∀ ss : List (List Bat), (ss.map (ps.all F)).flatten = ps.all F ss.flatten
  | [] => rfl
  | s :: ss => by rw [List.map_cons, List.flatten_cons, ck.all_flat F ss, List.flatten_cons, ck.all_app]
/-- What All leaves: all segments but the last one are cleaned. -/
theorem ck.outs_snoc (F : Rec → Bool) (init : List (List Bat)) (last : List Bat) : cl.outs F (init ++ [last]) (init.length + 1) = init.map (ps.all F) ++ [last] := by
  apply List.ext_getElem?
  intro i
  have hlen : (cl.outs F (init ++ [last]) (init.length + 1)).length = init.length + 1 := cl.outs_len _ _ _
  by_cases hi : i < init.length
  · rw [List.getElem?_append_left (by rw [List.length_map]; exact hi), List.getElem?_map]
    unfold cl.outs
    rw [List.getElem?_map, List.getElem?_range (by omega)]
    have h1 : init[i]? = some init[i] := List.getElem?_eq_getElem hi
    rw [h1]
    show some (cl.seg F (init ++ [last]) i) = some (ps.all F init[i])
    unfold cl.seg
    rw [if_neg (by rw [List.length_append]; simp; omega), List.getD_eq_getElem?_getD, List.getElem?_append_left hi, h1]
    rfl
  · by_cases he : i = init.length
    · subst he
      rw [List.getElem?_append_right (by rw [List.length_map]; exact Nat.le_refl _), List.length_map, Nat.sub_self]
      unfold cl.outs
      rw [List.getElem?_map, List.getElem?_range (by omega)]
      show some (cl.seg F (init ++ [last]) init.length) = some last
      unfold cl.seg
      rw [if_pos (by rw [List.length_append]; simp), List.getD_eq_getElem?_getD, List.getElem?_append_right (Nat.le_refl _), Nat.sub_self]
      rfl
    · rw [List.getElem?_eq_none (by rw [hlen]; omega), List.getElem?_eq_none (by rw [List.length_append, List.length_map]; simp; omega)]
/-- A log's segments: none, or some and an active one. -/
theorem ck.split (ss : List (List Bat)) : ss = [] ∨ ∃ init last, ss = init ++ [last] ∧ ss.length = init.length + 1 ∧ ss.take (ss.length - 1) = init := by
  rcases List.eq_nil_or_concat ss with h | ⟨init, last, h⟩
  · exact .inl h
  · have h : ss = init ++ [last] := by simpa using h
    refine .inr ⟨init, last, h, by rw [h]; simp, ?_⟩
    rw [h, List.length_append]
    simp
/-- All that is left, and what it was. -/
theorem ck.outs_flat (F : Rec → Bool) (ss : List (List Bat)) : ∃ behind act : List Bat, ss.flatten = behind ++ act ∧ (ss.take (ss.length - 1)).flatten = behind ∧ (cl.outs F ss ss.length).flatten = ps.all F behind ++ act := by
  rcases ck.split ss with rfl | ⟨init, last, h, hl, ht⟩
  · exact ⟨[], [], rfl, rfl, rfl⟩
  · refine ⟨init.flatten, last, by rw [h]; simp, by rw [ht], ?_⟩
    rw [hl, h, ck.outs_snoc, List.flatten_append, ck.all_flat]
    simp
/-- A record stays, if none of its key is behind it and it has a value; or if it has no key. -/
theorem ck.stays_last {f U now grace : Int} {rs : List Rec} {g : ByteArray → Option Int} (h : ck.Map f U rs g) {r : Rec} (hr : r.hasKey = false ∨ (r.hasVal = true ∧ ∀ y ∈ rs, y.hasKey = true → strOf y.key = strOf r.key → y.off ≤ r.off)) : cl.stays g U now grace r = true := by
  unfold cl.stays
  by_cases hk : r.hasKey = false ∨ U ≤ r.off
  · rw [if_pos hk]
  · rw [if_neg hk]
    rcases hr with hr | ⟨hv, hl⟩
    · exact absurd (.inl hr) hk
    · cases hg : g (strOf r.key) with
      | none => rfl
      | some o =>
        dsimp only
        obtain ⟨y, hy, h1, -, -, h4, h5⟩ := h.is r o hg
        have h6 := hl y hy h1 h4
        rw [if_neg (by omega), if_neg (by rw [hv]; simp)]
/-- Is no record of the key of r among these? -/
def ck.newer (r : Rec) (l : List Rec) : Bool := l.all fun y => !y.hasKey || decide (strOf y.key ≠ strOf r.key)
theorem ck.newer_snoc (r y : Rec) (l : List Rec) : ck.newer r (l ++ [y]) = (ck.newer r l && (!y.hasKey || decide (strOf y.key ≠ strOf r.key))) := by unfold ck.newer; rw [List.all_append]; simp
theorem ck.newer_mem {r y : Rec} {l : List Rec} (h : ck.newer r l = true) (hy : y ∈ l) (hk : y.hasKey = true) : strOf y.key ≠ strOf r.key := by
  have h1 := List.all_eq_true.1 h y hy
  rw [hk] at h1
  simpa using h1
/-- The last record of a key that has a value stays, wherever it is. -/
theorem ck.keeps {U now grace : Int} {behind act : List Bat} {g : ByteArray → Option Int} (hb : cp.Good (-1) (behind ++ act)) (h : ck.Map 0 U (rc.flat behind) g) {i : Nat} {r : Rec} (hi : (rc.flat (behind ++ act))[i]? = some r)
    (hr : r.hasKey = false ∨ (r.hasVal = true ∧ ck.newer r ((rc.flat (behind ++ act)).drop (i + 1)) = true)) : r ∈ rc.flat (ps.all (cl.stays g U now grace) behind ++ act) := by
  have hp := (kc.BOk.all _ _ hb.bok).2
  rw [cl.flat_app, ck.flat_all]
  rw [cl.flat_app] at hi hp
  have hm := List.mem_of_getElem? hi
  rcases List.mem_append.1 hm with hm | hm
  · refine List.mem_append_left _ (List.mem_filter.2 ⟨hm, ck.stays_last h ?_⟩)
    rcases hr with hr | ⟨hv, hn⟩
    · exact .inl hr
    · refine .inr ⟨hv, fun y hy hk he => ?_⟩
      rw [cl.flat_app] at hn
      obtain ⟨j, hj⟩ := List.getElem?_of_mem hy
      have hj' : (rc.flat behind ++ rc.flat act)[j]? = some y := by rw [List.getElem?_append_left (List.getElem?_eq_some_iff.1 hj).1]; exact hj
      obtain ⟨hjl, hje⟩ := List.getElem?_eq_some_iff.1 hj'
      obtain ⟨hil, hie⟩ := List.getElem?_eq_some_iff.1 hi
      rcases Nat.lt_trichotomy j i with hlt | heq | hgt
      · have := List.pairwise_iff_getElem.1 hp j i hjl hil hlt
        rw [hje, hie] at this
        omega
      · subst heq
        rw [hi] at hj'
        rw [Option.some.inj hj']
        exact Int.le_refl _
      · refine absurd he (ck.newer_mem hn (List.mem_of_getElem? (i := j - (i + 1)) ?_) hk)
        rw [List.getElem?_drop, show i + 1 + (j - (i + 1)) = j by omega]
        exact hj'
  · exact List.mem_append_right _ hm
def ck.hdr (b : Bat) : Int × Int × Int × Int := (b.base, b.last, b.prod, b.seq)
theorem ck.hdrs (F : Rec → Bool) (behind act : List Bat) : ((ps.all F behind ++ act).map ck.hdr).Sublist ((behind ++ act).map ck.hdr) := by
  rw [List.map_append, List.map_append]
  refine List.Sublist.append ?_ (List.Sublist.refl _)
  unfold ps.all
  have h : behind.map ck.hdr = (behind.map (ps.cut F)).map ck.hdr := by rw [List.map_map]; rfl
  rw [h]
  exact List.Sublist.map _ List.filter_sublist
/-- Two rows of heads, one within the other: where the heads begin alike, they are the same; else the head is further on. -/
theorem ck.next {x y : List Bat} {i k : Nat} {a b : Bat} (hp : y.Pairwise fun a b => a.base < b.base) (ha : x[i]? = some a) (hb : y[k]? = some b) (h : ((x.drop i).map ck.hdr).Sublist ((y.drop k).map ck.hdr)) :
    (b.base = a.base → ck.hdr b = ck.hdr a ∧ ((x.drop (i + 1)).map ck.hdr).Sublist ((y.drop k).map ck.hdr)) ∧ (b.base ≠ a.base → ((x.drop i).map ck.hdr).Sublist ((y.drop (k + 1)).map ck.hdr)) := by
  obtain ⟨hi, ei⟩ := List.getElem?_eq_some_iff.1 ha
  obtain ⟨hk, ek⟩ := List.getElem?_eq_some_iff.1 hb
  rw [List.drop_eq_getElem_cons hi, List.drop_eq_getElem_cons hk, ei, ek, List.map_cons, List.map_cons] at h
  rcases List.sublist_cons_iff.1 h with h | ⟨r, e, h⟩
  · refine ⟨fun he => ?_, fun hne => by rw [List.drop_eq_getElem_cons hi, ei, List.map_cons]; exact h⟩
    exfalso
    have h1 : ck.hdr a ∈ (y.drop (k + 1)).map ck.hdr := h.subset (by simp)
    obtain ⟨c, hc, e⟩ := List.mem_map.1 h1
    have e1 : c.base = a.base := congrArg Prod.fst e
    obtain ⟨j, hj⟩ := List.getElem?_of_mem hc
    rw [List.getElem?_drop] at hj
    obtain ⟨hjl, ej⟩ := List.getElem?_eq_some_iff.1 hj
    have := List.pairwise_iff_getElem.1 hp k (k + 1 + j) hk hjl (by omega)
    rw [ek, ej] at this
    omega
  · rw [List.cons.injEq] at e
    refine ⟨fun he => ⟨e.1.symm, ?_⟩, fun hne => absurd (congrArg Prod.fst e.1).symm hne⟩
    rw [e.2, List.drop_eq_getElem_cons hk, ek, List.map_cons]
    exact h.cons _
/-- Good batches' bases rise. -/
theorem ck.bases {bs : List Bat} {l : Int} (h : cp.Good l bs) : bs.Pairwise fun a b => a.base < b.base := by
  have h1 := h.apart
  have h2 : ∀ b ∈ bs, b.base ≤ b.last := fun b hb => (cp.check (h.mem b hb).2.1).2.1
  exact List.Pairwise.imp_of_mem (fun ha _ hab => by have := h2 _ ha; omega) h1
end
section
open Go.RowKit
set_option maxRecDepth 20000

theorem ct.rok {b b' : Bat} (h1 : b'.base = b.base) (h2 : b'.last = b.last) (F : Rec → Bool) : ∀ (rs : List Rec) (l l' : Int), kc.ROk b l rs → l' ≤ l → kc.ROk b' l' (rs.filter F)
  | [], l, l', h, hl => by
    have h : l ≤ b.last := h
    show l' ≤ b'.last
    omega
  | r :: rs, l, l', h, hl => by
    obtain ⟨⟨h3, h4, h5⟩, h6⟩ := h
    by_cases hr : F r = true
    · rw [List.filter_cons_of_pos hr]
      exact ⟨⟨by omega, by omega, by omega⟩, ct.rok h1 h2 F rs r.off r.off h6 (Int.le_refl _)⟩
    · rw [List.filter_cons_of_neg hr]
      exact ct.rok h1 h2 F rs r.off l' h6 (by omega)
theorem ct.rok_last {b : Bat} : ∀ (rs : List Rec) (l : Int), kc.ROk b l rs → l ≤ b.last
  | [], _, h => h
  | r :: rs, l, h => by
    have := ct.rok_last rs r.off h.2
    have := h.1.1
    omega
theorem ct.bok (F : Rec → Bool) : ∀ (bs tl : List Bat) (l l' : Int), kc.BOk l (bs ++ tl) → l' ≤ l → kc.BOk l' (ps.all F bs ++ tl)
  | [], [], _, _, _, _ => trivial
  | [], b :: bs, l, l', h, hl => by
    obtain ⟨⟨h1, h2, h3⟩, h4⟩ := h
    refine ⟨⟨by omega, ?_, h3⟩, h4⟩
    have h5 := ct.rok (b := b) (b' := b) rfl rfl (fun _ => true) b.recs l l' h2 hl
    rw [List.filter_eq_self.2 (fun _ _ => rfl)] at h5
    exact h5
  | b :: bs, tl, l, l', h, hl => by
    obtain ⟨⟨h1, h2, h3⟩, h4⟩ := h
    have hlast := ct.rok_last _ _ h2
    unfold ps.all
    rw [List.map_cons, List.filter_cons]
    split
    · refine ⟨⟨?_, ct.rok (b := b) (b' := ps.cut F b) rfl rfl F b.recs l l' h2 hl, h3⟩, ct.bok F bs tl b.last b.last h4 (Int.le_refl _)⟩
      show l' < b.base
      omega
    · exact ct.bok F bs tl b.last l' h4 (by omega)
theorem ct.built {f M : Int} {bs : List Bat} (hb : kc.BOk (-1) bs) (hM : 0 ≤ M) : ck.Map f (kb.go f M 0 (fun _ => none) f bs).2.2 (rc.flat bs) (kb.go f M 0 (fun _ => none) f bs).2.1 ∧ f ≤ (kb.go f M 0 (fun _ => none) f bs).2.2 := by
  have h1 := (kc.go (f := f) (M := M) bs 0 (fun _ => none) f (by simpa using hM)).1
  obtain ⟨h2, h3⟩ := kc.window hb h1
  exact ⟨ck.map_of h2, h3⟩

/-- Segments that may be cleaned (again). -/
structure cp.Fit (ss : List (List Bat)) : Prop where
  len : ss.length ≤ 20
  size : ss.flatten.length ≤ 4000
  small : fo.Small ss.flatten
  recs : (rc.flat ss.flatten).length ≤ 4000
  bok : kc.BOk (-1) ss.flatten
  times : ∀ x ∈ ss.flatten, x.last ≤ 4611686018427387904 ∧ ∀ r ∈ x.recs, 0 ≤ r.time
  full : ∀ x ∈ ss.flatten, x.recs ≠ []
  bytes : ∀ r ∈ rc.flat ss.flatten, r.key.length ≤ 4000 ∧ r.val.length ≤ 4000
theorem cp.May.fit {ss : List (List Bat)} (h : cp.May ss) : cp.Fit ss := by
  obtain ⟨h1, h2, h3, h4⟩ := cp.small h.sum
  refine ⟨h.len, h1, h2, h3, h.good.bok, h.times, fun x hx => ?_, h4⟩
  have := (cp.Good.mem h.good x hx).2.2.1
  intro e
  rw [e] at this
  simp at this
theorem ct.all_mem {F : Rec → Bool} {bs : List Bat} {x : Bat} (h : x ∈ ps.all F bs) : ∃ b ∈ bs, x = ps.cut F b ∧ x.recs ≠ [] := by
  obtain ⟨h1, h2⟩ := List.mem_filter.1 h
  obtain ⟨b, hb, rfl⟩ := List.mem_map.1 h1
  refine ⟨b, hb, rfl, fun e => ?_⟩
  rw [e] at h2
  simp at h2
/-- What is left may be cleaned again. -/
theorem cp.Fit.outs {ss : List (List Bat)} {F : Rec → Bool} (h : cp.Fit ss) : cp.Fit (cl.outs F ss ss.length) := by
  obtain ⟨be, ac, h1, -, h3⟩ := ck.outs_flat F ss
  obtain ⟨hl, hs, hsm, hr, hb, ht, hf, hy⟩ := h
  rw [h1] at hs hsm hr hb ht hf hy
  have hmem : ∀ x ∈ ps.all F be ++ ac, ∃ b ∈ be ++ ac, x.last = b.last ∧ (∀ r ∈ x.recs, r ∈ b.recs) ∧ x.recs.length ≤ b.recs.length ∧ x.recs ≠ [] := fun x hx => by
    rcases List.mem_append.1 hx with hx | hx
    · obtain ⟨b, hb, rfl, hne⟩ := ct.all_mem hx
      exact ⟨b, List.mem_append_left _ hb, rfl, fun r hr => (List.mem_filter.1 hr).1, List.length_filter_le _ _, hne⟩
    · have hx' := List.mem_append_right be hx
      exact ⟨x, hx', rfl, fun r hr => hr, Nat.le_refl _, hf x hx'⟩
  have hlen : (ps.all F be ++ ac).length ≤ 4000 := by
    have := ps.all_len F be
    rw [List.length_append] at hs ⊢
    omega
  refine ⟨by rw [cl.outs_len]; exact hl, ?_, ?_, ?_, ?_, ?_, ?_, ?_⟩
  · rw [h3]; exact hlen
  · rw [h3]
    refine ⟨by omega, fun x hx => ?_⟩
    obtain ⟨b, hb, -, h5, h6, -⟩ := hmem x hx
    obtain ⟨h7, h8⟩ := hsm.2 b hb
    exact ⟨by omega, fun r hr => h8 r (h5 r hr)⟩
  · rw [h3, cl.flat_app, ck.flat_all]
    rw [cl.flat_app] at hr
    have := List.length_filter_le F (rc.flat be)
    rw [List.length_append] at hr ⊢
    omega
  · rw [h3]
    exact ct.bok F be ac _ _ hb (Int.le_refl _)
  · rw [h3]
    intro x hx
    obtain ⟨b, hb, h4, h5, -, -⟩ := hmem x hx
    rw [h4]
    exact ⟨(ht b hb).1, fun r hr => (ht b hb).2 r (h5 r hr)⟩
  · rw [h3]
    intro x hx
    obtain ⟨b, hb, -, -, -, h7⟩ := hmem x hx
    exact h7
  · rw [h3, cl.flat_app, ck.flat_all]
    rw [cl.flat_app] at hy
    intro r hr
    rcases List.mem_append.1 hr with hr | hr
    · exact hy r (List.mem_append_left _ (List.mem_filter.1 hr).1)
    · exact hy r (List.mem_append_right _ hr)

theorem ct.scan {f M : Int} {N : Nat} {g : ByteArray → Option Int} : ∀ (rs : List Rec) (F : Nat) (h : ByteArray → Option Int), (N : Int) + F + rs.length ≤ M → kb.scan f M N g F h rs = true
  | [], _, _, _ => rfl
  | r :: rs, F, h, hle => by
    have hlen : (((r :: rs).length : Nat) : Int) = (rs.length : Int) + 1 := by simp
    have hmore : kb.more F h (strOf r.key) ≤ F + 1 := by unfold kb.more; split <;> omega
    unfold kb.scan
    split
    · exact ct.scan rs F h (by omega)
    · split
      · rw [if_neg (by omega)]
        exact ct.scan rs F h (by omega)
      · rw [if_neg (by omega)]
        exact ct.scan rs _ _ (by omega)
theorem ct.offers_le {f M : Int} : ∀ (rs : List Rec) (N : Nat) (g : ByteArray → Option Int), (kb.offers f M N g rs).1 ≤ N + rs.length
  | [], _, _ => Nat.le_refl _
  | r :: rs, N, g => by
    have hc : key.cnt N M g (strOf r.key) ≤ N + 1 := by unfold key.cnt; split; · omega
                                                        · split <;> omega
    have h1 := ct.offers_le (f := f) (M := M) rs (key.cnt N M g (strOf r.key)) (key.put N M g (strOf r.key) r.off)
    have h2 := ct.offers_le (f := f) (M := M) rs N g
    unfold kb.offers
    rw [List.length_cons]
    split <;> omega
/-- With room for all, all is clean up to the end. -/
theorem ct.go_end {f M : Int} : ∀ (bs : List Bat) (N : Nat) (g : ByteArray → Option Int) (up : Int), (N : Int) + (rc.flat bs).length ≤ M → ∀ b, bs.getLast? = some b → b.last < (kb.go f M N g up bs).2.2
  | [], _, _, _, _, _, h => by cases h
  | [x], N, g, up, hle, b, hb => by
    obtain rfl : x = b := by simpa using hb
    have hx : rc.flat [x] = x.recs := by unfold rc.flat; simp
    rw [hx] at hle
    unfold kb.go
    rw [if_pos (ct.scan x.recs 0 _ (by omega))]
    show x.last < max (x.last + 1) f
    omega
  | x :: y :: bs, N, g, up, hle, b, hb => by
    rw [rc.flat_one, List.length_append] at hle
    have h1 := ct.offers_le (f := f) (M := M) x.recs N g
    unfold kb.go
    rw [if_pos (ct.scan x.recs 0 _ (by omega))]
    exact ct.go_end (y :: bs) _ _ _ (by omega) b (by simpa [List.getLast?_cons_cons] using hb)
theorem ct.covered {f M : Int} {bs : List Bat} (hb : kc.BOk (-1) bs) (hle : ((rc.flat bs).length : Int) ≤ M) : ∀ r ∈ rc.flat bs, r.off < (kb.go f M 0 (fun _ => none) f bs).2.2 := fun r hr => by
  cases hl : bs.getLast? with
  | none =>
    rw [List.getLast?_eq_none_iff.1 hl] at hr
    simp [rc.flat] at hr
  | some b =>
    have h1 := kc.BOk.le_last bs _ b hb hl r hr
    have h2 := ct.go_end (f := f) (M := M) bs 0 (fun _ => none) f (by simpa using hle) b hl
    omega
/-- Of what is clean, one record of a key is left: the last one. -/
theorem ct.left {U now grace : Int} {rs : List Rec} {g : ByteArray → Option Int} (h : ck.Map 0 U rs g) (hlo : ∀ r ∈ rs, 0 ≤ r.off) {r : Rec} (hr : r ∈ rs) (hk : r.hasKey = true) (hu : r.off < U) (hs : cl.stays g U now grace r = true) : g (strOf r.key) = some r.off ∧ ¬ (r.hasVal = false ∧ grace < now - r.time) := by
  obtain ⟨o, ho, hle⟩ := h.known r hr hk (hlo r hr) hu
  unfold cl.stays at hs
  rw [if_neg (by rw [hk]; simp; omega), ho] at hs
  dsimp only at hs
  by_cases h1 : r.off < o
  · rw [if_pos h1] at hs
    cases hs
  · rw [if_neg h1] at hs
    have he : o = r.off := by omega
    refine ⟨by rw [ho, he], fun hc => ?_⟩
    rw [if_pos hc] at hs
    cases hs
theorem ct.lo {bs : List Bat} (hb : kc.BOk (-1) bs) : ∀ r ∈ rc.flat bs, 0 ≤ r.off := fun r hr => by
  have := (kc.BOk.all _ _ hb).1 r hr
  omega
theorem ct.one {U now grace : Int} {bs : List Bat} {g : ByteArray → Option Int} (hb : kc.BOk (-1) bs) (h : ck.Map 0 U (rc.flat bs) g) (hu : ∀ r ∈ rc.flat bs, r.off < U) {r s : Rec} (hr : r ∈ rc.flat (ps.all (cl.stays g U now grace) bs)) (hs : s ∈ rc.flat (ps.all (cl.stays g U now grace) bs)) (h1 : r.hasKey = true) (h2 : s.hasKey = true) (he : strOf r.key = strOf s.key) : r.off = s.off := by
  rw [ck.flat_all] at hr hs
  obtain ⟨r1, r2⟩ := List.mem_filter.1 hr
  obtain ⟨s1, s2⟩ := List.mem_filter.1 hs
  have e1 := (ct.left h (ct.lo hb) r1 h1 (hu r r1) r2).1
  have e2 := (ct.left h (ct.lo hb) s1 h2 (hu s s1) s2).1
  rw [he, e2] at e1
  exact (Option.some.inj e1).symm
/-- No two records of one key are left of what is clean. -/
theorem ct.apart {U now grace : Int} {bs : List Bat} {g : ByteArray → Option Int} (hb : kc.BOk (-1) bs) (h : ck.Map 0 U (rc.flat bs) g) (hu : ∀ r ∈ rc.flat bs, r.off < U) {i k : Nat} {r s : Rec} (hr : (rc.flat (ps.all (cl.stays g U now grace) bs))[i]? = some r) (hs : (rc.flat (ps.all (cl.stays g U now grace) bs))[k]? = some s) (hki : k < i) (h1 : r.hasKey = true) (h2 : s.hasKey = true) : strOf r.key ≠ strOf s.key := fun he => by
  have e := ct.one hb h hu (List.mem_of_getElem? hr) (List.mem_of_getElem? hs) h1 h2 he
  have hb2 := ct.bok (cl.stays g U now grace) bs [] (-1) (-1) (by simpa using hb) (Int.le_refl _)
  rw [List.append_nil] at hb2
  have hp := (kc.BOk.all _ _ hb2).2
  obtain ⟨hi, ei⟩ := List.getElem?_eq_some_iff.1 hr
  obtain ⟨hk, ek⟩ := List.getElem?_eq_some_iff.1 hs
  have := List.pairwise_iff_getElem.1 hp k i hk hi hki
  rw [ei, ek] at this
  omega
/-- Another cleaning at the same time, from wherever, takes nothing. -/
theorem ct.again {U now grace f2 U2 : Int} {bs : List Bat} {g g2 : ByteArray → Option Int} (hb : kc.BOk (-1) bs) (h : ck.Map 0 U (rc.flat bs) g) (hu : ∀ r ∈ rc.flat bs, r.off < U) (h2 : ck.Map f2 U2 (rc.flat (ps.all (cl.stays g U now grace) bs)) g2) : ∀ r ∈ rc.flat (ps.all (cl.stays g U now grace) bs), cl.stays g2 U2 now grace r = true := fun r hr => by
  have hr0 := hr
  rw [ck.flat_all] at hr0
  obtain ⟨r1, r2⟩ := List.mem_filter.1 hr0
  unfold cl.stays
  by_cases hk : r.hasKey = false ∨ U2 ≤ r.off
  · rw [if_pos hk]
  · rw [if_neg hk]
    have hkey : r.hasKey = true := by
      cases hh : r.hasKey with
      | false => exact absurd (.inl hh) hk
      | true => rfl
    cases hg : g2 (strOf r.key) with
    | none => rfl
    | some o =>
      dsimp only
      obtain ⟨y, hy, y1, -, -, y4, y5⟩ := h2.is r o hg
      have e := ct.one hb h hu hy hr y1 hkey y4
      rw [if_neg (by omega), if_neg (ct.left h (ct.lo hb) r1 hkey (hu r r1) r2).2]
theorem ct.all_id {F : Rec → Bool} : ∀ {bs : List Bat}, (∀ x ∈ bs, x.recs ≠ []) → (∀ r ∈ rc.flat bs, F r = true) → ps.all F bs = bs
  | [], _, _ => rfl
  | b :: bs, hf, h => by
    have hcut : ps.cut F b = b := by
      unfold ps.cut
      rw [List.filter_eq_self.2 fun r hr => h r (by rw [rc.flat_one]; exact List.mem_append_left _ hr)]
    have hne := hf b (by simp)
    have hpos : 0 < b.recs.length := by
      cases hh : b.recs with
      | nil => exact absurd hh hne
      | cons _ _ => simp
    have ih := ct.all_id (F := F) (bs := bs) (fun x hx => hf x (by simp [hx])) (fun r hr => h r (by rw [rc.flat_one]; exact List.mem_append_right _ hr))
    unfold ps.all at ih ⊢
    rw [List.map_cons, List.filter_cons, hcut, if_pos (by simpa using hpos), ih]
/-- Where nothing is to go, all segments stay as they are. -/
theorem ct.outs_id {F : Rec → Bool} {ss : List (List Bat)} (hf : ∀ x ∈ ss.flatten, x.recs ≠ []) (h : ∀ r ∈ rc.flat (ss.take (ss.length - 1)).flatten, F r = true) : cl.outs F ss ss.length = ss ∧ cl.gone F ss ss.length = 0 := by
  have hseg : ∀ i, i < ss.length → cl.seg F ss i = ss.getD i [] := fun i hi => by
    unfold cl.seg
    split
    · rfl
    · have hi1 : ss[i]? = some ss[i] := List.getElem?_eq_getElem hi
      have hget : ss.getD i [] = ss[i] := by rw [List.getD_eq_getElem?_getD, hi1]; rfl
      rw [hget]
      have hm : ss[i] ∈ ss.take (ss.length - 1) := by
        rw [List.mem_take_iff_getElem]
        exact ⟨i, by omega, rfl⟩
      refine ct.all_id (fun x hx => hf x (List.mem_flatten.2 ⟨_, List.getElem_mem hi, hx⟩)) fun r hr => h r ?_
      unfold rc.flat at hr ⊢
      obtain ⟨l, hl, hx⟩ := List.mem_flatten.1 hr
      obtain ⟨b, hb, rfl⟩ := List.mem_map.1 hl
      exact List.mem_flatten.2 ⟨_, List.mem_map.2 ⟨b, List.mem_flatten.2 ⟨_, hm, hb⟩, rfl⟩, hx⟩
  constructor
  · apply List.ext_getElem?
    intro i
    unfold cl.outs
    by_cases hi : i < ss.length
    · rw [List.getElem?_map, List.getElem?_range hi]
      show some (cl.seg F ss i) = ss[i]?
      rw [hseg i hi, List.getElem?_eq_getElem hi, List.getD_eq_getElem?_getD, List.getElem?_eq_getElem hi]
      rfl
    · rw [List.getElem?_eq_none (by simp; omega), List.getElem?_eq_none (by omega)]
  · unfold cl.gone
    have hz : (List.range ss.length).map (fun i => ((rc.flat (ss.getD i [])).length : Int) - ((rc.flat (cl.seg F ss i)).length : Int)) = (List.range ss.length).map (fun _ => (0 : Int)) := by
      refine List.map_congr_left fun i hi => ?_
      rw [hseg i (List.mem_range.1 hi)]
      omega
    rw [hz]
    clear hz hseg h hf
    generalize ss.length = n
    induction n with
    | zero => rfl
    | succ n ih => rw [List.range_succ, List.map_append, List.sum_append, ih]; rfl
end
end Go.Proofs.Ytnlfdhoabbbheaa

/- What a cleaning leaves, in plain words: the map says the greatest offset of each key; what stays; the last of each key stays. No function of the program is named. -/
import Derived.Test.YtnlfdhoabbbheaaClP
import Derived.Test.YtnlfdhoabbbheaaSmR
namespace Go.Proofs.Ytnlfdhoabbbheaa
open Go.RowKit
set_option maxRecDepth 20000

def ck.up (o : Option Int) (z : Int) : Int := match o with | some m => max m z | none => z
theorem ck.mx_cons (f u : Int) (x r : Rec) (rs : List Rec) (o : Option Int) : kc.mx f u x o (r :: rs) = kc.mx f u x (if kc.hit f u x r = true then some (ck.up o r.off) else o) rs := rfl
theorem ck.mx_spec (f u : Int) (x : Rec) : ∀ (rs : List Rec) (o : Option Int) (m : Int), kc.mx f u x o rs = some m →
    (o = some m ∨ ∃ r ∈ rs, kc.hit f u x r = true ∧ r.off = m) ∧ (∀ r ∈ rs, kc.hit f u x r = true → r.off ≤ m) ∧ ∀ m0, o = some m0 → m0 ≤ m
  | [], o, m, h => ⟨.inl h, fun r hr => (by cases hr), fun m0 h0 => by
      have h1 : o = some m := h
      rw [h0] at h1
      have := Option.some.inj h1
      omega⟩
  | r :: rs, o, m, h => by
    have h' := h
    rw [ck.mx_cons] at h'
    by_cases hr : kc.hit f u x r = true
    · rw [if_pos hr] at h'
      obtain ⟨h1, h2, h3⟩ := ck.mx_spec f u x rs _ m h'
      have h4 := h3 _ rfl
      refine ⟨?_, fun y hy hh => ?_, fun m0 h0 => ?_⟩
      · rcases h1 with h1 | ⟨y, hy, h5⟩
        · have h1 := Option.some.inj h1
          cases o with
          | none => exact .inr ⟨r, by simp, hr, h1⟩
          | some m0 =>
            unfold ck.up at h1
            dsimp only at h1
            by_cases hc : m0 ≤ r.off
            · exact .inr ⟨r, by simp, hr, by omega⟩
            · exact .inl (congrArg some (by omega))
        · exact .inr ⟨y, by simp [hy], h5⟩
      · rcases List.mem_cons.1 hy with rfl | hy
        · cases o with
          | none => exact h4
          | some m0 => unfold ck.up at h4; dsimp only at h4; omega
        · exact h2 y hy hh
      · subst h0
        unfold ck.up at h4
        dsimp only at h4
        omega
    · rw [if_neg hr] at h'
      obtain ⟨h1, h2, h3⟩ := ck.mx_spec f u x rs _ m h'
      refine ⟨?_, fun y hy hh => ?_, h3⟩
      · rcases h1 with h1 | ⟨y, hy, h5⟩
        · exact .inl h1
        · exact .inr ⟨y, by simp [hy], h5⟩
      · rcases List.mem_cons.1 hy with rfl | hy
        · exact absurd hh hr
        · exact h2 y hy hh
/-- What the map of a cleaning says: of each key that lies between f and U the greatest offset there. -/
structure ck.Map (f U : Int) (rs : List Rec) (g : ByteArray → Option Int) : Prop where
  known : ∀ r ∈ rs, r.hasKey = true → f ≤ r.off → r.off < U → ∃ o, g (strOf r.key) = some o ∧ r.off ≤ o
  is : ∀ (x : Rec) (o : Int), g (strOf x.key) = some o → ∃ r ∈ rs, r.hasKey = true ∧ f ≤ r.off ∧ r.off < U ∧ strOf r.key = strOf x.key ∧ r.off = o
theorem ck.hit_iff {f u : Int} {x r : Rec} : kc.hit f u x r = true ↔ r.hasKey = true ∧ f ≤ r.off ∧ r.off < u ∧ strOf r.key = strOf x.key := by
  unfold kc.hit kc.win kb.use
  rw [Bool.and_eq_true, Bool.and_eq_true, Bool.and_eq_true, decide_eq_true_eq, decide_eq_true_eq, decide_eq_true_eq]
  exact ⟨fun h => ⟨h.1.1.1, h.1.1.2, h.1.2, h.2⟩, fun h => ⟨⟨⟨h.1, h.2.1⟩, h.2.2.1⟩, h.2.2.2⟩⟩
theorem ck.map_of {f U : Int} {rs : List Rec} {N : Nat} {g : ByteArray → Option Int} (h : (N, g) = kc.free (0, fun _ => none) (rs.filter (kc.win f U))) : ck.Map f U rs g := by
  have hg : ∀ x : Rec, g (strOf x.key) = kc.mx f U x none rs := fun x => by
    have h1 := kc.free_at f U x rs 0 (fun _ => none)
    rw [← h] at h1
    exact h1
  refine ⟨fun r hr h1 h2 h3 => ?_, fun x o ho => ?_⟩
  · rw [hg r]
    have hh : kc.hit f U r r = true := ck.hit_iff.2 ⟨h1, h2, h3, rfl⟩
    have h4 := kc.at_none f U r rs hr hh
    exact ⟨_, h4, (ck.mx_spec f U r rs none _ h4).2.1 r hr hh⟩
  · rw [hg x] at ho
    rcases (ck.mx_spec f U x rs none o ho).1 with h1 | ⟨r, hr, h1, h2⟩
    · cases h1
    · obtain ⟨a, b, c, d⟩ := ck.hit_iff.1 h1
      exact ⟨r, hr, a, b, c, d, h2⟩
/-- The window of a map that was built of good batches. -/
theorem ck.built {f M : Int} {bs : List Bat} (hb : cp.Good (-1) bs) (hM : 0 ≤ M) : ck.Map f (kb.go f M 0 (fun _ => none) f bs).2.2 (rc.flat bs) (kb.go f M 0 (fun _ => none) f bs).2.1 ∧ f ≤ (kb.go f M 0 (fun _ => none) f bs).2.2 := by
  have h1 := (kc.go (f := f) (M := M) bs 0 (fun _ => none) f (by simpa using hM)).1
  obtain ⟨h2, h3⟩ := kc.window hb.bok h1
  exact ⟨ck.map_of h2, h3⟩

theorem ck.flat_all (F : Rec → Bool) : ∀ bs : List Bat, rc.flat (ps.all F bs) = (rc.flat bs).filter F
  | [] => rfl
  | b :: bs => by
    rw [rc.flat_one, List.filter_append, ← ck.flat_all F bs]
    unfold ps.all
    rw [List.map_cons, List.filter_cons]
    split
    · rw [rc.flat_one]
      rfl
    · rename_i h
      have h0 : (ps.cut F b).recs.length = 0 := by simpa using h
      rw [show b.recs.filter F = [] from List.eq_nil_of_length_eq_zero h0]
      rfl
theorem ck.all_app (F : Rec → Bool) (a b : List Bat) : ps.all F (a ++ b) = ps.all F a ++ ps.all F b := by unfold ps.all; rw [List.map_append, List.filter_append]
theorem ck.all_flat (F : Rec → Bool) : ∀ ss : List (List Bat), (ss.map (ps.all F)).flatten = ps.all F ss.flatten
  | [] => rfl
  | s :: ss => by rw [List.map_cons, List.flatten_cons, ck.all_flat F ss, List.flatten_cons, ck.all_app]
/-- What All leaves: all segments but the last one are cleaned. -/
theorem ck.outs_snoc (F : Rec → Bool) (init : List (List Bat)) (last : List Bat) : cl.outs F (init ++ [last]) (init.length + 1) = init.map (ps.all F) ++ [last] := by
  apply List.ext_getElem?
  intro i
  have hlen : (cl.outs F (init ++ [last]) (init.length + 1)).length = init.length + 1 := cl.outs_len _ _ _
  by_cases hi : i < init.length
  · rw [List.getElem?_append_left (by rw [List.length_map]; exact hi), List.getElem?_map]
    unfold cl.outs
    rw [List.getElem?_map, List.getElem?_range (by omega)]
    have h1 : init[i]? = some init[i] := List.getElem?_eq_getElem hi
    rw [h1]
    show some (cl.seg F (init ++ [last]) i) = some (ps.all F init[i])
    unfold cl.seg
    rw [if_neg (by rw [List.length_append]; simp; omega), List.getD_eq_getElem?_getD, List.getElem?_append_left hi, h1]
    rfl
  · by_cases he : i = init.length
    · subst he
      rw [List.getElem?_append_right (by rw [List.length_map]; exact Nat.le_refl _), List.length_map, Nat.sub_self]
      unfold cl.outs
      rw [List.getElem?_map, List.getElem?_range (by omega)]
      show some (cl.seg F (init ++ [last]) init.length) = some last
      unfold cl.seg
      rw [if_pos (by rw [List.length_append]; simp), List.getD_eq_getElem?_getD, List.getElem?_append_right (Nat.le_refl _), Nat.sub_self]
      rfl
    · rw [List.getElem?_eq_none (by rw [hlen]; omega), List.getElem?_eq_none (by rw [List.length_append, List.length_map]; simp; omega)]
/-- A log's segments: none, or some and an active one. -/
theorem ck.split (ss : List (List Bat)) : ss = [] ∨ ∃ init last, ss = init ++ [last] ∧ ss.length = init.length + 1 ∧ ss.take (ss.length - 1) = init := by
  rcases List.eq_nil_or_concat ss with h | ⟨init, last, h⟩
  · exact .inl h
  · have h : ss = init ++ [last] := by simpa using h
    refine .inr ⟨init, last, h, by rw [h]; simp, ?_⟩
    rw [h, List.length_append]
    simp
/-- All that is left, and what it was. -/
theorem ck.outs_flat (F : Rec → Bool) (ss : List (List Bat)) : ∃ behind act : List Bat, ss.flatten = behind ++ act ∧ (ss.take (ss.length - 1)).flatten = behind ∧ (cl.outs F ss ss.length).flatten = ps.all F behind ++ act := by
  rcases ck.split ss with rfl | ⟨init, last, h, hl, ht⟩
  · exact ⟨[], [], rfl, rfl, rfl⟩
  · refine ⟨init.flatten, last, by rw [h]; simp, by rw [ht], ?_⟩
    rw [hl, h, ck.outs_snoc, List.flatten_append, ck.all_flat]
    simp
/-- A record stays, if none of its key is behind it and it has a value; or if it has no key. -/
theorem ck.stays_last {f U now grace : Int} {rs : List Rec} {g : ByteArray → Option Int} (h : ck.Map f U rs g) {r : Rec} (hr : r.hasKey = false ∨ (r.hasVal = true ∧ ∀ y ∈ rs, y.hasKey = true → strOf y.key = strOf r.key → y.off ≤ r.off)) : cl.stays g U now grace r = true := by
  unfold cl.stays
  by_cases hk : r.hasKey = false ∨ U ≤ r.off
  · rw [if_pos hk]
  · rw [if_neg hk]
    rcases hr with hr | ⟨hv, hl⟩
    · exact absurd (.inl hr) hk
    · cases hg : g (strOf r.key) with
      | none => rfl
      | some o =>
        dsimp only
        obtain ⟨y, hy, h1, -, -, h4, h5⟩ := h.is r o hg
        have h6 := hl y hy h1 h4
        rw [if_neg (by omega), if_neg (by rw [hv]; simp)]
/-- Is no record of the key of r among these? -/
def ck.newer (r : Rec) (l : List Rec) : Bool := l.all fun y => !y.hasKey || decide (strOf y.key ≠ strOf r.key)
theorem ck.newer_snoc (r y : Rec) (l : List Rec) : ck.newer r (l ++ [y]) = (ck.newer r l && (!y.hasKey || decide (strOf y.key ≠ strOf r.key))) := by unfold ck.newer; rw [List.all_append]; simp
theorem ck.newer_mem {r y : Rec} {l : List Rec} (h : ck.newer r l = true) (hy : y ∈ l) (hk : y.hasKey = true) : strOf y.key ≠ strOf r.key := by
  have h1 := List.all_eq_true.1 h y hy
  rw [hk] at h1
  simpa using h1
/-- The last record of a key that has a value stays, wherever it is. -/
theorem ck.keeps {U now grace : Int} {behind act : List Bat} {g : ByteArray → Option Int} (hb : cp.Good (-1) (behind ++ act)) (h : ck.Map 0 U (rc.flat behind) g) {i : Nat} {r : Rec} (hi : (rc.flat (behind ++ act))[i]? = some r)
    (hr : r.hasKey = false ∨ (r.hasVal = true ∧ ck.newer r ((rc.flat (behind ++ act)).drop (i + 1)) = true)) : r ∈ rc.flat (ps.all (cl.stays g U now grace) behind ++ act) := by
  have hp := (kc.BOk.all _ _ hb.bok).2
  rw [cl.flat_app, ck.flat_all]
  rw [cl.flat_app] at hi hp
  have hm := List.mem_of_getElem? hi
  rcases List.mem_append.1 hm with hm | hm
  · refine List.mem_append_left _ (List.mem_filter.2 ⟨hm, ck.stays_last h ?_⟩)
    rcases hr with hr | ⟨hv, hn⟩
    · exact .inl hr
    · refine .inr ⟨hv, fun y hy hk he => ?_⟩
      rw [cl.flat_app] at hn
      obtain ⟨j, hj⟩ := List.getElem?_of_mem hy
      have hj' : (rc.flat behind ++ rc.flat act)[j]? = some y := by rw [List.getElem?_append_left (List.getElem?_eq_some_iff.1 hj).1]; exact hj
      obtain ⟨hjl, hje⟩ := List.getElem?_eq_some_iff.1 hj'
      obtain ⟨hil, hie⟩ := List.getElem?_eq_some_iff.1 hi
      rcases Nat.lt_trichotomy j i with hlt | heq | hgt
      · have := List.pairwise_iff_getElem.1 hp j i hjl hil hlt
        rw [hje, hie] at this
        omega
      · subst heq
        rw [hi] at hj'
        rw [Option.some.inj hj']
        exact Int.le_refl _
      · refine absurd he (ck.newer_mem hn (List.mem_of_getElem? (i := j - (i + 1)) ?_) hk)
        rw [List.getElem?_drop, show i + 1 + (j - (i + 1)) = j by omega]
        exact hj'
  · exact List.mem_append_right _ hm
def ck.hdr (b : Bat) : Int × Int × Int × Int := (b.base, b.last, b.prod, b.seq)
theorem ck.hdrs (F : Rec → Bool) (behind act : List Bat) : ((ps.all F behind ++ act).map ck.hdr).Sublist ((behind ++ act).map ck.hdr) := by
  rw [List.map_append, List.map_append]
  refine List.Sublist.append ?_ (List.Sublist.refl _)
  unfold ps.all
  have h : behind.map ck.hdr = (behind.map (ps.cut F)).map ck.hdr := by rw [List.map_map]; rfl
  rw [h]
  exact List.Sublist.map _ List.filter_sublist
/-- Two rows of heads, one within the other: where the heads begin alike, they are the same; else the head is further on. -/
theorem ck.next {x y : List Bat} {i k : Nat} {a b : Bat} (hp : y.Pairwise fun a b => a.base < b.base) (ha : x[i]? = some a) (hb : y[k]? = some b) (h : ((x.drop i).map ck.hdr).Sublist ((y.drop k).map ck.hdr)) :
    (b.base = a.base → ck.hdr b = ck.hdr a ∧ ((x.drop (i + 1)).map ck.hdr).Sublist ((y.drop k).map ck.hdr)) ∧ (b.base ≠ a.base → ((x.drop i).map ck.hdr).Sublist ((y.drop (k + 1)).map ck.hdr)) := by
  obtain ⟨hi, ei⟩ := List.getElem?_eq_some_iff.1 ha
  obtain ⟨hk, ek⟩ := List.getElem?_eq_some_iff.1 hb
  rw [List.drop_eq_getElem_cons hi, List.drop_eq_getElem_cons hk, ei, ek, List.map_cons, List.map_cons] at h
  rcases List.sublist_cons_iff.1 h with h | ⟨r, e, h⟩
  · refine ⟨fun he => ?_, fun hne => by rw [List.drop_eq_getElem_cons hi, ei, List.map_cons]; exact h⟩
    exfalso
    have h1 : ck.hdr a ∈ (y.drop (k + 1)).map ck.hdr := h.subset (by simp)
    obtain ⟨c, hc, e⟩ := List.mem_map.1 h1
    have e1 : c.base = a.base := congrArg Prod.fst e
    obtain ⟨j, hj⟩ := List.getElem?_of_mem hc
    rw [List.getElem?_drop] at hj
    obtain ⟨hjl, ej⟩ := List.getElem?_eq_some_iff.1 hj
    have := List.pairwise_iff_getElem.1 hp k (k + 1 + j) hk hjl (by omega)
    rw [ek, ej] at this
    omega
  · rw [List.cons.injEq] at e
    refine ⟨fun he => ⟨e.1.symm, ?_⟩, fun hne => absurd (congrArg Prod.fst e.1).symm hne⟩
    rw [e.2, List.drop_eq_getElem_cons hk, ek, List.map_cons]
    exact h.cons _
/-- Good batches' bases rise. -/
theorem ck.bases {bs : List Bat} {l : Int} (h : cp.Good l bs) : bs.Pairwise fun a b => a.base < b.base := by
  have h1 := h.apart
  have h2 : ∀ b ∈ bs, b.base ≤ b.last := fun b hb => (cp.check (h.mem b hb).2.1).2.1
  exact List.Pairwise.imp_of_mem (fun ha _ hab => by have := h2 _ ha; omega) h1
end Go.Proofs.Ytnlfdhoabbbheaa

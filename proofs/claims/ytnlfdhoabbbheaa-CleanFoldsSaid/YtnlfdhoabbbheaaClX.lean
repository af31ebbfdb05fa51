/- A cleaning leaves what a log says at last. No function of the program is named. -/
import Derived.Test.YtnlfdhoabbbheaaClP
import Derived.Test.YtnlfdhoabbbheaaClF
import Derived.Test.YtnlfdhoabbbheaaFoY
namespace Go.Proofs.Ytnlfdhoabbbheaa
open Go.RowKit
set_option maxRecDepth 20000

def cx.step (s : ByteArray) (o : Option Rec) (r : Rec) : Option Rec := if r.hasKey = true ∧ s = strOf r.key then some r else o
/-- The last record of a key. -/
def cx.last (s : ByteArray) (o : Option Rec) (rs : List Rec) : Option Rec := rs.foldl (cx.step s) o
def cx.says (o : Option Rec) : Option FoV := match o with | some r => if r.hasVal then some (r.key, r.val, r.off) else none | none => none
theorem cx.map_last (s : ByteArray) : ∀ (rs : List Rec) (h : ByteArray → Option FoV) (o : Option Rec), h s = cx.says o → rs.foldl fo.one h s = cx.says (cx.last s o rs)
  | [], _, _, h => h
  | r :: rs, h, o, he => by
    refine cx.map_last s rs (fo.one h r) (cx.step s o r) ?_
    by_cases hk : r.hasKey = true
    · by_cases hs : s = strOf r.key
      · have e1 : fo.one h r s = if r.hasVal then some (r.key, r.val, r.off) else none := by
          unfold fo.one
          rw [if_pos hk]
          exact if_pos hs
        have e2 : cx.step s o r = some r := if_pos ⟨hk, hs⟩
        rw [e1, e2]
        rfl
      · have e1 : fo.one h r s = h s := by
          unfold fo.one
          rw [if_pos hk]
          exact if_neg hs
        have e2 : cx.step s o r = o := if_neg fun h => hs h.2
        rw [e1, e2]
        exact he
    · have e1 : fo.one h r s = h s := by
        unfold fo.one
        rw [if_neg hk]
      have e2 : cx.step s o r = o := if_neg fun h => hk h.1
      rw [e1, e2]
      exact he
theorem cx.map_eq (rs : List Rec) (s : ByteArray) : fo.map rs s = cx.says (cx.last s none rs) := cx.map_last s rs _ none rfl
def cx.of (s : ByteArray) (r : Rec) : Prop := r.hasKey = true ∧ s = strOf r.key
theorem cx.last_none (s : ByteArray) : ∀ (rs : List Rec) (o : Option Rec), cx.last s o rs = none → o = none ∧ ∀ y ∈ rs, ¬ cx.of s y
  | [], o, h => ⟨h, fun y hy => by cases hy⟩
  | r :: rs, o, h => by
    obtain ⟨h1, h2⟩ := cx.last_none s rs (cx.step s o r) h
    unfold cx.step at h1
    by_cases hr : r.hasKey = true ∧ s = strOf r.key
    · rw [if_pos hr] at h1
      cases h1
    · rw [if_neg hr] at h1
      refine ⟨h1, fun y hy => ?_⟩
      rcases List.mem_cons.1 hy with rfl | hy
      · exact hr
      · exact h2 y hy
theorem cx.last_some (s : ByteArray) : ∀ (rs : List Rec) (o : Option Rec) (r : Rec), rs.Pairwise (fun x y => x.off < y.off) → cx.last s o rs = some r → (r ∈ rs ∧ cx.of s r ∧ ∀ y ∈ rs, cx.of s y → y.off ≤ r.off) ∨ (o = some r ∧ ∀ y ∈ rs, ¬ cx.of s y)
  | [], o, r, _, h => .inr ⟨h, fun y hy => by cases hy⟩
  | x :: rs, o, r, hp, h => by
    obtain ⟨hp1, hp2⟩ := List.pairwise_cons.1 hp
    rcases cx.last_some s rs (cx.step s o x) r hp2 h with ⟨h1, h2, h3⟩ | ⟨h1, h2⟩
    · refine .inl ⟨by simp [h1], h2, fun y hy hy2 => ?_⟩
      rcases List.mem_cons.1 hy with rfl | hy
      · have := hp1 r h1
        omega
      · exact h3 y hy hy2
    · unfold cx.step at h1
      by_cases hx : x.hasKey = true ∧ s = strOf x.key
      · rw [if_pos hx] at h1
        obtain rfl := Option.some.inj h1
        refine .inl ⟨by simp, hx, fun y hy hy2 => ?_⟩
        rcases List.mem_cons.1 hy with rfl | hy
        · exact Int.le_refl _
        · exact absurd hy2 (h2 y hy)
      · rw [if_neg hx] at h1
        refine .inr ⟨h1, fun y hy => ?_⟩
        rcases List.mem_cons.1 hy with rfl | hy
        · exact hx
        · exact h2 y hy
theorem cx.uniq {rs : List Rec} (hp : rs.Pairwise fun x y => x.off < y.off) {a b : Rec} (ha : a ∈ rs) (hb : b ∈ rs) (e : a.off = b.off) : a = b := by
  obtain ⟨i, hi⟩ := List.getElem?_of_mem ha
  obtain ⟨j, hj⟩ := List.getElem?_of_mem hb
  obtain ⟨hil, ei⟩ := List.getElem?_eq_some_iff.1 hi
  obtain ⟨hjl, ej⟩ := List.getElem?_eq_some_iff.1 hj
  rcases Nat.lt_trichotomy i j with h | h | h
  · have := List.pairwise_iff_getElem.1 hp i j hil hjl h
    rw [ei, ej] at this
    omega
  · subst h
    rw [hi] at hj
    exact Option.some.inj hj
  · have := List.pairwise_iff_getElem.1 hp j i hjl hil h
    rw [ei, ej] at this
    omega
/-- What is left says what all said. -/
theorem cx.fold {f U now grace : Int} {rs : List Rec} {g : ByteArray → Option Int} (hp : rs.Pairwise fun x y => x.off < y.off) (h : ck.Map f U rs g) : fo.map (rs.filter (cl.stays g U now grace)) = fo.map rs := by
  have hpf := hp.sublist (List.filter_sublist (p := cl.stays g U now grace))
  have hmem : ∀ y, y ∈ rs.filter (cl.stays g U now grace) ↔ y ∈ rs ∧ cl.stays g U now grace y = true := fun y => List.mem_filter
  funext s
  rw [cx.map_eq, cx.map_eq]
  cases hl : cx.last s none rs with
  | none =>
    have hn := (cx.last_none s rs none hl).2
    cases hl2 : cx.last s none (rs.filter (cl.stays g U now grace)) with
    | none => rfl
    | some r =>
      rcases cx.last_some s _ none r hpf hl2 with ⟨h1, h2, -⟩ | ⟨h1, -⟩
      · exact absurd h2 (hn r ((hmem r).1 h1).1)
      · cases h1
  | some r =>
    rcases cx.last_some s rs none r hp hl with ⟨r1, r2, r3⟩ | ⟨h1, -⟩
    · by_cases hF : cl.stays g U now grace r = true
      · have hrf := (hmem r).2 ⟨r1, hF⟩
        cases hl2 : cx.last s none (rs.filter (cl.stays g U now grace)) with
        | none => exact absurd r2 ((cx.last_none s _ none hl2).2 r hrf)
        | some r' =>
          rcases cx.last_some s _ none r' hpf hl2 with ⟨h1, h2, h3⟩ | ⟨h1, -⟩
          · have e1 := h3 r hrf r2
            have e2 := r3 r' ((hmem r').1 h1).1 h2
            rw [cx.uniq hp r1 ((hmem r').1 h1).1 (by omega)]
          · cases h1
      · -- a tombstone that goes
        have hval : r.hasVal = false := by
          cases hv : r.hasVal with
          | false => rfl
          | true => exact absurd (ck.stays_last h (.inr ⟨hv, fun y hy hk he => r3 y hy ⟨hk, by rw [r2.2, he]⟩⟩)) hF
        have hno : ∀ y ∈ rs.filter (cl.stays g U now grace), ¬ cx.of s y := fun y hy hys => by
          obtain ⟨y1, y2⟩ := (hmem y).1 hy
          have hyr := r3 y y1 hys
          have hke : strOf y.key = strOf r.key := by rw [← hys.2, r2.2]
          unfold cl.stays at hF
          by_cases hk : r.hasKey = false ∨ U ≤ r.off
          · rw [if_pos hk] at hF
            exact hF rfl
          · rw [if_neg hk] at hF
            have hku : r.off < U := Int.not_le.1 fun h => hk (.inr h)
            cases hg : g (strOf r.key) with
            | none =>
              rw [hg] at hF
              exact hF rfl
            | some o =>
              obtain ⟨z, z1, z2, z3, z4, z5, z6⟩ := h.is r o hg
              have hzr := r3 z z1 ⟨z2, by rw [r2.2, z5]⟩
              unfold cl.stays at y2
              rw [if_neg (by rw [hys.1]; simp; omega), hke, hg] at y2
              dsimp only at y2
              by_cases hyo : y.off < o
              · rw [if_pos hyo] at y2
                cases y2
              · obtain ⟨o', ho', hle⟩ := h.known r r1 r2.1 (by omega) hku
                rw [hg] at ho'
                have := Option.some.inj ho'
                have e := cx.uniq hp y1 r1 (by omega)
                subst e
                rw [hg] at hF
                dsimp only at hF
                rw [if_neg hyo] at hF y2
                exact hF y2
        have hl2 : cx.last s none (rs.filter (cl.stays g U now grace)) = none := by
          cases hl2 : cx.last s none (rs.filter (cl.stays g U now grace)) with
          | none => rfl
          | some r' =>
            rcases cx.last_some s _ none r' hpf hl2 with ⟨h1, h2, -⟩ | ⟨h1, -⟩
            · exact absurd h2 (hno r' h1)
            · cases h1
        rw [hl2]
        unfold cx.says
        dsimp only
        rw [hval]
        rfl
    · cases h1
theorem cx.map_app (a b c : List Rec) (h : fo.map a = fo.map b) : fo.map (a ++ c) = fo.map (b ++ c) := by
  unfold fo.map at h ⊢
  rw [List.foldl_append, List.foldl_append, h]
theorem cx.gone (F : Rec → Bool) (ss : List (List Bat)) : ∀ k, k ≤ ss.length → cl.gone F ss k = ((rc.flat (ss.take k).flatten).length : Int) - ((rc.flat (cl.outs F ss k).flatten).length : Int)
  | 0, _ => by simp [cl.gone, cl.outs, rc.flat]
  | k + 1, h => by
    have hk : ss[k]? = some ss[k] := List.getElem?_eq_getElem (by omega)
    have hget : ss.getD k [] = ss[k] := by rw [List.getD_eq_getElem?_getD, hk]; rfl
    rw [cl.gone_succ, cx.gone F ss k (by omega), cl.take_flat hk, cl.outs_succ, hget, List.flatten_append, cl.flat_app, cl.flat_app, List.length_append, List.length_append]
    have e : [cl.seg F ss k].flatten = cl.seg F ss k := by simp
    rw [e]
    omega
/-- What one cleaning does. -/
structure cx.Does (xs o : List (List Bat)) (n : Nat) (dirty up gn : Int) : Prop where
  len : o.length = n
  fit : cp.Fit o
  says : fo.map (rc.flat o.flatten) = fo.map (rc.flat xs.flatten)
  sub : (rc.flat o.flatten).Sublist (rc.flat xs.flatten)
  gone : gn = ((rc.flat xs.flatten).length : Int) - ((rc.flat o.flatten).length : Int)
  up : dirty ≤ up
  act : ∀ k, k + 1 = n → ∃ x, o[k]? = some x ∧ xs[k]? = some x
theorem cx.does {now grace dirty M : Int} {xs : List (List Bat)} {n : Nat} (hn : xs.length = n) (hf : cp.Fit xs) (hM : 0 ≤ M) {G : Nat × (ByteArray → Option Int) × Int} (hG : G = kb.go dirty M 0 (fun _ => none) dirty (xs.take (n - 1)).flatten) :
    cx.Does xs (cl.outs (cl.stays G.2.1 G.2.2 now grace) xs n) n dirty G.2.2 (cl.gone (cl.stays G.2.1 G.2.2 now grace) xs n) := by
  subst hn
  obtain ⟨be, ac, h1, h2, h3⟩ := ck.outs_flat (cl.stays G.2.1 G.2.2 now grace) xs
  have hb : kc.BOk (-1) be := by
    have h := hf.bok
    rw [h1] at h
    have hl : ∀ (a b : List Bat) (l : Int), kc.BOk l (a ++ b) → kc.BOk l a := fun a => by
      induction a with
      | nil => exact fun _ _ _ => trivial
      | cons x a ih => exact fun b l h => ⟨h.1, ih b x.last h.2⟩
    exact hl be ac _ h
  rw [h2] at hG
  obtain ⟨hm, hup⟩ := ct.built (f := dirty) hb hM
  rw [← hG] at hm hup
  refine ⟨cl.outs_len _ _ _, hf.outs, ?_, ?_, ?_, hup, fun k hk => ?_⟩
  · rw [h3, h1, cl.flat_app, cl.flat_app, ck.flat_all]
    exact cx.map_app _ _ _ (cx.fold (kc.BOk.all _ _ hb).2 hm)
  · rw [h3, h1, cl.flat_app, cl.flat_app, ck.flat_all]
    exact List.Sublist.append List.filter_sublist (List.Sublist.refl _)
  · rw [cx.gone _ _ _ (Nat.le_refl _), List.take_length]
  · have hx : xs[k]? = some xs[k] := List.getElem?_eq_getElem (by omega)
    refine ⟨xs[k], ?_, hx⟩
    unfold cl.outs
    rw [List.getElem?_map, List.getElem?_range (by omega)]
    show some (cl.seg _ xs k) = _
    unfold cl.seg
    rw [if_pos hk, List.getD_eq_getElem?_getD, hx]
    rfl
/-- Two foldings that say the same are the same pairs. -/
theorem cx.eqs_is : ∀ l1 l2 : List PItm, l1.map PItm.is = l2.map PItm.is → pf.eqs l1 l2 = true
  | [], [], _ => rfl
  | [], _ :: _, h => by cases h
  | _ :: _, [], h => by cases h
  | x :: xs, y :: ys, h => by
    rw [List.map_cons, List.map_cons, List.cons.injEq] at h
    obtain ⟨h1, h2⟩ := h
    unfold PItm.is at h1
    unfold pf.eqs pf.eqv
    rw [cx.eqs_is xs ys h2, show x.bs = y.bs from congrArg Prod.fst h1, show x.vs = y.vs from congrArg (fun t => t.2.1) h1, decide_eq_true rfl, decide_eq_true rfl]
    rfl
theorem cx.eqs {l1 l2 : List PItm} {r1 r2 : List Rec} (h1 : FoIs l1 r1) (h2 : FoIs l2 r2) (hm : fo.map r1 = fo.map r2) (hl : r1.length ≤ r2.length) : pf.eqs l1 l2 = true := cx.eqs_is l1 l2 (by
  have h1' : FoIs l1 r2 := ⟨h1.rises, fun x hx => by rw [← hm]; exact h1.says x hx, fun s v hs => by rw [← hm] at hs; exact h1.all s v hs, Nat.le_trans h1.len hl⟩
  have h := congrArg (List.map Prod.snd) (h1'.same h2)
  rw [List.map_map, List.map_map] at h
  exact h)
end Go.Proofs.Ytnlfdhoabbbheaa

/- commits: those acts alone that are the last of their keys make the same table. No function of the program is named. -/
import Derived.Test.YtkkpbnhagobhmaaCmW
namespace Go.Proofs.Ytkkpbnhagobhmaa
open Go.RowKit
set_option maxRecDepth 20000
/-- Acts of one key. -/
def CAct.same : CAct → CAct → Prop
  | .put e, .put f => e.grp = f.grp ∧ e.top = f.top ∧ e.part = f.part
  | .up g _, .up h _ => g = h
  | _, _ => False
/-- Acts that only put and raise. -/
def CAct.good : CAct → Prop
  | .put e => e.ok = true
  | .up g n => cm.gen g n = true
  | _ => False
open Classical in
noncomputable def co.last : List CAct → List CAct
  | [] => []
  | a :: r => if ∃ b ∈ r, a.same b then co.last r else a :: co.last r
theorem co.last_yes {a : CAct} {r : List CAct} (h : ∃ b ∈ r, a.same b) : co.last (a :: r) = co.last r := by rw [co.last, if_pos h]
theorem co.last_no {a : CAct} {r : List CAct} (h : ¬ ∃ b ∈ r, a.same b) : co.last (a :: r) = a :: co.last r := by rw [co.last, if_neg h]
open Classical in
noncomputable def CAct.off (a : CAct) (x : PlK) (d : Option Int) : Option Int := match a with | .put e => if e.grp = x.g ∧ e.top = x.t ∧ e.part = x.p then some e.off else d | _ => d
def CAct.flo (a : CAct) (g : ByteArray) (d : Int) : Int := match a with | .up h n => if g = h then max d n else d | _ => d
theorem CTab.does_off {T : CTab} {a : CAct} (h : a.good) (x : PlK) : (T.does a).off x = a.off x (T.off x) := by
  cases a with
  | put e =>
    have h1 : e.ok = true := h
    have h2 := e.ok_place h1
    have hp := CEnt.plk_of (e := e) (x := cm.mk e.grp e.top e.part h2.1 h2.2.1 h2.2.2.1 h2.2.2.2.1) rfl rfl rfl
    simp only [CTab.does, hp, CAct.off, CTab.put]
    by_cases hx : x = cm.mk e.grp e.top e.part h2.1 h2.2.1 h2.2.2.1 h2.2.2.2.1
    · rw [if_pos hx, if_pos (by rw [hx]; exact ⟨rfl, rfl, rfl⟩)]
    · rw [if_neg hx, if_neg fun q => hx (PlK.eq q.1.symm q.2.1.symm q.2.2.symm)]
  | up g n => rfl
  | del e => exact h.elim
  | down g => exact h.elim
theorem CTab.does_flo {T : CTab} {a : CAct} (h : a.good) (g : ByteArray) : (T.does a).flo g = a.flo g (T.flo g) := by
  cases a with
  | put e =>
    have h1 : e.ok = true := h
    have h2 := e.ok_place h1
    have hp := CEnt.plk_of (e := e) (x := cm.mk e.grp e.top e.part h2.1 h2.2.1 h2.2.2.1 h2.2.2.2.1) rfl rfl rfl
    simp only [CTab.does, hp, CAct.flo, CTab.put]
  | up k n =>
    simp only [CTab.does, CAct.flo, CTab.raise]
    by_cases e : g = k
    · rw [if_pos e, if_pos e, e]
    · rw [if_neg e, if_neg e]
  | del e => exact h.elim
  | down g => exact h.elim
noncomputable def co.all (T : CTab) (l : List CAct) : CTab := l.foldl CTab.does T
noncomputable def co.off (l : List CAct) (x : PlK) (d : Option Int) : Option Int := l.foldl (fun d a => a.off x d) d
def co.flo (l : List CAct) (g : ByteArray) (d : Int) : Int := l.foldl (fun d a => a.flo g d) d
theorem co.all_off : ∀ (l : List CAct) (T : CTab), (∀ a ∈ l, a.good) → ∀ x, (co.all T l).off x = co.off l x (T.off x)
  | [], _, _, _ => rfl
  | a :: l, T, h, x => by
    have h1 := co.all_off l (T.does a) (fun b hb => h b (by simp [hb])) x
    rw [CTab.does_off (h a (by simp))] at h1
    exact h1
theorem co.all_flo : ∀ (l : List CAct) (T : CTab), (∀ a ∈ l, a.good) → ∀ g, (co.all T l).flo g = co.flo l g (T.flo g)
  | [], _, _, _ => rfl
  | a :: l, T, h, g => by
    have h1 := co.all_flo l (T.does a) (fun b hb => h b (by simp [hb])) g
    rw [CTab.does_flo (h a (by simp))] at h1
    exact h1
theorem CTab.ext {S T : CTab} (h1 : ∀ x, S.off x = T.off x) (h2 : ∀ g, S.flo g = T.flo g) : S = T := by
  obtain ⟨a, b⟩ := S
  obtain ⟨c, d⟩ := T
  have e1 : a = c := funext h1
  have e2 : b = d := funext h2
  rw [e1, e2]
theorem co.off_any {x : PlK} {e : CEnt} (he : e.grp = x.g ∧ e.top = x.t ∧ e.part = x.p) : ∀ (l : List CAct) (c d : Option Int), (∃ b ∈ l, (CAct.put e).same b) → co.off l x c = co.off l x d
  | [], _, _, h => by obtain ⟨b, hb, -⟩ := h; cases hb
  | a :: l, c, d, h => by
    show co.off l x (a.off x c) = co.off l x (a.off x d)
    by_cases h1 : ∃ b ∈ l, (CAct.put e).same b
    · exact co.off_any he l _ _ h1
    · obtain ⟨b, hb, hs⟩ := h
      have hba : b = a := by
        rcases List.mem_cons.1 hb with rfl | hb
        · rfl
        · exact absurd ⟨b, hb, hs⟩ h1
      subst hba
      cases b with
      | put f =>
        have hs : e.grp = f.grp ∧ e.top = f.top ∧ e.part = f.part := hs
        have hf : f.grp = x.g ∧ f.top = x.t ∧ f.part = x.p := ⟨hs.1.symm.trans he.1, hs.2.1.symm.trans he.2.1, hs.2.2.symm.trans he.2.2⟩
        simp only [CAct.off, if_pos hf]
      | up g n => exact hs.elim
      | del e => exact hs.elim
      | down g => exact hs.elim
theorem co.off_last (x : PlK) : ∀ (l : List CAct) (d : Option Int), co.off (co.last l) x d = co.off l x d
  | [], _ => rfl
  | a :: l, d => by
    by_cases h : ∃ b ∈ l, a.same b
    · rw [co.last_yes h, co.off_last x l d]
      show _ = co.off l x (a.off x d)
      cases a with
      | put e =>
        by_cases he : e.grp = x.g ∧ e.top = x.t ∧ e.part = x.p
        · exact co.off_any he l _ _ h
        · simp only [CAct.off, if_neg he]
      | up g n => rfl
      | del e => rfl
      | down g => rfl
    · rw [co.last_no h]
      exact co.off_last x l (a.off x d)
theorem co.flo_le {g : ByteArray} : ∀ (l : List CAct) (d : Int), d ≤ co.flo l g d
  | [], _ => Int.le_refl _
  | a :: l, d => by
    have h := co.flo_le (g := g) l (a.flo g d)
    refine Int.le_trans ?_ h
    cases a with
    | up h n =>
      simp only [CAct.flo]
      split
      · exact Int.le_max_left _ _
      · exact Int.le_refl _
    | put e => exact Int.le_refl _
    | del e => exact Int.le_refl _
    | down g => exact Int.le_refl _
theorem co.flo_mem {g : ByteArray} {n : Int} : ∀ (l : List CAct) (d : Int), CAct.up g n ∈ l → n ≤ co.flo l g d
  | [], _, h => by cases h
  | a :: l, d, h => by
    show n ≤ co.flo l g (a.flo g d)
    rcases List.mem_cons.1 h with rfl | h
    · refine Int.le_trans ?_ (co.flo_le l _)
      simp only [CAct.flo, if_true]
      exact Int.le_max_right _ _
    · exact co.flo_mem l _ h
theorem co.flo_max {g : ByteArray} {n m : Int} (hnm : n ≤ m) : ∀ (l : List CAct) (d : Int), CAct.up g m ∈ l → co.flo l g (max d n) = co.flo l g d
  | [], _, h => by cases h
  | a :: l, d, h => by
    show co.flo l g (a.flo g (max d n)) = co.flo l g (a.flo g d)
    by_cases ha : a = CAct.up g m
    · subst ha
      simp only [CAct.flo, if_true]
      congr 1
      omega
    · have hm : CAct.up g m ∈ l := by
        rcases List.mem_cons.1 h with h | h
        · exact absurd h.symm ha
        · exact h
      have hst : a.flo g (max d n) = max (a.flo g d) n := by
        cases a with
        | up h k =>
          simp only [CAct.flo]
          split
          · omega
          · rfl
        | put e => rfl
        | del e => rfl
        | down g => rfl
      rw [hst]
      exact co.flo_max hnm l _ hm
/-- Generations that are raised rise. -/
def co.up (a b : CAct) : Prop := ∀ g n m, a = .up g n → b = .up g m → n ≤ m
theorem co.flo_last (g : ByteArray) : ∀ (l : List CAct) (d : Int), l.Pairwise co.up → co.flo (co.last l) g d = co.flo l g d
  | [], _, _ => rfl
  | a :: l, d, hp => by
    obtain ⟨h1, h2⟩ := List.pairwise_cons.1 hp
    by_cases h : ∃ b ∈ l, a.same b
    · rw [co.last_yes h, co.flo_last g l d h2]
      show _ = co.flo l g (a.flo g d)
      cases a with
      | up k n =>
        obtain ⟨b, hb, hs⟩ := h
        cases b with
        | up k2 m =>
          obtain rfl : k = k2 := hs
          have hnm : n ≤ m := h1 _ hb k n m rfl rfl
          simp only [CAct.flo]
          by_cases e : g = k
          · subst e
            rw [if_pos rfl, co.flo_max hnm l d hb]
          · rw [if_neg e]
        | put e => exact hs.elim
        | del e => exact hs.elim
        | down g => exact hs.elim
      | put e => rfl
      | del e => rfl
      | down g => rfl
    · rw [co.last_no h]
      exact co.flo_last g l (a.flo g d) h2
theorem co.last_mem : ∀ (l : List CAct) (a : CAct), a ∈ co.last l → a ∈ l
  | [], _, h => h
  | b :: l, a, h => by
    by_cases hb : ∃ c ∈ l, b.same c
    · rw [co.last_yes hb] at h
      exact List.mem_cons_of_mem _ (co.last_mem l a h)
    · rw [co.last_no hb] at h
      rcases List.mem_cons.1 h with rfl | h
      · exact List.mem_cons_self ..
      · exact List.mem_cons_of_mem _ (co.last_mem l a h)
theorem co.last_all (T : CTab) (l : List CAct) (hg : ∀ a ∈ l, a.good) (hp : l.Pairwise co.up) : co.all T (co.last l) = co.all T l := by
  have hg2 : ∀ a ∈ co.last l, a.good := fun a ha => hg a (co.last_mem l a ha)
  refine CTab.ext (fun x => ?_) fun g => ?_
  · rw [co.all_off _ _ hg2, co.all_off _ _ hg, co.off_last]
  · rw [co.all_flo _ _ hg2, co.all_flo _ _ hg, co.flo_last _ _ _ hp]
/-- One act more, as the law makes it. -/
theorem co.up_snoc {l : List CAct} {a : CAct} (hg : ∀ a ∈ l, a.good) (hp : l.Pairwise co.up) (h : ∀ g n, a = .up g n → (co.all CTab.zero l).flo g < n) : (l ++ [a]).Pairwise co.up := by
  refine List.pairwise_append.2 ⟨hp, List.pairwise_singleton _ _, fun b hb c hc g n m e1 e2 => ?_⟩
  obtain rfl : c = a := by simpa using hc
  have h1 := h g m e2
  rw [co.all_flo _ _ hg] at h1
  have h2 := co.flo_mem l (CTab.zero.flo g) (e1 ▸ hb)
  omega
theorem co.all_snoc (T : CTab) (l : List CAct) (a : CAct) : co.all T (l ++ [a]) = (co.all T l).does a := by unfold co.all; rw [List.foldl_append]; rfl
/-- The record of an act. -/
def co.Of (a : CAct) (X : Rec) : Prop := match a with
  | .put e => e.ok = true ∧ ∃ now, X = e.told now
  | .up g n => cm.gen g n = true ∧ ∃ now, X = cm.grec g n now
  | _ => False
theorem co.Of.good {a : CAct} {X : Rec} (h : co.Of a X) : a.good := by
  cases a with
  | put e => exact h.1
  | up g n => exact h.1
  | del e => exact h.elim
  | down g => exact h.elim
theorem co.Of.act {a : CAct} {X : Rec} (h : co.Of a X) : cm.act X = some a := by
  cases a with
  | put e => obtain ⟨h1, now, rfl⟩ := h; exact cm.act_told now h1
  | up g n => obtain ⟨h1, now, rfl⟩ := h; exact cm.act_grec now h1
  | del e => exact h.elim
  | down g => exact h.elim
theorem co.Of.key {a b : CAct} {X Y : Rec} (ha : co.Of a X) (hb : co.Of b Y) : X.key = Y.key ↔ a.same b := by
  cases a with
  | put e =>
    obtain ⟨h1, now, rfl⟩ := ha
    cases b with
    | put f =>
      obtain ⟨h2, now2, rfl⟩ := hb
      show e.key = f.key ↔ _
      constructor
      · intro h
        have k1 := e.key_word
        have k2 := f.key_word
        rw [h, k2] at k1
        have k3 := congrArg (fun q => q.2.1) k1
        simp only at k3
        have r1 := CEnt.key_read (CEnt.ok_pl h1)
        have r2 := CEnt.key_read (CEnt.ok_pl h2)
        rw [← k3, r2] at r1
        have r3 := Option.some.inj r1
        simp only [CEnt.mk.injEq, and_true] at r3
        exact ⟨r3.1.symm, r3.2.1.symm, r3.2.2.symm⟩
      · rintro ⟨e1, e2, e3⟩
        unfold CEnt.key
        rw [e1, e2, e3]
    | up g n =>
      obtain ⟨h2, now2, rfl⟩ := hb
      refine ⟨fun h => ?_, fun h => h.elim⟩
      have h : e.key = cm.gkey g := h
      have k1 := e.key_word
      rw [h, cm.gkey_word] at k1
      have k3 := congrArg (fun q => strOf q.1) k1
      simp only [cm.one_str] at k3
      exact absurd k3 cm.ne_og
    | del e => exact hb.elim
    | down g => exact hb.elim
  | up g n =>
    obtain ⟨h1, now, rfl⟩ := ha
    cases b with
    | put f =>
      obtain ⟨h2, now2, rfl⟩ := hb
      refine ⟨fun h => ?_, fun h => h.elim⟩
      have h : cm.gkey g = f.key := h
      have k1 := f.key_word
      rw [← h, cm.gkey_word] at k1
      have k3 := congrArg (fun q => strOf q.1) k1
      simp only [cm.one_str] at k3
      exact absurd k3 cm.ne_og
    | up k m =>
      obtain ⟨h2, now2, rfl⟩ := hb
      show cm.gkey g = cm.gkey k ↔ _
      constructor
      · intro h
        have k1 := cm.gkey_word g
        have k2 := cm.gkey_word k
        rw [h, k2] at k1
        have k3 := congrArg (fun q => q.2.1) k1
        simp only at k3
        have r1 := cm.keyG_read (cm.gen_facts h1).1 (cm.gen_topic h1)
        have r2 := cm.keyG_read (cm.gen_facts h2).1 (cm.gen_topic h2)
        rw [← k3, r2] at r1
        exact (Option.some.inj r1).symm
      · intro h
        obtain rfl : g = k := h
        rfl
    | del e => exact hb.elim
    | down g => exact hb.elim
  | del e => exact ha.elim
  | down g => exact ha.elim
end Go.Proofs.Ytkkpbnhagobhmaa

/- The disk in plain words: files by their places, names in rising order. What names say. -/
import Derived.Test.YthffkbcjidbdaaaDkW
import Derived.Test.YthffkbcjidbdaaaDkL
import Derived.Sort.Walk0
namespace Go.Proofs.Ythffkbcjidbdaaa
open Go.RowKit Go.Maps
set_option maxRecDepth 100000

/-- Less, by bytes. -/
def bl.lt (s t : ByteArray) : Bool := Op.bytesLess s.toList t.toList
theorem bl.lt_iff (s t : ByteArray) : bl.lt s t = true ↔ s.toList < t.toList := by unfold bl.lt; rw [bytesLess_eq]; simp
theorem bl.irrefl (s : ByteArray) : bl.lt s s = false := by
  rw [Bool.eq_false_iff]
  intro h
  exact List.lt_irrefl _ ((bl.lt_iff s s).1 h)
theorem bl.trans {s t u : ByteArray} (h : bl.lt s t = true) (g : bl.lt t u = true) : bl.lt s u = true := (bl.lt_iff _ _).2 (List.lt_trans ((bl.lt_iff _ _).1 h) ((bl.lt_iff _ _).1 g))
theorem bl.toList_inj {s t : ByteArray} (h : s.toList = t.toList) : s = t := by
  rw [ByteArray.toList_eq, ByteArray.toList_eq] at h
  exact ByteArray.ext (Array.ext' h)
theorem bl.eq_of {s t : ByteArray} (h : bl.lt s t = false) (g : bl.lt t s = false) : s = t := by
  have h' : ¬ s.toList < t.toList := fun e => by rw [(bl.lt_iff s t).2 e] at h; cases h
  have g' : ¬ t.toList < s.toList := fun e => by rw [(bl.lt_iff t s).2 e] at g; cases g
  exact bl.toList_inj (List.le_antisymm (List.not_lt.1 g') (List.not_lt.1 h'))
theorem bl.ne {s t : ByteArray} (h : bl.lt s t = true) : s ≠ t := fun e => by rw [e, bl.irrefl] at h; cases h
theorem bl.flip {s t : ByteArray} (h : bl.lt s t = false) (g : s ≠ t) : bl.lt t s = true := by
  cases e : bl.lt t s with
  | true => rfl
  | false => exact absurd (bl.eq_of h e) g

abbrev RNames := List (ByteArray × Nat)
/-- A names' act: 1 a file's beginning, 2 a rename, 3 a removal. -/
structure RAct where
  kind : Nat
  a : ByteArray
  b : ByteArray
  f : Nat
def rd.look : RNames → ByteArray → Option Nat
  | [], _ => none
  | x :: l, s => if x.1 = s then some x.2 else rd.look l s
def rd.without (l : RNames) (s : ByteArray) : RNames := l.filter fun x => decide (x.1 ≠ s)
def rd.ins : RNames → ByteArray → Nat → RNames
  | [], s, f => [(s, f)]
  | x :: l, s, f => if bl.lt x.1 s = true then x :: rd.ins l s f else (s, f) :: x :: l
def rd.with (l : RNames) (s : ByteArray) (f : Nat) : RNames := rd.ins (rd.without l s) s f
def rd.apply (l : RNames) (a : RAct) : RNames := if a.kind = 1 then rd.with l a.a a.f else if a.kind = 2 then rd.with (rd.without l a.a) a.b a.f else rd.without l a.a
def rd.applyAll (l : RNames) (xs : List RAct) : RNames := xs.foldl rd.apply l

theorem rd.look_without (l : RNames) (s t : ByteArray) : rd.look (rd.without l s) t = if t = s then none else rd.look l t := by
  induction l with
  | nil => unfold rd.without rd.look; simp
  | cons x l ih =>
    unfold rd.without at ih ⊢
    by_cases hx : x.1 = s
    · rw [List.filter_cons_of_neg (by simp [hx]), ih]
      by_cases ht : t = s
      · rw [if_pos ht, if_pos ht]
      · rw [if_neg ht, if_neg ht]
        show _ = if x.1 = t then _ else _
        rw [if_neg (fun e => ht (by rw [← e, hx]))]
    · rw [List.filter_cons_of_pos (by simp [hx])]
      show (if x.1 = t then some x.2 else rd.look (l.filter _) t) = if t = s then none else (if x.1 = t then some x.2 else rd.look l t)
      by_cases hxt : x.1 = t
      · rw [if_pos hxt, if_pos hxt, if_neg (fun e => hx (by rw [hxt, e]))]
      · rw [if_neg hxt, if_neg hxt, ih]
theorem rd.look_ins (l : RNames) (s : ByteArray) (f : Nat) (t : ByteArray) (h : rd.look l s = none) : rd.look (rd.ins l s f) t = if t = s then some f else rd.look l t := by
  induction l with
  | nil =>
    show (if s = t then some f else none) = if t = s then some f else none
    by_cases e : t = s
    · rw [if_pos e, if_pos e.symm]
    · rw [if_neg e, if_neg (fun q => e q.symm)]
  | cons x l ih =>
    have h' : (if x.1 = s then some x.2 else rd.look l s) = none := h
    have hx : x.1 ≠ s := fun e => by rw [if_pos e] at h'; cases h'
    rw [if_neg hx] at h'
    unfold rd.ins
    by_cases hl : bl.lt x.1 s = true
    · rw [if_pos hl]
      show (if x.1 = t then some x.2 else rd.look (rd.ins l s f) t) = if t = s then some f else (if x.1 = t then some x.2 else rd.look l t)
      rw [ih h']
      by_cases e : t = s
      · rw [if_pos e, if_pos e, if_neg (fun q => hx (by rw [q, e]))]
      · rw [if_neg e, if_neg e]
    · rw [if_neg hl]
      show (if s = t then some f else (if x.1 = t then some x.2 else rd.look l t)) = if t = s then some f else (if x.1 = t then some x.2 else rd.look l t)
      by_cases e : t = s
      · rw [if_pos e, if_pos e.symm]
      · rw [if_neg e, if_neg (fun q => e q.symm)]
theorem rd.look_with (l : RNames) (s : ByteArray) (f : Nat) (t : ByteArray) : rd.look (rd.with l s f) t = if t = s then some f else rd.look l t := by
  unfold rd.with
  rw [rd.look_ins _ _ _ _ (by rw [rd.look_without, if_pos rfl]), rd.look_without]
  by_cases e : t = s
  · rw [if_pos e, if_pos e]
  · rw [if_neg e, if_neg e, if_neg e]
theorem rd.mem_ins {l : RNames} {s : ByteArray} {f : Nat} {x : ByteArray × Nat} : x ∈ rd.ins l s f ↔ x = (s, f) ∨ x ∈ l := by
  induction l with
  | nil => unfold rd.ins; simp
  | cons y l ih =>
    unfold rd.ins
    split
    · rw [List.mem_cons, ih, List.mem_cons]
      constructor
      · rintro (h | h | h)
        · exact .inr (.inl h)
        · exact .inl h
        · exact .inr (.inr h)
      · rintro (h | h | h)
        · exact .inr (.inl h)
        · exact .inl h
        · exact .inr (.inr h)
    · rw [List.mem_cons]
theorem rd.ins_perm (l : RNames) (s : ByteArray) (f : Nat) : (rd.ins l s f).Perm ((s, f) :: l) := by
  induction l with
  | nil => exact List.Perm.refl _
  | cons y l ih =>
    unfold rd.ins
    split
    · exact (ih.cons y).trans (List.Perm.swap _ _ _)
    · exact List.Perm.refl _
theorem rd.ins_len (l : RNames) (s : ByteArray) (f : Nat) : (rd.ins l s f).length = l.length + 1 := (rd.ins_perm l s f).length_eq
theorem rd.without_len (l : RNames) (s : ByteArray) : (rd.without l s).length ≤ l.length := List.length_filter_le _ _
theorem rd.with_len (l : RNames) (s : ByteArray) (f : Nat) : (rd.with l s f).length ≤ l.length + 1 := by
  unfold rd.with
  rw [rd.ins_len]
  have := rd.without_len l s
  omega
theorem rd.apply_len (l : RNames) (a : RAct) : (rd.apply l a).length ≤ l.length + 1 := by
  unfold rd.apply
  split
  · exact rd.with_len _ _ _
  · split
    · have := rd.with_len (rd.without l a.a) a.b a.f
      have := rd.without_len l a.a
      omega
    · have := rd.without_len l a.a
      omega
/-- Names rise. -/
abbrev rd.Rises (l : RNames) : Prop := l.Pairwise fun x y => bl.lt x.1 y.1 = true
theorem rd.rises_without {l : RNames} (h : rd.Rises l) (s : ByteArray) : rd.Rises (rd.without l s) := List.Pairwise.filter _ h
theorem rd.mem_without {l : RNames} {s : ByteArray} {x : ByteArray × Nat} : x ∈ rd.without l s ↔ x ∈ l ∧ x.1 ≠ s := by
  unfold rd.without
  rw [List.mem_filter, decide_eq_true_eq]
theorem rd.rises_ins {l : RNames} (h : rd.Rises l) {s : ByteArray} {f : Nat} (hs : ∀ x ∈ l, x.1 ≠ s) : rd.Rises (rd.ins l s f) := by
  induction l with
  | nil => unfold rd.ins; exact List.pairwise_singleton _ _
  | cons x l ih =>
    have hx := List.pairwise_cons.1 h
    unfold rd.ins
    split
    · rename_i hl
      refine List.pairwise_cons.2 ⟨fun y hy => ?_, ih hx.2 fun y hy => hs y (List.mem_cons_of_mem _ hy)⟩
      rcases rd.mem_ins.1 hy with rfl | hy
      · exact hl
      · exact hx.1 y hy
    · rename_i hl
      have hsx := bl.flip (by simpa using hl) (hs x (by simp))
      refine List.pairwise_cons.2 ⟨fun y hy => ?_, h⟩
      rcases List.mem_cons.1 hy with rfl | hy
      · exact hsx
      · exact bl.trans hsx (hx.1 y hy)
theorem rd.rises_with {l : RNames} (h : rd.Rises l) (s : ByteArray) (f : Nat) : rd.Rises (rd.with l s f) := rd.rises_ins (rd.rises_without h s) fun _ hx => (rd.mem_without.1 hx).2
theorem rd.rises_apply {l : RNames} (h : rd.Rises l) (a : RAct) : rd.Rises (rd.apply l a) := by
  unfold rd.apply
  split
  · exact rd.rises_with h _ _
  · split
    · exact rd.rises_with (rd.rises_without h _) _ _
    · exact rd.rises_without h _
theorem rd.rises_all {xs : List RAct} : ∀ {l : RNames}, rd.Rises l → rd.Rises (rd.applyAll l xs) := by
  induction xs with
  | nil => intro l h; exact h
  | cons a xs ih => intro l h; exact ih (rd.rises_apply h a)
theorem rd.look_mem {l : RNames} {s : ByteArray} {f : Nat} (h : rd.look l s = some f) : (s, f) ∈ l := by
  induction l with
  | nil => cases h
  | cons x l ih =>
    have h' : (if x.1 = s then some x.2 else rd.look l s) = some f := h
    split at h'
    · rename_i e
      have h2 : x.2 = f := by simpa using h'
      rw [← e, ← h2]
      exact List.mem_cons_self
    · exact List.mem_cons_of_mem _ (ih h')
theorem rd.mem_look {l : RNames} (hr : rd.Rises l) {s : ByteArray} {f : Nat} (h : (s, f) ∈ l) : rd.look l s = some f := by
  induction l with
  | nil => cases h
  | cons x l ih =>
    have hx := List.pairwise_cons.1 hr
    show (if x.1 = s then some x.2 else rd.look l s) = some f
    rcases List.mem_cons.1 h with e | h
    · rw [if_pos (by rw [← e]), ← e]
    · rw [if_neg (bl.ne (hx.1 _ h))]
      exact ih hx.2 h
theorem rd.look_none {l : RNames} {s : ByteArray} (h : rd.look l s = none) : ∀ x ∈ l, x.1 ≠ s := by
  induction l with
  | nil => intro x hx; cases hx
  | cons y l ih =>
    have h' : (if y.1 = s then some y.2 else rd.look l s) = none := h
    intro x hx
    by_cases e : y.1 = s
    · rw [if_pos e] at h'; cases h'
    · rw [if_neg e] at h'
      rcases List.mem_cons.1 hx with rfl | hx
      · exact e
      · exact ih h' x hx
theorem rd.without_none {l : RNames} {s : ByteArray} (h : rd.look l s = none) : rd.without l s = l := by
  unfold rd.without
  rw [List.filter_eq_self]
  intro x hx
  exact decide_eq_true (rd.look_none h x hx)

/-- How much names weigh. -/
def rd.sum (g : Nat → Int) (l : RNames) : Int := (l.map fun x => g x.2).sum
theorem rd.sum_cons (g : Nat → Int) (x : ByteArray × Nat) (l : RNames) : rd.sum g (x :: l) = g x.2 + rd.sum g l := by unfold rd.sum; simp
theorem rd.sum_ins (g : Nat → Int) (l : RNames) (s : ByteArray) (f : Nat) : rd.sum g (rd.ins l s f) = g f + rd.sum g l := by
  induction l with
  | nil => rfl
  | cons x l ih =>
    unfold rd.ins
    split
    · rw [rd.sum_cons, ih, rd.sum_cons]; omega
    · rw [rd.sum_cons]
theorem rd.sum_without (g : Nat → Int) {l : RNames} (hr : rd.Rises l) (s : ByteArray) : rd.sum g (rd.without l s) = rd.sum g l - ((rd.look l s).map g).getD 0 := by
  induction l with
  | nil => rfl
  | cons x l ih =>
    have hx := List.pairwise_cons.1 hr
    have hl : rd.look (x :: l) s = if x.1 = s then some x.2 else rd.look l s := rfl
    by_cases e : x.1 = s
    · have h0 : rd.look l s = none := by
        cases h : rd.look l s with
        | none => rfl
        | some f => exact absurd e (bl.ne (hx.1 _ (rd.look_mem h)))
      have h1 : rd.without (x :: l) s = l := by
        have : rd.without (x :: l) s = rd.without l s := by unfold rd.without; rw [List.filter_cons_of_neg (by simp [e])]
        rw [this, rd.without_none h0]
      rw [h1, hl, if_pos e, rd.sum_cons]
      simp
      omega
    · have h1 : rd.without (x :: l) s = x :: rd.without l s := by unfold rd.without; rw [List.filter_cons_of_pos (by simp [e])]
      rw [h1, hl, if_neg e, rd.sum_cons, rd.sum_cons, ih hx.2]
      omega
theorem rd.sum_congr {g g' : Nat → Int} {l : RNames} (h : ∀ x ∈ l, g x.2 = g' x.2) : rd.sum g l = rd.sum g' l := by
  unfold rd.sum
  rw [List.map_congr_left h]
theorem rd.sum_one {g g' : Nat → Int} {l : RNames} {f : Nat} (hn : (l.map Prod.snd).Nodup) (hf : f ∈ l.map Prod.snd) (h : ∀ i, i ≠ f → g i = g' i) : rd.sum g' l = rd.sum g l - g f + g' f := by
  induction l with
  | nil => cases hf
  | cons x l ih =>
    rw [List.map_cons, List.nodup_cons] at hn
    rw [rd.sum_cons, rd.sum_cons]
    rw [List.map_cons, List.mem_cons] at hf
    by_cases e : x.2 = f
    · have : rd.sum g' l = rd.sum g l := (rd.sum_congr fun y hy => (h y.2 fun q => hn.1 (by rw [e, ← q]; exact List.mem_map_of_mem hy)).symm)
      rw [this, e]
      omega
    · rw [ih hn.2 (hf.resolve_left fun q => e q.symm), h x.2 e]
      omega
theorem rd.sum_pos {g : Nat → Int} {l : RNames} (h : ∀ i, 0 ≤ g i) : 0 ≤ rd.sum g l := by
  induction l with
  | nil => exact Int.le_refl _
  | cons x l ih => rw [rd.sum_cons]; have := h x.2; omega
theorem rd.sum_le {g : Nat → Int} {l : RNames} (h : ∀ i, 0 ≤ g i) {s : ByteArray} {f : Nat} (hf : rd.look l s = some f) : g f ≤ rd.sum g l := by
  have hm := rd.look_mem hf
  clear hf
  induction l with
  | nil => cases hm
  | cons x l ih =>
    rw [rd.sum_cons]
    rcases List.mem_cons.1 hm with e | hm
    · have := rd.sum_pos (l := l) h
      rw [← e]
      dsimp only
      omega
    · have := ih hm
      have := h x.2
      omega

/-- An act, as files lie. -/
def rd.toD (ι : Nat → Nat) (a : RAct) : DAct := if a.kind = 1 then ⟨dk.no, a.a, some (ι a.f)⟩ else if a.kind = 2 then ⟨a.a, a.b, some (ι a.f)⟩ else ⟨a.a, dk.no, Option.none⟩
/-- An act that may be. -/
def RAct.ok (a : RAct) (n : Nat) : Prop := (a.kind = 1 ∨ a.kind = 2 ∨ a.kind = 3) ∧ dk.okName a.a = true ∧ (a.kind = 2 → dk.okName a.b = true) ∧ (a.kind ≠ 3 → a.f < n)
theorem rd.on {ι : Nat → Nat} {a : RAct} {n : Nat} (ha : a.ok n) (l : RNames) {N : DNames} (hN : ∀ s, N s = (rd.look l s).map ι) (s : ByteArray) : (rd.toD ι a).on N s = (rd.look (rd.apply l a) s).map ι := by
  obtain ⟨hk, h1, h2, -⟩ := ha
  have n1 := dk.ok_no h1
  have hput : ∀ (N : DNames) (u : ByteArray) (f : Option Nat) (t : ByteArray), dk.put N u f t = if t = u then f else N t := fun _ _ _ _ => rfl
  unfold rd.toD rd.apply
  rcases hk with hk | hk | hk
  · rw [if_pos hk, if_pos hk, rd.look_with]
    unfold DAct.on
    dsimp only
    rw [if_pos rfl, if_neg n1, hput, hN]
    by_cases e : s = a.a
    · rw [if_pos e, if_pos e]; rfl
    · rw [if_neg e, if_neg e]
  · have n2 := dk.ok_no (h2 hk)
    rw [if_neg (by omega), if_pos hk, if_neg (by omega), if_pos hk, rd.look_with, rd.look_without]
    unfold DAct.on
    dsimp only
    rw [if_neg n1, if_neg n2, hput, hput, hN]
    by_cases e : s = a.b
    · rw [if_pos e, if_pos e]; rfl
    · rw [if_neg e, if_neg e]
      by_cases e : s = a.a
      · rw [if_pos e, if_pos e]; rfl
      · rw [if_neg e, if_neg e]
  · rw [if_neg (by omega), if_neg (by omega), if_neg (by omega), if_neg (by omega), rd.look_without]
    unfold DAct.on
    dsimp only
    rw [if_neg n1, if_pos rfl, hput, hN]
    by_cases e : s = a.a
    · rw [if_pos e, if_pos e]; rfl
    · rw [if_neg e, if_neg e]
theorem rd.run {ι : Nat → Nat} {n : Nat} {xs : List RAct} : ∀ {l : RNames} {N : DNames}, (∀ a ∈ xs, a.ok n) → (∀ s, N s = (rd.look l s).map ι) → ∀ s, dk.run N (xs.map (rd.toD ι)) s = (rd.look (rd.applyAll l xs) s).map ι := by
  induction xs with
  | nil => intro l N _ h s; exact h s
  | cons a xs ih =>
    intro l N ha h s
    exact ih (l := rd.apply l a) (N := (rd.toD ι a).on N) (fun b hb => ha b (List.mem_cons_of_mem _ hb)) (fun t => rd.on (ha a (by simp)) l h t) s
theorem rd.toD_congr {ι κ : Nat → Nat} {a : RAct} {n : Nat} (ha : a.ok n) (h : ∀ i, i < n → ι i = κ i) : rd.toD ι a = rd.toD κ a := by
  obtain ⟨hk, -, -, h4⟩ := ha
  unfold rd.toD
  rcases hk with hk | hk | hk
  · rw [if_pos hk, if_pos hk, h _ (h4 (by omega))]
  · rw [if_neg (by omega), if_pos hk, if_neg (by omega), if_pos hk, h _ (h4 (by omega))]
  · rw [if_neg (by omega), if_neg (by omega), if_neg (by omega), if_neg (by omega)]
theorem rd.mem_apply {l : RNames} {a : RAct} {x : ByteArray × Nat} (h : x ∈ rd.apply l a) : x ∈ l ∨ (a.kind = 1 ∧ x = (a.a, a.f)) ∨ (a.kind = 2 ∧ x = (a.b, a.f)) := by
  unfold rd.apply rd.with at h
  split at h
  · rename_i hk
    rcases rd.mem_ins.1 h with e | h
    · exact .inr (.inl ⟨hk, e⟩)
    · exact .inl (rd.mem_without.1 h).1
  · split at h
    · rename_i hk
      rcases rd.mem_ins.1 h with e | h
      · exact .inr (.inr ⟨hk, e⟩)
      · exact .inl (rd.mem_without.1 (rd.mem_without.1 h).1).1
    · exact .inl (rd.mem_without.1 h).1
/-- Names of files that are. -/
def rd.Good (l : RNames) (n : Nat) : Prop := ∀ x ∈ l, x.2 < n ∧ dk.okName x.1 = true
theorem rd.good_apply {l : RNames} {n : Nat} {a : RAct} (h : rd.Good l n) (ha : a.ok n) : rd.Good (rd.apply l a) n := fun x hx => by
  rcases rd.mem_apply hx with h1 | ⟨hk, rfl⟩ | ⟨hk, rfl⟩
  · exact h x h1
  · exact ⟨ha.2.2.2 (by omega), ha.2.1⟩
  · exact ⟨ha.2.2.2 (by omega), ha.2.2.1 hk⟩
theorem rd.good_all {xs : List RAct} {n : Nat} : ∀ {l : RNames}, rd.Good l n → (∀ a ∈ xs, a.ok n) → rd.Good (rd.applyAll l xs) n := by
  induction xs with
  | nil => intro l h _; exact h
  | cons a xs ih => intro l h ha; exact ih (rd.good_apply h (ha a (by simp))) fun b hb => ha b (List.mem_cons_of_mem _ hb)
theorem rd.all_len {xs : List RAct} : ∀ {l : RNames}, (rd.applyAll l xs).length ≤ l.length + xs.length := by
  induction xs with
  | nil => intro l; exact Nat.le_refl _
  | cons a xs ih =>
    intro l
    have h1 : (rd.applyAll l (a :: xs)).length = (rd.applyAll (rd.apply l a) xs).length := rfl
    have h2 := ih (l := rd.apply l a)
    have h3 := rd.apply_len l a
    rw [List.length_cons]
    omega
end Go.Proofs.Ythffkbcjidbdaaa

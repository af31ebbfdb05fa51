/- The disk in plain words (RDisk), and the program's disk in memory that says it (PDisk). -/
import Derived.Test.YthffkbcjidbdaaaDkW
import Derived.Test.YthffkbcjidbdaaaDkL
import Derived.Sort.Walk0
namespace Go.Proofs.Ythffkbcjidbdaaa
section
open Go.RowKit Go.Maps
set_option maxRecDepth 100000

/-- Less, by bytes. -/
def bl.lt (s t : ByteArray) : Bool := Op.bytesLess s.toList t.toList
theorem bl.lt_iff (s t : ByteArray) : bl.lt s t = true ↔ s.toList < t.toList := by unfold bl.lt; rw [bytesLess_eq]; simp
theorem bl.irrefl (s : ByteArray) : bl.lt s s = false := by
  rw [Bool.eq_false_iff]
  intro h
  exact List.lt_irrefl _ ((bl.lt_iff s s).1 h)
theorem bl.trans {s t u : ByteArray} (h : bl.lt s t = true) (g : bl.lt t u = true) : bl.lt s u = true := (bl.lt_iff _ _).2 (List.lt_trans ((bl.lt_iff _ _).1 h) ((bl.lt_iff _ _).1 g))
theorem bl.toList_inj {s t : ByteArray} (h : s.toList = t.toList) : s = t := by
  rw [ByteArray.toList_eq, ByteArray.toList_eq] at h
  exact ByteArray.ext (Array.ext' h)
theorem bl.eq_of {s t : ByteArray} (h : bl.lt s t = false) (g : bl.lt t s = false) : s = t := by
  have h' : ¬ s.toList < t.toList := fun e => by rw [(bl.lt_iff s t).2 e] at h; cases h
  have g' : ¬ t.toList < s.toList := fun e => by rw [(bl.lt_iff t s).2 e] at g; cases g
  exact bl.toList_inj (List.le_antisymm (List.not_lt.1 g') (List.not_lt.1 h'))
theorem bl.ne {s t : ByteArray} (h : bl.lt s t = true) : s ≠ t := fun e => by rw [e, bl.irrefl] at h; cases h
theorem bl.flip {s t : ByteArray} (h : bl.lt s t = false) (g : s ≠ t) : bl.lt t s = true := by
  cases e : bl.lt t s with
  | true => rfl
  | false => exact absurd (bl.eq_of h e) g

abbrev RNames := List (ByteArray × Nat)
/-- A names' act: 1 a file's beginning, 2 a rename, 3 a removal. -/
structure RAct where
  kind : Nat
  a : ByteArray
  b : ByteArray
  f : Nat
def rd.look : RNames → ByteArray → Option Nat
  | [], _ => none
  | x :: l, s => if x.1 = s then some x.2 else rd.look l s
def rd.without (l : RNames) (s : ByteArray) : RNames := l.filter fun x => decide (x.1 ≠ s)
def rd.ins : RNames → ByteArray → Nat → RNames
  | [], s, f => [(s, f)]
  | x :: l, s, f => if bl.lt x.1 s = true then x :: rd.ins l s f else (s, f) :: x :: l
def rd.with (l : RNames) (s : ByteArray) (f : Nat) : RNames := rd.ins (rd.without l s) s f
def rd.apply (l : RNames) (a : RAct) : RNames := if a.kind = 1 then rd.with l a.a a.f else if a.kind = 2 then rd.with (rd.without l a.a) a.b a.f else rd.without l a.a
def rd.applyAll (l : RNames) (xs : List RAct) : RNames := xs.foldl rd.apply l

theorem rd.look_without (l : RNames) (s t : ByteArray) : rd.look (rd.without l s) t = if t = s then none else rd.look l t := by
  induction l with
  | nil => unfold rd.without rd.look; simp
  | cons x l ih =>
    unfold rd.without at ih ⊢
    by_cases hx : x.1 = s
    · rw [List.filter_cons_of_neg (by simp [hx]), ih]
      by_cases ht : t = s
      · rw [if_pos ht, if_pos ht]
      · rw [if_neg ht, if_neg ht]
        show _ = if x.1 = t then _ else _
        rw [if_neg (fun e => ht (by rw [← e, hx]))]
    · rw [List.filter_cons_of_pos (by simp [hx])]
      show (if x.1 = t then some x.2 else rd.look (l.filter _) t) = if t = s then none else (if x.1 = t then some x.2 else rd.look l t)
      by_cases hxt : x.1 = t
      · rw [if_pos hxt, if_pos hxt, if_neg (fun e => hx (by rw [hxt, e]))]
      · rw [if_neg hxt, if_neg hxt, ih]
theorem rd.look_ins (l : RNames) (s : ByteArray) (f : Nat) (t : ByteArray) (h : rd.look l s = none) : rd.look (rd.ins l s f) t = if t = s then some f else rd.look l t := by
  induction l with
  | nil =>
    show (if s = t then some f else none) = if t = s then some f else none
    by_cases e : t = s
    · rw [if_pos e, if_pos e.symm]
    · rw [if_neg e, if_neg (fun q => e q.symm)]
  | cons x l ih =>
    have h' : (if x.1 = s then some x.2 else rd.look l s) = none := h
    have hx : x.1 ≠ s := fun e => by rw [if_pos e] at h'; cases h'
    rw [if_neg hx] at h'
    unfold rd.ins
    by_cases hl : bl.lt x.1 s = true
    · rw [if_pos hl]
      show (if x.1 = t then some x.2 else rd.look (rd.ins l s f) t) = if t = s then some f else (if x.1 = t then some x.2 else rd.look l t)
      rw [ih h']
      by_cases e : t = s
      · rw [if_pos e, if_pos e, if_neg (fun q => hx (by rw [q, e]))]
      · rw [if_neg e, if_neg e]
    · rw [if_neg hl]
      show (if s = t then some f else (if x.1 = t then some x.2 else rd.look l t)) = if t = s then some f else (if x.1 = t then some x.2 else rd.look l t)
      by_cases e : t = s
      · rw [if_pos e, if_pos e.symm]
      · rw [if_neg e, if_neg (fun q => e q.symm)]
theorem rd.look_with (l : RNames) (s : ByteArray) (f : Nat) (t : ByteArray) : rd.look (rd.with l s f) t = if t = s then some f else rd.look l t := by
  unfold rd.with
  rw [rd.look_ins _ _ _ _ (by rw [rd.look_without, if_pos rfl]), rd.look_without]
  by_cases e : t = s
  · rw [if_pos e, if_pos e]
  · rw [if_neg e, if_neg e, if_neg e]
theorem rd.mem_ins {l : RNames} {s : ByteArray} {f : Nat} {x : ByteArray × Nat} : x ∈ rd.ins l s f ↔ x = (s, f) ∨ x ∈ l := by
  induction l with
  | nil => unfold rd.ins; simp
  | cons y l ih =>
    unfold rd.ins
    split
    · rw [List.mem_cons, ih, List.mem_cons]
      constructor
      · rintro (h | h | h)
        · exact .inr (.inl h)
        · exact .inl h
        · exact .inr (.inr h)
      · rintro (h | h | h)
        · exact .inr (.inl h)
        · exact .inl h
        · exact .inr (.inr h)
    · rw [List.mem_cons]
theorem rd.ins_perm (l : RNames) (s : ByteArray) (f : Nat) : (rd.ins l s f).Perm ((s, f) :: l) := by
  induction l with
  | nil => exact List.Perm.refl _
  | cons y l ih =>
    unfold rd.ins
    split
    · exact (ih.cons y).trans (List.Perm.swap _ _ _)
    · exact List.Perm.refl _
theorem rd.ins_len (l : RNames) (s : ByteArray) (f : Nat) : (rd.ins l s f).length = l.length + 1 := (rd.ins_perm l s f).length_eq
theorem rd.without_len (l : RNames) (s : ByteArray) : (rd.without l s).length ≤ l.length := List.length_filter_le _ _
theorem rd.with_len (l : RNames) (s : ByteArray) (f : Nat) : (rd.with l s f).length ≤ l.length + 1 := by
  unfold rd.with
  rw [rd.ins_len]
  have := rd.without_len l s
  omega
theorem rd.apply_len (l : RNames) (a : RAct) : (rd.apply l a).length ≤ l.length + 1 := by
  unfold rd.apply
  split
  · exact rd.with_len _ _ _
  · split
    · have := rd.with_len (rd.without l a.a) a.b a.f
      have := rd.without_len l a.a
      omega
    · have := rd.without_len l a.a
      omega
/-- Names rise. -/
abbrev rd.Rises (l : RNames) : Prop := l.Pairwise fun x y => bl.lt x.1 y.1 = true
theorem rd.rises_without {l : RNames} (h : rd.Rises l) (s : ByteArray) : rd.Rises (rd.without l s) := List.Pairwise.filter _ h
theorem rd.mem_without {l : RNames} {s : ByteArray} {x : ByteArray × Nat} : x ∈ rd.without l s ↔ x ∈ l ∧ x.1 ≠ s := by
  unfold rd.without
  rw [List.mem_filter, decide_eq_true_eq]
theorem rd.rises_ins {l : RNames} (h : rd.Rises l) {s : ByteArray} {f : Nat} (hs : ∀ x ∈ l, x.1 ≠ s) : rd.Rises (rd.ins l s f) := by
  induction l with
  | nil => unfold rd.ins; exact List.pairwise_singleton _ _
  | cons x l ih =>
    have hx := List.pairwise_cons.1 h
    unfold rd.ins
    split
    · rename_i hl
      refine List.pairwise_cons.2 ⟨fun y hy => ?_, ih hx.2 fun y hy => hs y (List.mem_cons_of_mem _ hy)⟩
      rcases rd.mem_ins.1 hy with rfl | hy
      · exact hl
      · exact hx.1 y hy
    · rename_i hl
      have hsx := bl.flip (by simpa using hl) (hs x (by simp))
      refine List.pairwise_cons.2 ⟨fun y hy => ?_, h⟩
      rcases List.mem_cons.1 hy with rfl | hy
      · exact hsx
      · exact bl.trans hsx (hx.1 y hy)
theorem rd.rises_with {l : RNames} (h : rd.Rises l) (s : ByteArray) (f : Nat) : rd.Rises (rd.with l s f) := rd.rises_ins (rd.rises_without h s) fun _ hx => (rd.mem_without.1 hx).2
theorem rd.rises_apply {l : RNames} (h : rd.Rises l) (a : RAct) : rd.Rises (rd.apply l a) := by
  unfold rd.apply
  split
  · exact rd.rises_with h _ _
  · split
    · exact rd.rises_with (rd.rises_without h _) _ _
    · exact rd.rises_without h _
theorem rd.rises_all {xs : List RAct} : ∀ {l : RNames}, rd.Rises l → rd.Rises (rd.applyAll l xs) := by
  induction xs with
  | nil => intro l h; exact h
  | cons a xs ih => intro l h; exact ih (rd.rises_apply h a)
theorem rd.look_mem {l : RNames} {s : ByteArray} {f : Nat} (h : rd.look l s = some f) : (s, f) ∈ l := by
  induction l with
  | nil => cases h
  | cons x l ih =>
    have h' : (if x.1 = s then some x.2 else rd.look l s) = some f := h
    split at h'
    · rename_i e
      have h2 : x.2 = f := by simpa using h'
      rw [← e, ← h2]
      exact List.mem_cons_self
    · exact List.mem_cons_of_mem _ (ih h')
theorem rd.mem_look {l : RNames} (hr : rd.Rises l) {s : ByteArray} {f : Nat} (h : (s, f) ∈ l) : rd.look l s = some f := by
  induction l with
  | nil => cases h
  | cons x l ih =>
    have hx := List.pairwise_cons.1 hr
    show (if x.1 = s then some x.2 else rd.look l s) = some f
    rcases List.mem_cons.1 h with e | h
    · rw [if_pos (by rw [← e]), ← e]
    · rw [if_neg (bl.ne (hx.1 _ h))]
      exact ih hx.2 h
theorem rd.look_none {l : RNames} {s : ByteArray} (h : rd.look l s = none) : ∀ x ∈ l, x.1 ≠ s := by
  induction l with
  | nil => intro x hx; cases hx
  | cons y l ih =>
    have h' : (if y.1 = s then some y.2 else rd.look l s) = none := h
    intro x hx
    by_cases e : y.1 = s
    · rw [if_pos e] at h'; cases h'
    · rw [if_neg e] at h'
      rcases List.mem_cons.1 hx with rfl | hx
      · exact e
      · exact ih h' x hx
theorem rd.without_none {l : RNames} {s : ByteArray} (h : rd.look l s = none) : rd.without l s = l := by
  unfold rd.without
  rw [List.filter_eq_self]
  intro x hx
  exact decide_eq_true (rd.look_none h x hx)

/-- How much names weigh. -/
def rd.sum (g : Nat → Int) (l : RNames) : Int := (l.map fun x => g x.2).sum
theorem rd.sum_cons (g : Nat → Int) (x : ByteArray × Nat) (l : RNames) : rd.sum g (x :: l) = g x.2 + rd.sum g l := by unfold rd.sum; simp
theorem rd.sum_ins (g : Nat → Int) (l : RNames) (s : ByteArray) (f : Nat) : rd.sum g (rd.ins l s f) = g f + rd.sum g l := by
  induction l with
  | nil => rfl
  | cons x l ih =>
    unfold rd.ins
    split
    · rw [rd.sum_cons, ih, rd.sum_cons]; omega
    · rw [rd.sum_cons]
theorem rd.sum_without (g : Nat → Int) {l : RNames} (hr : rd.Rises l) (s : ByteArray) : rd.sum g (rd.without l s) = rd.sum g l - ((rd.look l s).map g).getD 0 := by
  induction l with
  | nil => rfl
  | cons x l ih =>
    have hx := List.pairwise_cons.1 hr
    have hl : rd.look (x :: l) s = if x.1 = s then some x.2 else rd.look l s := rfl
    by_cases e : x.1 = s
    · have h0 : rd.look l s = none := by
        cases h : rd.look l s with
        | none => rfl
        | some f => exact absurd e (bl.ne (hx.1 _ (rd.look_mem h)))
      have h1 : rd.without (x :: l) s = l := by
        have : rd.without (x :: l) s = rd.without l s := by unfold rd.without; rw [List.filter_cons_of_neg (by simp [e])]
        rw [this, rd.without_none h0]
      rw [h1, hl, if_pos e, rd.sum_cons]
      simp
      omega
    · have h1 : rd.without (x :: l) s = x :: rd.without l s := by unfold rd.without; rw [List.filter_cons_of_pos (by simp [e])]
      rw [h1, hl, if_neg e, rd.sum_cons, rd.sum_cons, ih hx.2]
      omega
theorem rd.sum_congr {g g' : Nat → Int} {l : RNames} (h : ∀ x ∈ l, g x.2 = g' x.2) : rd.sum g l = rd.sum g' l := by
  unfold rd.sum
  rw [List.map_congr_left h]
theorem rd.sum_one {g g' : Nat → Int} {l : RNames} {f : Nat} (hn : (l.map Prod.snd).Nodup) (hf : f ∈ l.map Prod.snd) (h : ∀ i, i ≠ f → g i = g' i) : rd.sum g' l = rd.sum g l - g f + g' f := by
  induction l with
  | nil => cases hf
  | cons x l ih =>
    rw [List.map_cons, List.nodup_cons] at hn
    rw [rd.sum_cons, rd.sum_cons]
    rw [List.map_cons, List.mem_cons] at hf
    by_cases e : x.2 = f
    · have : rd.sum g' l = rd.sum g l := (rd.sum_congr fun y hy => (h y.2 fun q => hn.1 (by rw [e, ← q]; exact List.mem_map_of_mem hy)).symm)
      rw [this, e]
      omega
    · rw [ih hn.2 (hf.resolve_left fun q => e q.symm), h x.2 e]
      omega
theorem rd.sum_pos {g : Nat → Int} {l : RNames} (h : ∀ i, 0 ≤ g i) : 0 ≤ rd.sum g l := by
  induction l with
  | nil => exact Int.le_refl _
  | cons x l ih => rw [rd.sum_cons]; have := h x.2; omega
theorem rd.sum_le {g : Nat → Int} {l : RNames} (h : ∀ i, 0 ≤ g i) {s : ByteArray} {f : Nat} (hf : rd.look l s = some f) : g f ≤ rd.sum g l := by
  have hm := rd.look_mem hf
  clear hf
  induction l with
  | nil => cases hm
  | cons x l ih =>
    rw [rd.sum_cons]
    rcases List.mem_cons.1 hm with e | hm
    · have := rd.sum_pos (l := l) h
      rw [← e]
      dsimp only
      omega
    · have := ih hm
      have := h x.2
      omega

/-- An act, as files lie. -/
def rd.toD (ι : Nat → Nat) (a : RAct) : DAct := if a.kind = 1 then ⟨dk.no, a.a, some (ι a.f)⟩ else if a.kind = 2 then ⟨a.a, a.b, some (ι a.f)⟩ else ⟨a.a, dk.no, Option.none⟩
/-- An act that may be. -/
def RAct.ok (a : RAct) (n : Nat) : Prop := (a.kind = 1 ∨ a.kind = 2 ∨ a.kind = 3) ∧ dk.okName a.a = true ∧ (a.kind = 2 → dk.okName a.b = true) ∧ (a.kind ≠ 3 → a.f < n)
theorem rd.on {ι : Nat → Nat} {a : RAct} {n : Nat} (ha : a.ok n) (l : RNames) {N : DNames} (hN : ∀ s, N s = (rd.look l s).map ι) (s : ByteArray) : (rd.toD ι a).on N s = (rd.look (rd.apply l a) s).map ι := by
  obtain ⟨hk, h1, h2, -⟩ := ha
  have n1 := dk.ok_no h1
  have hput : ∀ (N : DNames) (u : ByteArray) (f : Option Nat) (t : ByteArray), dk.put N u f t = if t = u then f else N t := fun _ _ _ _ => rfl
  unfold rd.toD rd.apply
  rcases hk with hk | hk | hk
  · rw [if_pos hk, if_pos hk, rd.look_with]
    unfold DAct.on
    dsimp only
    rw [if_pos rfl, if_neg n1, hput, hN]
    by_cases e : s = a.a
    · rw [if_pos e, if_pos e]; rfl
    · rw [if_neg e, if_neg e]
  · have n2 := dk.ok_no (h2 hk)
    rw [if_neg (by omega), if_pos hk, if_neg (by omega), if_pos hk, rd.look_with, rd.look_without]
    unfold DAct.on
    dsimp only
    rw [if_neg n1, if_neg n2, hput, hput, hN]
    by_cases e : s = a.b
    · rw [if_pos e, if_pos e]; rfl
    · rw [if_neg e, if_neg e]
      by_cases e : s = a.a
      · rw [if_pos e, if_pos e]; rfl
      · rw [if_neg e, if_neg e]
  · rw [if_neg (by omega), if_neg (by omega), if_neg (by omega), if_neg (by omega), rd.look_without]
    unfold DAct.on
    dsimp only
    rw [if_neg n1, if_pos rfl, hput, hN]
    by_cases e : s = a.a
    · rw [if_pos e, if_pos e]; rfl
    · rw [if_neg e, if_neg e]
theorem rd.run {ι : Nat → Nat} {n : Nat} {xs : List RAct} : ∀ {l : RNames} {N : DNames}, (∀ a ∈ xs, a.ok n) → (∀ s, N s = (rd.look l s).map ι) → ∀ s, dk.run N (xs.map (rd.toD ι)) s = (rd.look (rd.applyAll l xs) s).map ι := by
  induction xs with
  | nil => intro l N _ h s; exact h s
  | cons a xs ih =>
    intro l N ha h s
    exact ih (l := rd.apply l a) (N := (rd.toD ι a).on N) (fun b hb => ha b (List.mem_cons_of_mem _ hb)) (fun t => rd.on (ha a (by simp)) l h t) s
theorem rd.toD_congr {ι κ : Nat → Nat} {a : RAct} {n : Nat} (ha : a.ok n) (h : ∀ i, i < n → ι i = κ i) : rd.toD ι a = rd.toD κ a := by
  obtain ⟨hk, -, -, h4⟩ := ha
  unfold rd.toD
  rcases hk with hk | hk | hk
  · rw [if_pos hk, if_pos hk, h _ (h4 (by omega))]
  · rw [if_neg (by omega), if_pos hk, if_neg (by omega), if_pos hk, h _ (h4 (by omega))]
  · rw [if_neg (by omega), if_neg (by omega), if_neg (by omega), if_neg (by omega)]
theorem rd.mem_apply {l : RNames} {a : RAct} {x : ByteArray × Nat} (h : x ∈ rd.apply l a) : x ∈ l ∨ (a.kind = 1 ∧ x = (a.a, a.f)) ∨ (a.kind = 2 ∧ x = (a.b, a.f)) := by
  unfold rd.apply rd.with at h
  split at h
  · rename_i hk
    rcases rd.mem_ins.1 h with e | h
    · exact .inr (.inl ⟨hk, e⟩)
    · exact .inl (rd.mem_without.1 h).1
  · split at h
    · rename_i hk
      rcases rd.mem_ins.1 h with e | h
      · exact .inr (.inr ⟨hk, e⟩)
      · exact .inl (rd.mem_without.1 (rd.mem_without.1 h).1).1
    · exact .inl (rd.mem_without.1 h).1
/-- Names of files that are. -/
def rd.Good (l : RNames) (n : Nat) : Prop := ∀ x ∈ l, x.2 < n ∧ dk.okName x.1 = true
theorem rd.good_apply {l : RNames} {n : Nat} {a : RAct} (h : rd.Good l n) (ha : a.ok n) : rd.Good (rd.apply l a) n := fun x hx => by
  rcases rd.mem_apply hx with h1 | ⟨hk, rfl⟩ | ⟨hk, rfl⟩
  · exact h x h1
  · exact ⟨ha.2.2.2 (by omega), ha.2.1⟩
  · exact ⟨ha.2.2.2 (by omega), ha.2.2.1 hk⟩
theorem rd.good_all {xs : List RAct} {n : Nat} : ∀ {l : RNames}, rd.Good l n → (∀ a ∈ xs, a.ok n) → rd.Good (rd.applyAll l xs) n := by
  induction xs with
  | nil => intro l h _; exact h
  | cons a xs ih => intro l h ha; exact ih (rd.good_apply h (ha a (by simp))) fun b hb => ha b (List.mem_cons_of_mem _ hb)
theorem rd.all_len {xs : List RAct} : ∀ {l : RNames}, (rd.applyAll l xs).length ≤ l.length + xs.length := by
  induction xs with
  | nil => intro l; exact Nat.le_refl _
  | cons a xs ih =>
    intro l
    have h1 : (rd.applyAll l (a :: xs)).length = (rd.applyAll (rd.apply l a) xs).length := rfl
    have h2 := ih (l := rd.apply l a)
    have h3 := rd.apply_len l a
    rw [List.length_cons]
    omega
end
section
open Go.RowKit Go.Maps
set_option maxRecDepth 100000

structure RDisk where
  room : Int
  files : List FileV
  now : RNames
  safe : RNames
  acts : List RAct
  left : Int
  off : Bool
  ops : Int
def rd.vd : FileV := ⟨[], 0⟩
def RDisk.file (M : RDisk) (i : Nat) : FileV := M.files.getD i rd.vd
def RDisk.len (M : RDisk) (i : Nat) : Int := ((M.file i).data.length : Int)
def RDisk.used (M : RDisk) : Int := rd.sum M.len M.now
def RDisk.dies (M : RDisk) : Bool := M.off || decide (M.left = 0)
def RDisk.acted (M : RDisk) : RDisk := { M with ops := M.ops + 1, off := M.dies, left := if M.dies = true then M.left else if 0 < M.left then M.left - 1 else M.left }
def RDisk.actE (M : RDisk) (L : List ByteArray) : Int := if M.dies = true then 7 else if L.all dk.okName = true then 0 else 1

/-- The program's disk says what this one says; files lie at ι. -/
structure Sim (D : Dsk) (M : RDisk) (ι : Nat → Nat) : Prop where
  room : D.room = M.room
  used : D.used = M.used
  ops : D.ops = M.ops
  off : D.off = M.off
  cut : (D.cut = false ∧ M.left = -1) ∨ (D.cut = true ∧ 0 ≤ D.left ∧ D.left = M.left)
  now : ∀ s, D.now s = (rd.look M.now s).map ι
  safe : ∀ s, D.safe s = (rd.look M.safe s).map ι
  since : D.since = M.acts.map (rd.toD ι)
  file : ∀ i, i < M.files.length → D.file (ι i) = M.file i
  inj : ∀ i j, i < M.files.length → j < M.files.length → ι i = ι j → i = j
structure RDisk.WF (M : RDisk) : Prop where
  rise : rd.Rises M.now
  rises : rd.Rises M.safe
  nodup : (M.now.map Prod.snd).Nodup
  good : rd.Good M.now M.files.length
  goods : rd.Good M.safe M.files.length
  acts : ∀ a ∈ M.acts, a.ok M.files.length
  runs : M.now = rd.applyAll M.safe M.acts
  short : ∀ v ∈ M.files, v.safe ≤ v.data.length ∧ v.data.length ≤ 1099511627776 ∧ ∀ x ∈ v.data, x < 256
  fit : 0 ≤ M.room ∧ M.room ≤ 1099511627776
  left : -1 ≤ M.left ∧ M.left ≤ 9223372036854775807

theorem RDisk.len_pos (M : RDisk) (i : Nat) : 0 ≤ M.len i := Int.natCast_nonneg _
theorem RDisk.used_pos (M : RDisk) : 0 ≤ M.used := rd.sum_pos M.len_pos
theorem RDisk.file_mem {M : RDisk} {i : Nat} (h : i < M.files.length) : M.file i ∈ M.files := by
  unfold RDisk.file
  rw [List.getD_eq_getElem?_getD, List.getElem?_eq_getElem h]
  exact List.getElem_mem h
theorem Sim.dies {D : Dsk} {M : RDisk} {ι : Nat → Nat} (h : Sim D M ι) : D.dies = M.dies := by
  unfold Dsk.dies RDisk.dies
  rw [h.off]
  rcases h.cut with ⟨h1, h2⟩ | ⟨h1, h2, h3⟩
  · rw [h1, h2]
    rfl
  · rw [h1, h3]
    rfl
theorem Sim.actE {D : Dsk} {M : RDisk} {ι : Nat → Nat} (h : Sim D M ι) (L : List ByteArray) : D.comeE L = M.actE L := by
  unfold Dsk.comeE RDisk.actE
  rw [h.dies]
theorem Sim.acted {D : Dsk} {M : RDisk} {ι : Nat → Nat} (h : Sim D M ι) : Sim D.come M.acted ι := by
  have hd := h.dies
  refine ⟨h.room, h.used, by show D.ops + 1 = M.ops + 1; rw [h.ops], by show D.dies = M.dies; exact hd, ?_, h.now, h.safe, h.since, h.file, h.inj⟩
  show (D.cut = false ∧ (if M.dies = true then M.left else if 0 < M.left then M.left - 1 else M.left) = -1) ∨ (D.cut = true ∧ 0 ≤ (if D.dies = true then D.left else if D.cut = true then D.left - 1 else D.left) ∧ (if D.dies = true then D.left else if D.cut = true then D.left - 1 else D.left) = (if M.dies = true then M.left else if 0 < M.left then M.left - 1 else M.left))
  rw [hd]
  have hdl : M.dies = false → ¬ M.left = 0 := fun e => by
    unfold RDisk.dies at e
    rw [Bool.or_eq_false_iff] at e
    exact of_decide_eq_false e.2
  rcases h.cut with ⟨h1, h2⟩ | ⟨h1, h2, h3⟩
  · refine .inl ⟨h1, ?_⟩
    rw [h2]
    split <;> rfl
  · refine .inr ⟨h1, ?_⟩
    rw [h1, h3]
    cases e : M.dies with
    | true => rw [if_pos rfl, if_pos rfl]; exact ⟨by omega, rfl⟩
    | false =>
      have := hdl e
      show 0 ≤ M.left - 1 ∧ M.left - 1 = if 0 < M.left then M.left - 1 else M.left
      rw [if_pos (by omega)]
      exact ⟨by omega, rfl⟩
theorem RDisk.WF.acted {M : RDisk} (h : M.WF) : M.acted.WF := by
  refine ⟨h.rise, h.rises, h.nodup, h.good, h.goods, h.acts, h.runs, h.short, h.fit, ?_⟩
  have := h.left
  show -1 ≤ (if M.dies = true then M.left else if 0 < M.left then M.left - 1 else M.left) ∧ (if M.dies = true then M.left else if 0 < M.left then M.left - 1 else M.left) ≤ 9223372036854775807
  split
  · exact this
  · split <;> omega
theorem Sim.near {D : Dsk} {M : RDisk} {ι : Nat → Nat} (h : Sim D M ι) (hw : M.WF) (ho : -1000000 ≤ M.ops ∧ M.ops ≤ 1000000) : D.near := by
  refine ⟨by rw [h.ops]; omega, fun hc => ?_⟩
  rcases h.cut with ⟨h1, -⟩ | ⟨-, h2, h3⟩
  · rw [h1] at hc; cases hc
  · have := hw.left
    omega
theorem Sim.now_some {D : Dsk} {M : RDisk} {ι : Nat → Nat} (h : Sim D M ι) {s : ByteArray} {i : Nat} (hi : rd.look M.now s = some i) : D.now s = some (ι i) := by rw [h.now, hi]; rfl
theorem Sim.now_none {D : Dsk} {M : RDisk} {ι : Nat → Nat} (h : Sim D M ι) {s : ByteArray} (hi : rd.look M.now s = none) : D.now s = Option.none := by rw [h.now, hi]; rfl
theorem RDisk.WF.lt {M : RDisk} (h : M.WF) {s : ByteArray} {i : Nat} (hi : rd.look M.now s = some i) : i < M.files.length := (h.good _ (rd.look_mem hi)).1
/-- A file's bytes under a name, and how many. -/
def RDisk.bytes (M : RDisk) (s : ByteArray) : List Nat := match rd.look M.now s with | Option.none => [] | some i => (M.file i).data
def RDisk.readE (M : RDisk) (s : ByteArray) : Int := match rd.look M.now s with | Option.none => 5 | some _ => 0
def RDisk.size (M : RDisk) (s : ByteArray) : Int := match rd.look M.now s with | Option.none => -1 | some i => M.len i
theorem Sim.bytes {D : Dsk} {M : RDisk} {ι : Nat → Nat} (h : Sim D M ι) (hw : M.WF) (s : ByteArray) : D.bytes s = M.bytes s ∧ D.readE s = M.readE s ∧ D.size s = M.size s := by
  unfold Dsk.bytes RDisk.bytes Dsk.readE RDisk.readE Dsk.size RDisk.size
  cases hi : rd.look M.now s with
  | none => rw [h.now_none hi]; exact ⟨rfl, rfl, rfl⟩
  | some i =>
    rw [h.now_some hi]
    dsimp only
    rw [h.file i (hw.lt hi)]
    exact ⟨rfl, rfl, rfl⟩
theorem RDisk.WF.bytes_le {M : RDisk} (h : M.WF) (s : ByteArray) : (M.bytes s).length ≤ 1099511627776 ∧ ∀ x ∈ M.bytes s, x < 256 := by
  unfold RDisk.bytes
  cases hi : rd.look M.now s with
  | none => exact ⟨Nat.zero_le _, fun x hx => by cases hx⟩
  | some i => exact (h.short _ (RDisk.file_mem (h.lt hi))).2

/-- A file is set. -/
def RDisk.set (M : RDisk) (i : Nat) (v : FileV) : RDisk := { M with files := M.files.set i v }
theorem RDisk.set_file {M : RDisk} {i j : Nat} {v : FileV} (hi : i < M.files.length) : (M.set i v).file j = if j = i then v else M.file j := by
  unfold RDisk.set RDisk.file
  dsimp only
  rw [List.getD_eq_getElem?_getD, List.getD_eq_getElem?_getD, List.getElem?_set]
  by_cases e : j = i
  · subst e; rw [if_pos rfl, if_pos rfl, if_pos hi]; rfl
  · rw [if_neg (fun q => e q.symm), if_neg e]
theorem RDisk.set_used {M : RDisk} (hw : M.WF) {s : ByteArray} {i : Nat} (hi : rd.look M.now s = some i) (v : FileV) : (M.set i v).used = M.used - M.len i + (v.data.length : Int) := by
  have hl := hw.lt hi
  have h1 : (M.set i v).used = rd.sum (M.set i v).len M.now := rfl
  have h2 : (M.set i v).len i = (v.data.length : Int) := by unfold RDisk.len; rw [RDisk.set_file hl, if_pos rfl]
  rw [h1, rd.sum_one (g := M.len) (f := i) hw.nodup (List.mem_map.2 ⟨_, rd.look_mem hi, rfl⟩) (fun j hj => by unfold RDisk.len; rw [RDisk.set_file hl, if_neg hj]), h2]
  rfl
theorem RDisk.set_wf {M : RDisk} (hw : M.WF) {i : Nat} {v : FileV} (hv : v.safe ≤ v.data.length ∧ v.data.length ≤ 1099511627776 ∧ ∀ x ∈ v.data, x < 256) : (M.set i v).WF := by
  have hl : (M.set i v).files.length = M.files.length := List.length_set
  refine ⟨hw.rise, hw.rises, hw.nodup, by rw [hl]; exact hw.good, by rw [hl]; exact hw.goods, fun a ha => by rw [hl]; exact hw.acts a ha, hw.runs, fun u hu => ?_, hw.fit, hw.left⟩
  have hu : u ∈ M.files.set i v := hu
  rcases List.mem_or_eq_of_mem_set hu with h | rfl
  · exact hw.short u h
  · exact hv
theorem Sim.set {D : Dsk} {M : RDisk} {ι : Nat → Nat} (h : Sim D M ι) {i : Nat} (hi : i < M.files.length) (v : FileV) : Sim (dk.use (dk.setFile D (ι i) v) (M.set i v).used) (M.set i v) ι := by
  have hl : (M.set i v).files.length = M.files.length := List.length_set
  refine ⟨h.room, rfl, h.ops, h.off, h.cut, h.now, h.safe, h.since, fun j hj => ?_, fun j k hj hk => ?_⟩
  · rw [hl] at hj
    rw [RDisk.set_file hi]
    show (if ι j = ι i then v else D.file (ι j)) = if j = i then v else M.file j
    by_cases e : j = i
    · rw [if_pos e, if_pos (by rw [e])]
    · rw [if_neg e, if_neg (fun q => e (h.inj j i hj hi q))]
      exact h.file j hj
  · rw [hl] at hj hk
    exact h.inj j k hj hk
/-- A names' act is done. -/
def RDisk.lead (M : RDisk) (a : RAct) : RDisk := { M with acts := M.acts ++ [a], now := rd.apply M.now a }
theorem Sim.lead {D : Dsk} {M : RDisk} {ι : Nat → Nat} (h : Sim D M ι) {a : RAct} (ha : a.ok M.files.length) : Sim (dk.use (D.lead (rd.toD ι a)) (M.lead a).used) (M.lead a) ι :=
  ⟨h.room, rfl, h.ops, h.off, h.cut, fun s => rd.on ha M.now h.now s, h.safe, by show D.since ++ [rd.toD ι a] = (M.acts ++ [a]).map (rd.toD ι); rw [h.since, List.map_append]; rfl, h.file, h.inj⟩
theorem RDisk.lead_wf {M : RDisk} (hw : M.WF) {a : RAct} (ha : a.ok M.files.length) (hn : ((rd.apply M.now a).map Prod.snd).Nodup) : (M.lead a).WF := by
  refine ⟨rd.rises_apply hw.rise a, hw.rises, hn, rd.good_apply hw.good ha, hw.goods, fun b hb => ?_, ?_, hw.short, hw.fit, hw.left⟩
  · have hb : b ∈ M.acts ++ [a] := hb
    rcases List.mem_append.1 hb with hb | hb
    · exact hw.acts b hb
    · rw [List.mem_singleton.1 hb]
      exact ha
  · show rd.apply M.now a = rd.applyAll M.safe (M.acts ++ [a])
    unfold rd.applyAll
    rw [List.foldl_append, hw.runs]
    rfl
end
section
open Go.RowKit Go.Maps
set_option maxRecDepth 100000

def RDisk.appE (M : RDisk) (s : ByteArray) (b : List Nat) : Int := if M.actE [s] ≠ 0 then M.actE [s] else if M.room < M.used + (b.length : Int) then 4 else 0
/-- A new file. -/
def RDisk.add (M : RDisk) (v : FileV) : RDisk := { M with files := M.files ++ [v] }
def RDisk.app (M : RDisk) (s : ByteArray) (b : List Nat) : RDisk := if M.appE s b ≠ 0 then M.acted else match rd.look M.now s with
  | some i => M.acted.set i ⟨(M.file i).data ++ b, (M.file i).safe⟩
  | none => (M.acted.add ⟨b, 0⟩).lead ⟨1, s, dk.no, M.files.length⟩
def RDisk.truncE (M : RDisk) (s : ByteArray) (n : Int) : Int := if M.actE [s] ≠ 0 then M.actE [s] else match rd.look M.now s with | none => 5 | some i => if n < 0 ∨ M.len i < n then 1 else 0
def RDisk.trunc (M : RDisk) (s : ByteArray) (n : Int) : RDisk := if M.truncE s n ≠ 0 then M.acted else match rd.look M.now s with
  | some i => M.acted.set i ⟨(M.file i).data.take n.toNat, n.toNat⟩
  | none => M.acted
def RDisk.syncE (M : RDisk) (s : ByteArray) : Int := if M.actE [s] ≠ 0 then M.actE [s] else match rd.look M.now s with | none => 5 | some _ => 0
def RDisk.sync (M : RDisk) (s : ByteArray) : RDisk := if M.syncE s ≠ 0 then M.acted else match rd.look M.now s with
  | some i => M.acted.set i ⟨(M.file i).data, (M.file i).data.length⟩
  | none => M.acted
def RDisk.renE (M : RDisk) (s t : ByteArray) : Int := if M.actE [s, t] ≠ 0 then M.actE [s, t] else match rd.look M.now s with | none => 5 | some _ => if s = t then 1 else 0
def RDisk.ren (M : RDisk) (s t : ByteArray) : RDisk := if M.renE s t ≠ 0 then M.acted else match rd.look M.now s with
  | some i => M.acted.lead ⟨2, s, t, i⟩
  | none => M.acted
def RDisk.remE (M : RDisk) (s : ByteArray) : Int := if M.actE [s] ≠ 0 then M.actE [s] else match rd.look M.now s with | none => 5 | some _ => 0
def RDisk.rem (M : RDisk) (s : ByteArray) : RDisk := if M.remE s ≠ 0 then M.acted else M.acted.lead ⟨3, s, dk.no, 0⟩
def RDisk.dir (M : RDisk) : RDisk := if M.actE [] ≠ 0 then M.acted else { M.acted with safe := M.now, acts := [] }
def RDisk.cutAt (M : RDisk) (n : Int) : RDisk := { M with left := if n < 0 then 0 else n }

theorem RDisk.acted_file (M : RDisk) (i : Nat) : M.acted.file i = M.file i := rfl
theorem RDisk.acted_used (M : RDisk) : M.acted.used = M.used := rfl
theorem RDisk.acted_len (M : RDisk) (i : Nat) : M.acted.len i = M.len i := rfl
theorem RDisk.actE_ok {M : RDisk} {L : List ByteArray} (h : M.actE L = 0) : ∀ s ∈ L, dk.okName s = true := by
  unfold RDisk.actE at h
  split at h
  · cases h
  · split at h
    · rename_i h2
      exact List.all_eq_true.1 h2
    · cases h
theorem RDisk.add_file {M : RDisk} {v : FileV} {i : Nat} (h : i < M.files.length) : (M.add v).file i = M.file i := by
  unfold RDisk.add RDisk.file
  dsimp only
  rw [List.getD_eq_getElem?_getD, List.getElem?_append_left h, List.getD_eq_getElem?_getD]
theorem RDisk.add_new {M : RDisk} {v : FileV} : (M.add v).file M.files.length = v := by
  unfold RDisk.add RDisk.file
  simp
theorem RDisk.add_used {M : RDisk} (hw : M.WF) (v : FileV) : (M.add v).used = M.used := rd.sum_congr fun x hx => by
  show ((M.add v).file x.2).data.length = ((M.file x.2).data.length : Int)
  rw [RDisk.add_file (hw.good x hx).1]
theorem RAct.ok.mono {a : RAct} {n m : Nat} (h : a.ok n) (hm : n ≤ m) : a.ok m := ⟨h.1, h.2.1, h.2.2.1, fun q => Nat.lt_of_lt_of_le (h.2.2.2 q) hm⟩
theorem RDisk.add_wf {M : RDisk} (hw : M.WF) {v : FileV} (hv : v.safe ≤ v.data.length ∧ v.data.length ≤ 1099511627776 ∧ ∀ x ∈ v.data, x < 256) : (M.add v).WF := by
  have hl : (M.add v).files.length = M.files.length + 1 := by unfold RDisk.add; simp
  refine ⟨hw.rise, hw.rises, hw.nodup, fun x hx => ⟨by rw [hl]; exact Nat.lt_succ_of_lt (hw.good x hx).1, (hw.good x hx).2⟩, fun x hx => ⟨by rw [hl]; exact Nat.lt_succ_of_lt (hw.goods x hx).1, (hw.goods x hx).2⟩, fun a ha => (hw.acts a ha).mono (by omega), hw.runs, fun u hu => ?_, hw.fit, hw.left⟩
  have hu : u ∈ M.files ++ [v] := hu
  rcases List.mem_append.1 hu with hu | hu
  · exact hw.short u hu
  · rw [List.mem_singleton.1 hu]
    exact hv
theorem Sim.add {D : Dsk} {M : RDisk} {ι : Nat → Nat} (h : Sim D M ι) (hw : M.WF) {f : Nat} (hf : ∀ i, i < M.files.length → ι i ≠ f) (v : FileV) : Sim (dk.setFile D f v) (M.add v) (fun i => if i = M.files.length then f else ι i) := by
  have hl : (M.add v).files.length = M.files.length + 1 := by unfold RDisk.add; simp
  have hlook : ∀ (l : RNames) (s : ByteArray), rd.Good l M.files.length → (rd.look l s).map (fun i => if i = M.files.length then f else ι i) = (rd.look l s).map ι := fun l s hg => by
    cases e : rd.look l s with
    | none => rfl
    | some i =>
      have := (hg _ (rd.look_mem e)).1
      dsimp only at this
      rw [Option.map_some, Option.map_some, if_neg (by omega)]
  refine ⟨h.room, by rw [RDisk.add_used hw]; exact h.used, h.ops, h.off, h.cut, fun s => by rw [show (M.add v).now = M.now from rfl, hlook _ _ hw.good]; exact h.now s, fun s => by rw [show (M.add v).safe = M.safe from rfl, hlook _ _ hw.goods]; exact h.safe s, ?_, fun i hi => ?_, fun i j hi hj e => ?_⟩
  · show D.since = M.acts.map _
    rw [h.since]
    refine List.map_congr_left fun a ha => rd.toD_congr (hw.acts a ha) fun i hi => ?_
    rw [if_neg (by omega)]
  · show (if (if i = M.files.length then f else ι i) = f then v else D.file (if i = M.files.length then f else ι i)) = (M.add v).file i
    by_cases e : i = M.files.length
    · rw [if_pos e, if_pos rfl, e, RDisk.add_new]
    · rw [if_neg e, if_neg (hf i (by omega)), RDisk.add_file (by omega)]
      exact h.file i (by omega)
  · by_cases e1 : i = M.files.length
    · by_cases e2 : j = M.files.length
      · rw [e1, e2]
      · rw [if_pos e1, if_neg e2] at e
        exact absurd e.symm (hf j (by omega))
    · rw [if_neg e1] at e
      by_cases e2 : j = M.files.length
      · rw [if_pos e2] at e
        exact absurd e (hf i (by omega))
      · rw [if_neg e2] at e
        exact h.inj i j (by omega) (by omega) e

theorem Sim.appE {D : Dsk} {M : RDisk} {ι : Nat → Nat} (h : Sim D M ι) (s : ByteArray) (b : List Nat) : D.appE s b = M.appE s b := by
  unfold Dsk.appE RDisk.appE
  rw [h.actE, h.room, h.used]
  by_cases e : M.actE [s] ≠ 0
  · rw [if_pos e, if_pos e]
  · rw [if_neg e, if_neg e]
    by_cases e2 : M.room < M.used + (b.length : Int)
    · rw [if_pos e2, if_pos (by omega)]
    · rw [if_neg e2, if_neg (by omega)]
theorem RDisk.appE_ok {M : RDisk} {s : ByteArray} {b : List Nat} (h : M.appE s b = 0) : dk.okName s = true ∧ M.used + (b.length : Int) ≤ M.room := by
  unfold RDisk.appE at h
  by_cases e : M.actE [s] ≠ 0
  · rw [if_pos e] at h; exact absurd h e
  · rw [if_neg e] at h
    refine ⟨RDisk.actE_ok (by simpa using e) s (by simp), ?_⟩
    split at h
    · cases h
    · omega
theorem RDisk.len_used {M : RDisk} {s : ByteArray} {i : Nat} (hi : rd.look M.now s = some i) : M.len i ≤ M.used := rd.sum_le M.len_pos hi
/-- Append: what it leaves is as the program's disk says. -/
theorem Sim.app {D : Dsk} {M : RDisk} {ι : Nat → Nat} (h : Sim D M ι) (hw : M.WF) {s : ByteArray} {b : List Nat} (hb : ∀ x ∈ b, x < 256) {n f : Nat} (hn : ∀ i, i < M.files.length → ι i < n) (hf : D.Leads s n f) :
    (∃ κ, Sim (D.app s b f) (M.app s b) κ ∧ ∀ i, i < (M.app s b).files.length → κ i < n ∨ (D.app s b f).Has (κ i)) ∧ (M.app s b).WF := by
  have hE := h.appE s b
  unfold Dsk.app RDisk.app
  rw [hE]
  by_cases e : M.appE s b ≠ 0
  · rw [if_pos e, if_pos e]
    exact ⟨⟨ι, h.acted, fun i hi => .inl (hn i hi)⟩, hw.acted⟩
  rw [if_neg e, if_neg e]
  obtain ⟨hs, hroom⟩ := RDisk.appE_ok (by simpa using e)
  have hfit := hw.fit
  cases hi : rd.look M.now s with
  | some i =>
    dsimp only
    have hil := hw.lt hi
    have hnow : D.now s = some (ι i) := h.now_some hi
    have hfi : f = ι i := by
      rcases hf with hf | ⟨hf, -⟩
      · rw [hnow] at hf; simpa using hf.symm
      · rw [hnow] at hf; cases hf
    subst hfi
    have hwith : D.come.with s (ι i) = D.come := Dsk.with_some (g := ι i) hnow
    have hfile : D.come.file (ι i) = M.file i := h.file i hil
    rw [hwith, hfile]
    have hused := RDisk.set_used (M := M.acted) hw.acted hi ⟨(M.file i).data ++ b, (M.file i).safe⟩
    have hu : (M.acted.set i ⟨(M.file i).data ++ b, (M.file i).safe⟩).used = M.used + (b.length : Int) := by
      rw [hused, RDisk.acted_used, RDisk.acted_len]
      unfold RDisk.len
      dsimp only
      rw [List.length_append]
      push_cast
      omega
    have hsh := hw.short _ (RDisk.file_mem hil)
    have hle := RDisk.len_used hi
    unfold RDisk.len at hle
    refine ⟨⟨ι, ?_, fun j hj => .inl (hn j (by
      have e : (M.acted.set i ⟨(M.file i).data ++ b, (M.file i).safe⟩).files.length = M.files.length := List.length_set
      omega))⟩, RDisk.set_wf hw.acted ⟨?_, ?_, fun x hx => ?_⟩⟩
    · have := h.acted.set (i := i) hil ⟨(M.file i).data ++ b, (M.file i).safe⟩
      rw [hu] at this
      rw [h.used]
      exact this
    · dsimp only
      rw [List.length_append]
      omega
    · dsimp only
      rw [List.length_append]
      have := M.used_pos
      omega
    · rcases List.mem_append.1 hx with hx | hx
      · exact hsh.2.2 x hx
      · exact hb x hx
  | none =>
    dsimp only
    have hnow : D.now s = Option.none := h.now_none hi
    have hnf : n ≤ f := by
      rcases hf with hf | ⟨-, hf⟩
      · rw [hnow] at hf; cases hf
      · exact hf
    have hadd := h.acted.add hw.acted (f := f) (fun i hi => by have := hn i hi; omega) ⟨b, 0⟩
    have hvok : (⟨b, 0⟩ : FileV).safe ≤ (⟨b, 0⟩ : FileV).data.length ∧ (⟨b, 0⟩ : FileV).data.length ≤ 1099511627776 ∧ ∀ x ∈ (⟨b, 0⟩ : FileV).data, x < 256 := ⟨Nat.zero_le _, by have := M.used_pos; dsimp only; omega, hb⟩
    have hwadd := RDisk.add_wf hw.acted hvok
    have hl : (M.acted.add ⟨b, 0⟩).files.length = M.files.length + 1 := by unfold RDisk.add RDisk.acted; simp
    have hok : RAct.ok ⟨1, s, dk.no, M.files.length⟩ (M.acted.add ⟨b, 0⟩).files.length := ⟨.inl rfl, hs, fun q => (by cases q), fun _ => (by rw [hl]; exact Nat.lt_succ_self _)⟩
    have happ : rd.apply (M.acted.add ⟨b, 0⟩).now ⟨1, s, dk.no, M.files.length⟩ = rd.ins M.now s M.files.length := by
      unfold rd.apply
      rw [if_pos rfl]
      unfold rd.with
      rw [show rd.without (M.acted.add ⟨b, 0⟩).now s = M.now from rd.without_none hi]
    have hu : ((M.acted.add ⟨b, 0⟩).lead ⟨1, s, dk.no, M.files.length⟩).used = M.used + (b.length : Int) := by
      have e1 : ((M.acted.add ⟨b, 0⟩).lead ⟨1, s, dk.no, M.files.length⟩).used = rd.sum (M.acted.add ⟨b, 0⟩).len (rd.ins M.now s M.files.length) := by rw [← happ]; rfl
      have e2 : rd.sum (M.acted.add ⟨b, 0⟩).len M.now = M.used := RDisk.add_used hw.acted ⟨b, 0⟩
      have e3 : (M.acted.add ⟨b, 0⟩).len M.files.length = (b.length : Int) := by
        unfold RDisk.len
        rw [show (M.acted.add ⟨b, 0⟩).file M.files.length = ⟨b, 0⟩ from RDisk.add_new (M := M.acted)]
      rw [e1, rd.sum_ins, e2, e3]
      omega
    have hnd : ((rd.apply (M.acted.add ⟨b, 0⟩).now ⟨1, s, dk.no, M.files.length⟩).map Prod.snd).Nodup := by
      rw [happ]
      refine ((rd.ins_perm M.now s M.files.length).map Prod.snd).symm.nodup ?_
      rw [List.map_cons, List.nodup_cons]
      refine ⟨fun hm => ?_, hw.nodup⟩
      obtain ⟨x, hx, e⟩ := List.mem_map.1 hm
      have := (hw.good x hx).1
      omega
    refine ⟨⟨fun i => if i = M.files.length then f else ι i, ?_, fun i hi => ?_⟩, RDisk.lead_wf hwadd hok hnd⟩
    · have := hadd.lead hok
      rw [hu] at this
      have hwith : D.come.with s f = (dk.setFile D.come f ⟨[], 0⟩).lead ⟨dk.no, s, some f⟩ := Dsk.with_none hnow
      rw [hwith, h.used]
      have e1 : ((dk.setFile D.come f ⟨[], 0⟩).lead ⟨dk.no, s, some f⟩).file f = ⟨[], 0⟩ := by
        show (if f = f then (⟨[], 0⟩ : FileV) else D.come.file f) = _
        rw [if_pos rfl]
      rw [e1]
      have e2 : rd.toD (fun i => if i = M.acted.files.length then f else ι i) ⟨1, s, dk.no, M.files.length⟩ = ⟨dk.no, s, some f⟩ := by
        unfold rd.toD
        rw [if_pos rfl]
        dsimp only
        rw [if_pos (show M.files.length = M.acted.files.length from rfl)]
      rw [e2] at this
      have e3 : dk.use (dk.setFile ((dk.setFile D.come f ⟨[], 0⟩).lead ⟨dk.no, s, some f⟩) f ⟨[] ++ b, 0⟩) (M.used + (b.length : Int)) = dk.use ((dk.setFile D.come f ⟨b, 0⟩).lead ⟨dk.no, s, some f⟩) (M.used + (b.length : Int)) := by
        unfold dk.use Dsk.lead dk.setFile
        dsimp only
        congr 1
        funext g
        by_cases e : g = f
        · rw [if_pos e, if_pos e]; rfl
        · rw [if_neg e, if_neg e, if_neg e]
      rw [e3]
      exact this
    · dsimp only
      by_cases e : i = M.files.length
      · rw [if_pos e]
        have hwith : D.come.with s f = (dk.setFile D.come f ⟨[], 0⟩).lead ⟨dk.no, s, some f⟩ := Dsk.with_none hnow
        rw [hwith]
        exact .inr (.inl ⟨s, by
          show (⟨dk.no, s, some f⟩ : DAct).on D.now s = some f
          unfold DAct.on
          dsimp only
          rw [if_pos rfl, if_neg (dk.ok_no hs)]
          show (if s = s then some f else D.now s) = some f
          rw [if_pos rfl]⟩)
      · rw [if_neg e]
        have : i < M.files.length + 1 := by rw [← hl]; exact hi
        exact .inl (hn i (by omega))
end
section
open Go.RowKit Go.Maps
set_option maxRecDepth 100000

theorem Sim.truncE {D : Dsk} {M : RDisk} {ι : Nat → Nat} (h : Sim D M ι) (hw : M.WF) (s : ByteArray) (n : Int) : D.truncE s n = M.truncE s n := by
  unfold Dsk.truncE RDisk.truncE
  rw [h.actE]
  by_cases e : M.actE [s] ≠ 0
  · rw [if_pos e, if_pos e]
  rw [if_neg e, if_neg e]
  cases hi : rd.look M.now s with
  | none => rw [h.now_none hi]
  | some i =>
    rw [h.now_some hi]
    dsimp only
    rw [h.file i (hw.lt hi)]
    rfl
theorem Sim.syncE {D : Dsk} {M : RDisk} {ι : Nat → Nat} (h : Sim D M ι) (s : ByteArray) : D.syncE s = M.syncE s := by
  unfold Dsk.syncE RDisk.syncE
  rw [h.actE]
  by_cases e : M.actE [s] ≠ 0
  · rw [if_pos e, if_pos e]
  rw [if_neg e, if_neg e]
  cases hi : rd.look M.now s with
  | none => rw [h.now_none hi]
  | some i => rw [h.now_some hi]
theorem Sim.remE {D : Dsk} {M : RDisk} {ι : Nat → Nat} (h : Sim D M ι) (s : ByteArray) : D.remE s = M.remE s := h.syncE s
theorem Sim.renE {D : Dsk} {M : RDisk} {ι : Nat → Nat} (h : Sim D M ι) (s t : ByteArray) : D.renE s t = M.renE s t := by
  unfold Dsk.renE RDisk.renE
  rw [h.actE]
  by_cases e : M.actE [s, t] ≠ 0
  · rw [if_pos e, if_pos e]
  rw [if_neg e, if_neg e]
  cases hi : rd.look M.now s with
  | none => rw [h.now_none hi]
  | some i => rw [h.now_some hi]
theorem Sim.trunc {D : Dsk} {M : RDisk} {ι : Nat → Nat} (h : Sim D M ι) (hw : M.WF) (s : ByteArray) (n : Int) :
    Sim (D.trunc s n) (M.trunc s n) ι ∧ (M.trunc s n).WF ∧ (M.trunc s n).files.length = M.files.length := by
  have hE := h.truncE hw s n
  unfold Dsk.trunc RDisk.trunc
  unfold Dsk.truncE at hE
  rw [h.actE] at hE ⊢
  by_cases e0 : M.actE [s] ≠ 0
  · rw [if_pos e0] at hE ⊢
    rw [if_pos (by rw [← hE]; exact e0)]
    exact ⟨h.acted, hw.acted, rfl⟩
  rw [if_neg e0] at hE ⊢
  cases hi : rd.look M.now s with
  | none =>
    rw [h.now_none hi] at hE ⊢
    dsimp only at hE ⊢
    rw [if_pos (by rw [← hE]; decide)]
    exact ⟨h.acted, hw.acted, rfl⟩
  | some i =>
    rw [h.now_some hi] at hE ⊢
    dsimp only at hE ⊢
    have hil := hw.lt hi
    rw [h.file i hil] at hE ⊢
    by_cases hb : n < 0 ∨ ((M.file i).data.length : Int) < n
    · rw [if_pos hb] at hE ⊢
      rw [if_pos (by rw [← hE]; decide)]
      exact ⟨h.acted, hw.acted, rfl⟩
    · rw [if_neg hb] at hE ⊢
      rw [if_neg (by rw [← hE]; decide)]
      have hsh := hw.short _ (RDisk.file_mem hil)
      have hlt : ((M.file i).data.take n.toNat).length = n.toNat := by rw [List.length_take]; omega
      have hle := RDisk.len_used hi
      have hfit := hw.fit
      have hu : (M.acted.set i ⟨(M.file i).data.take n.toNat, n.toNat⟩).used = M.used - (((M.file i).data.length : Int) - n) := by
        rw [RDisk.set_used (M := M.acted) hw.acted hi, RDisk.acted_used, RDisk.acted_len]
        unfold RDisk.len
        dsimp only
        rw [hlt]
        omega
      refine ⟨?_, RDisk.set_wf hw.acted ⟨by dsimp only; omega, by dsimp only; omega, fun x hx => hsh.2.2 x (List.mem_of_mem_take hx)⟩, List.length_set⟩
      have := h.acted.set (i := i) hil ⟨(M.file i).data.take n.toNat, n.toNat⟩
      rw [hu] at this
      rw [h.used]
      exact this
theorem Sim.sync {D : Dsk} {M : RDisk} {ι : Nat → Nat} (h : Sim D M ι) (hw : M.WF) (s : ByteArray) :
    Sim (D.sync s) (M.sync s) ι ∧ (M.sync s).WF ∧ (M.sync s).files.length = M.files.length := by
  have hE := h.syncE s
  unfold Dsk.sync RDisk.sync
  unfold Dsk.syncE at hE
  rw [h.actE] at hE ⊢
  by_cases e0 : M.actE [s] ≠ 0
  · rw [if_pos e0] at hE ⊢
    rw [if_pos (by rw [← hE]; exact e0)]
    exact ⟨h.acted, hw.acted, rfl⟩
  rw [if_neg e0] at hE ⊢
  cases hi : rd.look M.now s with
  | none =>
    rw [h.now_none hi] at hE ⊢
    rw [if_pos (by rw [← hE]; decide)]
    exact ⟨h.acted, hw.acted, rfl⟩
  | some i =>
    rw [h.now_some hi] at hE ⊢
    dsimp only at hE ⊢
    have hil := hw.lt hi
    rw [h.file i hil]
    rw [if_neg (by rw [← hE]; decide)]
    have hsh := hw.short _ (RDisk.file_mem hil)
    have hfit := hw.fit
    have hu : (M.acted.set i ⟨(M.file i).data, (M.file i).data.length⟩).used = M.used := by
      rw [RDisk.set_used (M := M.acted) hw.acted hi, RDisk.acted_used, RDisk.acted_len]
      unfold RDisk.len
      dsimp only
      omega
    refine ⟨?_, RDisk.set_wf hw.acted ⟨Nat.le_refl _, hsh.2⟩, List.length_set⟩
    have := h.acted.set (i := i) hil ⟨(M.file i).data, (M.file i).data.length⟩
    rw [hu, ← h.used] at this
    exact this
theorem rd.snd_inj {l : RNames} (hn : (l.map Prod.snd).Nodup) {x y : ByteArray × Nat} (hx : x ∈ l) (hy : y ∈ l) (e : x.2 = y.2) : x = y := by
  induction l with
  | nil => cases hx
  | cons z l ih =>
    rw [List.map_cons, List.nodup_cons] at hn
    rcases List.mem_cons.1 hx with e1 | h1
    · rcases List.mem_cons.1 hy with e2 | h2
      · rw [e1, e2]
      · exact absurd (by rw [← e1, e]; exact List.mem_map_of_mem h2) hn.1
    · rcases List.mem_cons.1 hy with e2 | h2
      · exact absurd (by rw [← e2, ← e]; exact List.mem_map_of_mem h1) hn.1
      · exact ih hn.2 h1 h2
theorem Sim.rem {D : Dsk} {M : RDisk} {ι : Nat → Nat} (h : Sim D M ι) (hw : M.WF) (s : ByteArray) :
    Sim (D.rem s) (M.rem s) ι ∧ (M.rem s).WF ∧ (M.rem s).files.length = M.files.length := by
  have hE := h.remE s
  unfold Dsk.rem RDisk.rem
  unfold Dsk.remE at hE
  rw [h.actE] at hE ⊢
  by_cases e0 : M.actE [s] ≠ 0
  · rw [if_pos e0] at hE ⊢
    rw [if_pos (by rw [← hE]; exact e0)]
    exact ⟨h.acted, hw.acted, rfl⟩
  rw [if_neg e0] at hE ⊢
  cases hi : rd.look M.now s with
  | none =>
    rw [h.now_none hi] at hE ⊢
    rw [if_pos (by rw [← hE]; decide)]
    exact ⟨h.acted, hw.acted, rfl⟩
  | some i =>
    rw [h.now_some hi] at hE ⊢
    dsimp only at hE ⊢
    have hil := hw.lt hi
    rw [h.file i hil]
    rw [if_neg (by rw [← hE]; decide)]
    have hs := RDisk.actE_ok (by simpa using e0) s (by simp)
    have hfit := hw.fit
    have hle := RDisk.len_used hi
    have hok : RAct.ok ⟨3, s, dk.no, 0⟩ M.acted.files.length := ⟨.inr (.inr rfl), hs, fun q => (by cases q), fun q => absurd rfl q⟩
    have happ : rd.apply M.acted.now ⟨3, s, dk.no, 0⟩ = rd.without M.now s := by
      unfold rd.apply
      rw [if_neg (show ¬ (3 : Nat) = 1 by decide), if_neg (show ¬ (3 : Nat) = 2 by decide)]
      rfl
    have hu : (M.acted.lead ⟨3, s, dk.no, 0⟩).used = M.used - ((M.file i).data.length : Int) := by
      have e1 : (M.acted.lead ⟨3, s, dk.no, 0⟩).used = rd.sum M.len (rd.without M.now s) := by rw [← happ]; rfl
      rw [e1, rd.sum_without _ hw.rise, hi]
      rfl
    refine ⟨?_, RDisk.lead_wf hw.acted hok ?_, rfl⟩
    · have := h.acted.lead hok
      rw [hu, ← h.used] at this
      exact this
    · rw [happ]
      exact List.Nodup.sublist (List.Sublist.map Prod.snd List.filter_sublist) hw.nodup
theorem Sim.len {D : Dsk} {M : RDisk} {ι : Nat → Nat} (h : Sim D M ι) (hw : M.WF) (t : ByteArray) : (D.len t : Int) = ((rd.look M.now t).map M.len).getD 0 := by
  unfold Dsk.len
  cases hi : rd.look M.now t with
  | none => rw [h.now_none hi]; rfl
  | some i =>
    rw [h.now_some hi]
    dsimp only
    rw [h.file i (hw.lt hi)]
    rfl
theorem Sim.ren {D : Dsk} {M : RDisk} {ι : Nat → Nat} (h : Sim D M ι) (hw : M.WF) (s t : ByteArray) :
    Sim (D.ren s t) (M.ren s t) ι ∧ (M.ren s t).WF ∧ (M.ren s t).files.length = M.files.length := by
  have hE := h.renE s t
  unfold Dsk.ren RDisk.ren
  unfold Dsk.renE at hE
  rw [h.actE] at hE ⊢
  by_cases e0 : M.actE [s, t] ≠ 0
  · rw [if_pos e0] at hE ⊢
    rw [if_pos (by rw [← hE]; exact e0)]
    exact ⟨h.acted, hw.acted, rfl⟩
  rw [if_neg e0] at hE ⊢
  cases hi : rd.look M.now s with
  | none =>
    rw [h.now_none hi] at hE ⊢
    dsimp only at hE ⊢
    rw [if_pos (by rw [← hE]; decide)]
    exact ⟨h.acted, hw.acted, rfl⟩
  | some i =>
    rw [h.now_some hi] at hE ⊢
    dsimp only at hE ⊢
    have hil := hw.lt hi
    by_cases hst : s = t
    · rw [if_pos hst] at hE ⊢
      rw [if_pos (by rw [← hE]; decide)]
      exact ⟨h.acted, hw.acted, rfl⟩
    rw [if_neg hst] at hE ⊢
    rw [if_neg (by rw [← hE]; decide)]
    have hs := RDisk.actE_ok (by simpa using e0) s (by simp)
    have ht := RDisk.actE_ok (by simpa using e0) t (by simp)
    have hfit := hw.fit
    have hok : RAct.ok ⟨2, s, t, i⟩ M.acted.files.length := ⟨.inr (.inl rfl), hs, fun _ => ht, fun _ => hil⟩
    have happ : rd.apply M.acted.now ⟨2, s, t, i⟩ = rd.ins (rd.without (rd.without M.now s) t) t i := by
      unfold rd.apply
      rw [if_neg (show ¬ (2 : Nat) = 1 by decide), if_pos (show (2 : Nat) = 2 by decide)]
      rfl
    have hpos : 0 ≤ ((rd.look M.now t).map M.len).getD 0 := by
      cases rd.look M.now t with
      | none => exact Int.le_refl _
      | some j => exact M.len_pos j
    have hu : (M.acted.lead ⟨2, s, t, i⟩).used = M.used - ((rd.look M.now t).map M.len).getD 0 := by
      have e1 : (M.acted.lead ⟨2, s, t, i⟩).used = rd.sum M.len (rd.ins (rd.without (rd.without M.now s) t) t i) := by rw [← happ]; rfl
      rw [e1, rd.sum_ins, rd.sum_without _ (rd.rises_without hw.rise s), rd.sum_without _ hw.rise, rd.look_without, if_neg (fun q => hst q.symm), hi]
      show M.len i + (M.used - M.len i - _) = _
      omega
    refine ⟨?_, RDisk.lead_wf hw.acted hok ?_, rfl⟩
    · have := h.acted.lead hok
      rw [hu, ← h.used, ← h.len hw] at this
      exact this
    · rw [happ]
      refine ((rd.ins_perm _ t i).map Prod.snd).symm.nodup ?_
      rw [List.map_cons, List.nodup_cons]
      refine ⟨fun hm => ?_, List.Nodup.sublist (List.Sublist.map Prod.snd (List.filter_sublist.trans List.filter_sublist)) hw.nodup⟩
      obtain ⟨x, hx, e⟩ := List.mem_map.1 hm
      obtain ⟨hx, -⟩ := rd.mem_without.1 hx
      obtain ⟨hx, hxs⟩ := rd.mem_without.1 hx
      exact hxs (by rw [rd.snd_inj hw.nodup hx (rd.look_mem hi) e])
theorem Sim.dir {D : Dsk} {M : RDisk} {ι : Nat → Nat} (h : Sim D M ι) (hw : M.WF) : Sim D.dir M.dir ι ∧ M.dir.WF ∧ M.dir.files.length = M.files.length := by
  unfold Dsk.dir RDisk.dir
  rw [h.actE]
  by_cases e0 : M.actE [] ≠ 0
  · rw [if_pos e0, if_pos e0]
    exact ⟨h.acted, hw.acted, rfl⟩
  rw [if_neg e0, if_neg e0]
  have ha := h.acted
  have hwa := hw.acted
  refine ⟨⟨ha.room, ha.used, ha.ops, ha.off, ha.cut, ha.now, fun s => ?_, rfl, ha.file, ha.inj⟩, ⟨hwa.rise, hwa.rise, hwa.nodup, hwa.good, hwa.good, fun a hx => (by cases hx), rfl, hwa.short, hwa.fit, hwa.left⟩, rfl⟩
  show dk.run D.safe D.since s = (rd.look M.now s).map ι
  rw [h.since, hw.runs]
  exact rd.run hw.acts h.safe s
theorem Sim.cutAt {D : Dsk} {M : RDisk} {ι : Nat → Nat} (h : Sim D M ι) (hw : M.WF) {n : Int} (hn : n ≤ 9223372036854775807) : Sim (D.cutAt n) (M.cutAt n) ι ∧ (M.cutAt n).WF ∧ (M.cutAt n).files.length = M.files.length := by
  refine ⟨⟨h.room, h.used, h.ops, h.off, .inr ⟨rfl, ?_, rfl⟩, h.now, h.safe, h.since, h.file, h.inj⟩, ⟨hw.rise, hw.rises, hw.nodup, hw.good, hw.goods, hw.acts, hw.runs, hw.short, hw.fit, ?_⟩, rfl⟩
  · show 0 ≤ if n < 0 then 0 else n
    split <;> omega
  · show -1 ≤ (if n < 0 then 0 else n) ∧ (if n < 0 then 0 else n) ≤ 9223372036854775807
    split <;> omega
def RDisk.new (room : Int) : RDisk := ⟨room, [], [], [], [], -1, false, 0⟩
theorem Sim.new (room : Int) : Sim (Dsk.new room) (RDisk.new room) id := ⟨rfl, rfl, rfl, rfl, .inl ⟨rfl, rfl⟩, fun _ => rfl, fun _ => rfl, rfl, fun _ hi => absurd hi (Nat.not_lt_zero _), fun _ _ hi => absurd hi (Nat.not_lt_zero _)⟩
theorem RDisk.new_wf {room : Int} (h : 0 ≤ room ∧ room ≤ 1099511627776) : (RDisk.new room).WF := ⟨List.Pairwise.nil, List.Pairwise.nil, List.Pairwise.nil, fun x hx => (by cases hx), fun x hx => (by cases hx), fun x hx => (by cases hx), rfl, fun x hx => (by cases hx), h, by show (-1 : Int) ≤ -1; decide, by show (-1 : Int) ≤ 9223372036854775807; decide⟩
end
section
open Go.RowKit Go.Maps
set_option maxRecDepth 100000

def RDisk.keptN (M : RDisk) (ps : List Int) : RNames := rd.applyAll M.safe (M.acts.take (dk.pick ps (M.acts.length : Int)).1.toNat)
def RDisk.restP (M : RDisk) (ps : List Int) : List Int := (dk.pick ps (M.acts.length : Int)).2
structure RLeft where
  files : List FileV
  names : RNames
  picks : List Int
def rd.crashStep (M : RDisk) (x : RLeft) (nm : ByteArray × Nat) : RLeft :=
  ⟨x.files ++ [⟨(M.file nm.2).data.take (dk.keepOf (M.file nm.2) x.picks).1.toNat, (dk.keepOf (M.file nm.2) x.picks).1.toNat⟩], x.names ++ [(nm.1, x.files.length)], (dk.keepOf (M.file nm.2) x.picks).2⟩
def rd.crashAll (M : RDisk) (l : RNames) (ps : List Int) : RLeft := l.foldl (rd.crashStep M) ⟨[], [], ps⟩
def RDisk.crash (M : RDisk) (ps : List Int) : RDisk := ⟨M.room, (rd.crashAll M (M.keptN ps) (M.restP ps)).files, (rd.crashAll M (M.keptN ps) (M.restP ps)).names, (rd.crashAll M (M.keptN ps) (M.restP ps)).names, [], -1, false, 0⟩
theorem rd.crashAll_snoc (M : RDisk) (l : RNames) (x : ByteArray × Nat) (ps : List Int) : rd.crashAll M (l ++ [x]) ps = rd.crashStep M (rd.crashAll M l ps) x := by unfold rd.crashAll; simp
theorem rd.look_append (l m : RNames) (s : ByteArray) : rd.look (l ++ m) s = match rd.look l s with | some f => some f | none => rd.look m s := by
  induction l with
  | nil => rfl
  | cons x l ih =>
    show (if x.1 = s then some x.2 else rd.look (l ++ m) s) = match (if x.1 = s then some x.2 else rd.look l s) with | some f => some f | none => rd.look m s
    by_cases e : x.1 = s
    · rw [if_pos e, if_pos e]
    · rw [if_neg e, if_neg e, ih]
theorem rd.rises_iff (l : RNames) : rd.Rises l ↔ (l.map Prod.fst).Pairwise fun s t => bl.lt s t = true := by rw [List.pairwise_map]
theorem rd.sum_append (g : Nat → Int) (l m : RNames) : rd.sum g (l ++ m) = rd.sum g l + rd.sum g m := by unfold rd.sum; simp
/-- Bytes of files, by place. -/
def rd.at_ (fs : List FileV) (i : Nat) : FileV := fs.getD i rd.vd
theorem rd.at_old {fs : List FileV} {v : FileV} {i : Nat} (h : i < fs.length) : rd.at_ (fs ++ [v]) i = rd.at_ fs i := by
  unfold rd.at_
  rw [List.getD_eq_getElem?_getD, List.getElem?_append_left h, List.getD_eq_getElem?_getD]
theorem rd.at_new (fs : List FileV) (v : FileV) : rd.at_ (fs ++ [v]) fs.length = v := by unfold rd.at_; simp

/-- Both crashes, name by name. -/
structure rd.Both (x : RLeft) (y : DLeft) (l : RNames) : Prop where
  len : x.files.length = l.length
  names : x.names = (l.map Prod.fst).zipIdx
  picks : y.picks = x.picks
  used : y.used = rd.sum (fun i => ((rd.at_ x.files i).data.length : Int)) x.names
  by_ : ∀ s, y.by_ s = (rd.look x.names s).map fun i => (rd.at_ x.files i).data
  ok : ∀ v ∈ x.files, v.safe = v.data.length ∧ v.data.length ≤ 1099511627776 ∧ ∀ b ∈ v.data, b < 256
theorem rd.Both.step {D : Dsk} {M : RDisk} {ι : Nat → Nat} {N : DNames} {x : RLeft} {y : DLeft} {l : RNames} (h : rd.Both x y l) {nm : ByteArray × Nat} (hN : N nm.1 = some (ι nm.2)) (hf : D.file (ι nm.2) = M.file nm.2)
    (hv : (M.file nm.2).safe ≤ (M.file nm.2).data.length ∧ (M.file nm.2).data.length ≤ 1099511627776 ∧ ∀ b ∈ (M.file nm.2).data, b < 256) (hr : rd.Rises (l ++ [nm])) : rd.Both (rd.crashStep M x nm) (dk.leftStep D N y nm.1) (l ++ [nm]) := by
  obtain ⟨s, j⟩ := nm
  dsimp only at hN hf hv
  have hle := dk.keepOf_le (ps := x.picks) hv.1
  have hnew : ∀ z ∈ l, z.1 ≠ s := fun z hz => bl.ne ((List.pairwise_append.1 hr).2.2 z hz (s, j) (by simp))
  have hlook : rd.look x.names s = none := by
    rw [h.names]
    cases e : rd.look (l.map Prod.fst).zipIdx s with
    | none => rfl
    | some i =>
      have h1 := rd.look_mem e
      rw [List.mem_zipIdx_iff_getElem?] at h1
      have h2 := List.mem_of_getElem? h1
      obtain ⟨z, hz, e2⟩ := List.mem_map.1 h2
      exact absurd e2 (hnew z hz)
  have hlt : ∀ z ∈ x.names, z.2 < x.files.length := fun z hz => by
    rw [h.names, List.mem_zipIdx_iff_getElem?] at hz
    have := (List.getElem?_eq_some_iff.1 hz).1
    rw [List.length_map] at this
    rw [h.len]
    exact this
  obtain ⟨kp, hkp⟩ : ∃ kp, kp = dk.keepOf (M.file j) x.picks := ⟨_, rfl⟩
  rw [← hkp] at hle
  have hlk : ((M.file j).data.take kp.1.toNat).length = kp.1.toNat := by rw [List.length_take]; omega
  have hx : rd.crashStep M x (s, j) = ⟨x.files ++ [⟨(M.file j).data.take kp.1.toNat, kp.1.toNat⟩], x.names ++ [(s, x.files.length)], kp.2⟩ := by rw [hkp]; rfl
  have hy : dk.leftStep D N y s = ⟨fun t => if t = s then some ((M.file j).data.take kp.1.toNat) else y.by_ t, y.used + kp.1, kp.2⟩ := by
    unfold dk.leftStep
    rw [hN]
    dsimp only
    rw [hf, h.picks, ← hkp]
  rw [hx, hy]
  refine ⟨?_, ?_, rfl, ?_, fun t => ?_, fun v hv2 => ?_⟩
  · dsimp only
    rw [List.length_append, List.length_append, h.len]
    rfl
  · dsimp only
    rw [List.map_append, List.zipIdx_append, h.names, h.len]
    simp
  · dsimp only
    rw [rd.sum_append, h.used]
    have e1 : rd.sum (fun i => ((rd.at_ (x.files ++ [⟨(M.file j).data.take kp.1.toNat, kp.1.toNat⟩]) i).data.length : Int)) x.names = rd.sum (fun i => ((rd.at_ x.files i).data.length : Int)) x.names := rd.sum_congr fun z hz => by rw [rd.at_old (hlt z hz)]
    have e2 : rd.sum (fun i => ((rd.at_ (x.files ++ [⟨(M.file j).data.take kp.1.toNat, kp.1.toNat⟩]) i).data.length : Int)) [(s, x.files.length)] = kp.1 := by
      unfold rd.sum
      simp only [List.map_cons, List.map_nil, List.sum_cons, List.sum_nil]
      rw [rd.at_new]
      dsimp only
      rw [hlk]
      omega
    rw [e1, e2]
  · dsimp only
    rw [rd.look_append]
    by_cases e : t = s
    · rw [if_pos e, e, hlook]
      dsimp only
      show _ = Option.map _ (if s = s then some x.files.length else none)
      rw [if_pos rfl, Option.map_some, rd.at_new]
    · rw [if_neg e, h.by_ t]
      cases e2 : rd.look x.names t with
      | none =>
        dsimp only
        show _ = Option.map _ (if s = t then some x.files.length else none)
        rw [if_neg (fun q => e q.symm)]
        rfl
      | some i =>
        dsimp only
        rw [Option.map_some, Option.map_some, rd.at_old (hlt _ (rd.look_mem e2))]
  · rcases List.mem_append.1 hv2 with hv2 | hv2
    · exact h.ok v hv2
    · rw [List.mem_singleton.1 hv2]
      exact ⟨hlk.symm, by dsimp only; rw [hlk]; omega, fun b hb => hv.2.2 b (List.mem_of_mem_take hb)⟩
theorem rd.both {D : Dsk} {M : RDisk} {ι : Nat → Nat} {N : DNames} {l : RNames} {ps : List Int} (hr : rd.Rises l) (hN : ∀ s, N s = (rd.look l s).map ι) (hf : ∀ i, i < M.files.length → D.file (ι i) = M.file i) (hg : rd.Good l M.files.length) (hw : M.WF) :
    rd.Both (rd.crashAll M l ps) (dk.left D N (l.map Prod.fst) ps) l := by
  have key : ∀ k, k ≤ l.length → rd.Both (rd.crashAll M (l.take k) ps) (dk.left D N ((l.take k).map Prod.fst) ps) (l.take k) := by
    intro k
    induction k with
    | zero =>
      intro _
      rw [List.take_zero]
      exact ⟨rfl, rfl, rfl, rfl, fun _ => rfl, fun v hv => by cases hv⟩
    | succ k ih =>
      intro hk
      have hk' : k < l.length := by omega
      have ht := List.take_succ_eq_append_getElem hk'
      rw [ht, rd.crashAll_snoc, List.map_append, List.map_cons, List.map_nil, dk.left_snoc]
      have hm : l[k] ∈ l := List.getElem_mem hk'
      have hgk := hg _ hm
      refine (ih (by omega)).step (ι := ι) ?_ (hf _ hgk.1) (hw.short _ (RDisk.file_mem hgk.1)) ?_
      · rw [hN, rd.mem_look hr (show (l[k].1, l[k].2) ∈ l from hm)]
        rfl
      · rw [← ht]
        exact hr.sublist (List.take_sublist _ _)
  have := key l.length (Nat.le_refl _)
  rw [List.take_length] at this
  exact this
theorem barr_lt (x y : List UInt8) : bl.lt (barr x) (barr y) = true ↔ x < y := by
  have hl : ∀ z : List UInt8, (barr z).toList = z := fun z => by rw [ByteArray.toList_eq]; simp [barr]
  rw [bl.lt_iff, hl, hl]
theorem dk.Rise.rises {ks : List ByteArray} (h : dk.Rise ks) : ks.Pairwise fun s t => bl.lt s t = true := by
  obtain ⟨ss, rfl, hnd⟩ := h
  rw [List.pairwise_map]
  have hs : (ss.mergeSort fun x y => decide (x ≤ y)).Pairwise fun x y => decide (x ≤ y) = true :=
    List.pairwise_mergeSort (le := fun x y : List UInt8 => decide (x ≤ y)) (fun a b c h1 h2 => decide_eq_true (List.le_trans (of_decide_eq_true h1) (of_decide_eq_true h2))) (fun a b => by
      rcases List.le_total a b with h | h
      · simp [h]
      · simp [h]) ss
  have hn : (ss.mergeSort fun x y => decide (x ≤ y)).Pairwise fun x y => x ≠ y := (List.mergeSort_perm ss _).symm.nodup hnd
  refine (hs.and hn).imp fun {a b} h => ?_
  rw [barr_lt]
  rw [← Decidable.not_not (p := a < b)]
  intro hlt
  exact h.2 (List.le_antisymm (of_decide_eq_true h.1) (List.not_lt.1 hlt))
theorem bl.rising_eq : ∀ (a b : List ByteArray), a.Pairwise (fun x y => bl.lt x y = true) → b.Pairwise (fun x y => bl.lt x y = true) → (∀ s, s ∈ a ↔ s ∈ b) → a = b
  | [], [], _, _, _ => rfl
  | [], y :: b, _, _, h => absurd ((h y).2 (by simp)) (by simp)
  | x :: a, [], _, _, h => absurd ((h x).1 (by simp)) (by simp)
  | x :: a, y :: b, ha, hb, h => by
    have ha' := List.pairwise_cons.1 ha
    have hb' := List.pairwise_cons.1 hb
    have e : x = y := by
      have h1 := (h x).1 (by simp)
      have h2 := (h y).2 (by simp)
      rcases List.mem_cons.1 h1 with e | h1
      · exact e
      · rcases List.mem_cons.1 h2 with e | h2
        · exact e.symm
        · have := bl.trans (ha'.1 y h2) (hb'.1 x h1)
          rw [bl.irrefl] at this
          cases this
    subst e
    refine congrArg (x :: ·) (bl.rising_eq a b ha'.2 hb'.2 fun s => ⟨fun hs => ?_, fun hs => ?_⟩)
    · rcases List.mem_cons.1 ((h s).1 (List.mem_cons_of_mem _ hs)) with rfl | h1
      · exact absurd rfl (bl.ne (ha'.1 s hs))
      · exact h1
    · rcases List.mem_cons.1 ((h s).2 (List.mem_cons_of_mem _ hs)) with rfl | h1
      · exact absurd rfl (bl.ne (hb'.1 s hs))
      · exact h1
/-- The keys of names, in rising order, are the names. -/
theorem rd.keys {l : RNames} {N : DNames} {ι : Nat → Nat} {n : Nat} {ks : List ByteArray} (hr : rd.Rises l) (hN : ∀ s, N s = (rd.look l s).map ι) (hg : rd.Good l n) (hk : dk.Keys (fun s => (N s).map dk.ptr) ks) (hs : ks.Pairwise fun s t => bl.lt s t = true) : ks = l.map Prod.fst := by
  refine bl.rising_eq _ _ hs ((rd.rises_iff l).1 hr) fun s => ?_
  rw [hk.2 s]
  show s.size ≤ maxLen ∧ ((N s).map dk.ptr).isSome = true ↔ _
  rw [hN s]
  constructor
  · rintro ⟨-, h⟩
    cases e : rd.look l s with
    | none => rw [e] at h; cases h
    | some i => exact List.mem_map.2 ⟨_, rd.look_mem e, rfl⟩
  · intro h
    obtain ⟨x, hx, rfl⟩ := List.mem_map.1 h
    refine ⟨dk.ok_le (hg x hx).2, ?_⟩
    rw [rd.mem_look hr (show (x.1, x.2) ∈ l from hx)]
    rfl
/-- A crash: what the program's leaves says what this one leaves. -/
theorem Sim.crash {D D' : Dsk} {M : RDisk} {ι : Nat → Nat} (h : Sim D M ι) (hw : M.WF) {ps : List Int} {ks : List ByteArray} (hk : dk.Keys (fun s => (D.kept ps s).map dk.ptr) ks) (hri : dk.Rise ks) (hh : dk.Holds D' D.room (dk.left D (D.kept ps) ks (D.rest ps))) :
    (∃ κ, Sim D' (M.crash ps) κ ∧ ∀ i, i < (M.crash ps).files.length → D'.Has (κ i)) ∧ ks.length = (M.keptN ps).length ∧ (M.crash ps).now = (((M.keptN ps).map Prod.fst).zipIdx) ∧ rd.Rises (M.crash ps).now ∧ rd.Good (M.crash ps).now (M.crash ps).files.length ∧ ((M.crash ps).now.map Prod.snd).Nodup ∧ (∀ v ∈ (M.crash ps).files, v.safe = v.data.length ∧ v.data.length ≤ 1099511627776 ∧ ∀ b ∈ v.data, b < 256) ∧ (M.crash ps).files.length = (M.keptN ps).length := by
  have hsi : D.since.length = M.acts.length := by rw [h.since, List.length_map]
  have hkept : ∀ s, D.kept ps s = (rd.look (M.keptN ps) s).map ι := fun s => by
    unfold Dsk.kept RDisk.keptN
    rw [hsi, h.since, ← List.map_take]
    exact rd.run (fun a ha => hw.acts a (List.mem_of_mem_take ha)) h.safe s
  have hrest : D.rest ps = M.restP ps := by unfold Dsk.rest RDisk.restP; rw [hsi]
  have hr : rd.Rises (M.keptN ps) := rd.rises_all hw.rises
  have hg : rd.Good (M.keptN ps) M.files.length := rd.good_all hw.goods fun a ha => hw.acts a (List.mem_of_mem_take ha)
  have hks := rd.keys hr hkept hg hk hri.rises
  subst hks
  rw [hrest] at hh
  have hb := rd.both (ps := M.restP ps) hr hkept h.file hg hw
  obtain ⟨x, hx⟩ : ∃ x, x = rd.crashAll M (M.keptN ps) (M.restP ps) := ⟨_, rfl⟩
  have hM : M.crash ps = ⟨M.room, x.files, x.names, x.names, [], -1, false, 0⟩ := by rw [hx]; rfl
  rw [← hx] at hb
  rw [hM]
  obtain ⟨p1, p2, p3, p4, p5⟩ := hh.plain
  have hfst : x.names.map Prod.fst = (M.keptN ps).map Prod.fst := by rw [hb.names, List.zipIdx_map_fst]
  have hxr : rd.Rises x.names := (rd.rises_iff _).2 (by rw [hfst]; exact (rd.rises_iff _).1 hr)
  have hmem : ∀ z ∈ x.names, ((M.keptN ps).map Prod.fst)[z.2]? = some z.1 := fun z hz => by
    rw [hb.names, List.mem_zipIdx_iff_getElem?] at hz
    exact hz
  have hlt : ∀ z ∈ x.names, z.2 < x.files.length := fun z hz => by
    have := (List.getElem?_eq_some_iff.1 (hmem z hz)).1
    rw [List.length_map] at this
    rw [hb.len]
    exact this
  have hgood : rd.Good x.names x.files.length := fun z hz => by
    refine ⟨hlt z hz, ?_⟩
    obtain ⟨u, hu, e⟩ := List.mem_map.1 (List.mem_of_getElem? (hmem z hz))
    rw [← e]
    exact (hg u hu).2
  -- what the program's names lead to
  have hsome : ∀ s i, rd.look x.names s = some i → ∃ f, D'.now s = some f ∧ D'.file f = rd.at_ x.files i := fun s i hi => by
    have hby := hb.by_ s
    rw [hi, Option.map_some] at hby
    have hii := hlt _ (rd.look_mem hi)
    dsimp only at hii
    have hok := hb.ok (rd.at_ x.files i) (by
      unfold rd.at_
      rw [List.getD_eq_getElem?_getD, List.getElem?_eq_getElem hii]
      exact List.getElem_mem hii)
    rcases hh.file s with h1 | ⟨f, b, h1, h2, h3⟩
    · rw [hby] at h1
      cases h1.1
    · rw [hby] at h1
      have hbe : (rd.at_ x.files i).data = b := by simpa using h1
      subst hbe
      refine ⟨f, h2, ?_⟩
      rw [h3, ← hok.1]
  have hnone : ∀ s, rd.look x.names s = none → D'.now s = Option.none := fun s hi => by
    have hby := hb.by_ s
    rw [hi] at hby
    rcases hh.file s with h1 | ⟨f, b, h1, h2, h3⟩
    · exact h1.2
    · rw [hby] at h1
      cases h1
  obtain ⟨κ, hκ⟩ : ∃ κ : Nat → Nat, κ = fun i => (D'.now (((M.keptN ps).map Prod.fst).getD i dk.no)).getD 0 := ⟨_, rfl⟩
  have hκs : ∀ s i, rd.look x.names s = some i → D'.now s = some (κ i) := fun s i hi => by
    obtain ⟨f, h1, -⟩ := hsome s i hi
    have h2 := hmem _ (rd.look_mem hi)
    dsimp only at h2
    rw [hκ]
    dsimp only
    rw [List.getD_eq_getElem?_getD, h2, Option.getD_some, h1]
    rfl
  have hlook : ∀ i, i < x.files.length → ∃ s, rd.look x.names s = some i := fun i hi => by
    rw [hb.len] at hi
    obtain ⟨s, hs⟩ : ∃ s, ((M.keptN ps).map Prod.fst)[i]? = some s := ⟨_, List.getElem?_eq_getElem (by rw [List.length_map]; exact hi)⟩
    refine ⟨s, rd.mem_look hxr ?_⟩
    rw [hb.names, List.mem_zipIdx_iff_getElem?]
    exact hs
  refine ⟨⟨κ, ⟨?_, ?_, p1, p2, .inl ⟨p3, rfl⟩, fun s => ?_, fun s => ?_, p5, fun i hi => ?_, fun i j hi hj e => ?_⟩, fun i hi => ?_⟩, by rw [List.length_map], hb.names, hxr, hgood, ?_, hb.ok, hb.len⟩
  · rw [hh.room]; exact h.room
  · rw [hh.used, hb.used]
    rfl
  · dsimp only
    cases hi : rd.look x.names s with
    | none => exact hnone s hi
    | some i => exact hκs s i hi
  · dsimp only
    rw [hh.same]
    cases hi : rd.look x.names s with
    | none => exact hnone s hi
    | some i => exact hκs s i hi
  · obtain ⟨s, hs⟩ := hlook i hi
    obtain ⟨f, h1, h2⟩ := hsome s i hs
    have h3 := hκs s i hs
    rw [h1] at h3
    have e : f = κ i := by simpa using h3
    rw [← e]
    exact h2
  · obtain ⟨s, hs⟩ := hlook i hi
    obtain ⟨t, ht⟩ := hlook j hj
    have h1 := hκs s i hs
    have h2 := hκs t j ht
    rw [← e] at h2
    have hst := hh.inj s t _ h1 h2
    subst hst
    rw [hs] at ht
    simpa using ht
  · obtain ⟨s, hs⟩ := hlook i hi
    exact .inl ⟨s, hκs s i hs⟩
  · dsimp only
    rw [hb.names, List.zipIdx_map_snd]
    exact List.nodup_range'
end
section
open Go.RowKit Go.Maps
set_option maxRecDepth 100000

theorem RDisk.lead_now_len (M : RDisk) (a : RAct) : (M.lead a).now.length ≤ M.now.length + 1 := rd.apply_len M.now a
theorem RDisk.crash_wf {D D' : Dsk} {M : RDisk} {ι : Nat → Nat} (h : Sim D M ι) (hw : M.WF) {ps : List Int} {ks : List ByteArray} (hk : dk.Keys (fun s => (D.kept ps s).map dk.ptr) ks) (hri : dk.Rise ks) (hh : dk.Holds D' D.room (dk.left D (D.kept ps) ks (D.rest ps))) : (M.crash ps).WF := by
  obtain ⟨-, -, h3, h4, h5, h6, h7, -⟩ := h.crash hw hk hri hh
  refine ⟨h4, h4, h6, h5, h5, fun a ha => (by cases ha), rfl, fun v hv => ?_, hw.fit, by show (-1 : Int) ≤ -1; decide, by show (-1 : Int) ≤ 9223372036854775807; decide⟩
  obtain ⟨q1, q2, q3⟩ := h7 v hv
  exact ⟨by omega, q2, q3⟩
theorem DskIn.has_lt {w : World} {p : Nat} {D : Dsk} {F : Nat → Prop} {m f : Nat} (h : DskIn w p D F m) (hf : D.Has f) : f < w.heap.size := by
  obtain ⟨S, bn, bs, sv, dat, h⟩ := h
  exact (h.file f (h.has f hf)).1.lt
theorem DskIn.up {w : World} {p : Nat} {D : Dsk} {F : Nat → Prop} {m : Nat} (h : DskIn w p D F m) : p < w.heap.size ∧ F p ∧ ∀ k, F k → k < w.heap.size := by
  obtain ⟨S, bn, bs, sv, dat, h⟩ := h
  exact ⟨h.blk.lt, h.foot.1, h.lt⟩
theorem rd.sum_bound {g : Nat → Int} {l : RNames} {b : Int} (h : ∀ x ∈ l, g x.2 ≤ b) : rd.sum g l ≤ (l.length : Int) * b := by
  induction l with
  | nil => unfold rd.sum; simp
  | cons x l ih =>
    rw [rd.sum_cons, List.length_cons]
    have h1 := h x (by simp)
    have h2 := ih fun y hy => h y (List.mem_cons_of_mem _ hy)
    push_cast
    rw [Int.add_mul]
    omega
theorem RDisk.WF.used_le {M : RDisk} (h : M.WF) : M.used ≤ (M.now.length : Int) * 1099511627776 := rd.sum_bound fun x hx => by
  have := (h.short _ (RDisk.file_mem (h.good x hx).1)).2.1
  unfold RDisk.len
  omega
/-- The program's disk at p says M; F its blocks, n no fewer than its names and acts. -/
def PDisk (w : World) (p : Nat) (M : RDisk) (F : Nat → Prop) (n : Nat) : Prop :=
  ∃ D ι m, DskIn w p D F m ∧ Sim D M ι ∧ M.WF ∧ (∀ i, i < M.files.length → ι i < w.heap.size) ∧ m + M.acts.length ≤ n ∧ M.now.length + M.acts.length ≤ n ∧ M.safe.length + M.acts.length ≤ n
theorem PDisk.keep {w w' : World} {p : Nat} {M : RDisk} {F P : Nat → Prop} {n : Nat} (h : PDisk w p M F n) (hc : Chg w w' P) (hp : ∀ k, F k → ¬ P k) : PDisk w' p M F n := by
  obtain ⟨D, ι, m, h1, h2, h3, h4, h5⟩ := h
  exact ⟨D, ι, m, h1.keep hc hp, h2, h3, fun i hi => Nat.lt_of_lt_of_le (h4 i hi) hc.size, h5⟩
theorem PDisk.below {w w' : World} {p : Nat} {M : RDisk} {F : Nat → Prop} {n : Nat} (h : PDisk w p M F n) (hb : Below w.heap.size w w') : PDisk w' p M F n := h.keep (chg_of (P := fun _ => False) hb) fun _ _ q => q
theorem PDisk.mono {w : World} {p : Nat} {M : RDisk} {F : Nat → Prop} {n n' : Nat} (h : PDisk w p M F n) (hn : n ≤ n') : PDisk w p M F n' := by
  obtain ⟨D, ι, m, h1, h2, h3, h4, h5, h6, h7⟩ := h
  exact ⟨D, ι, m, h1, h2, h3, h4, by omega, by omega, by omega⟩
theorem PDisk.up {w : World} {p : Nat} {M : RDisk} {F : Nat → Prop} {n : Nat} (h : PDisk w p M F n) : p < w.heap.size ∧ F p ∧ (∀ k, F k → k < w.heap.size) ∧ M.WF := by
  obtain ⟨D, ι, m, h1, h2, h3, h4, h5⟩ := h
  exact ⟨h1.up.1, h1.up.2.1, h1.up.2.2, h3⟩
def RDisk.small (M : RDisk) : Prop := -1000000 ≤ M.ops ∧ M.ops ≤ 1000000
theorem PDisk.new {room : Int} (w : World) (h : 0 ≤ room ∧ room ≤ 1099511627776) : Calls Try.prog 12 #[.int .i64 room] w fun e w' => ∃ p, e = .returned (.tuple #[.pointer (some ⟨p, 0, none⟩), .int .i64 0]) ∧ PDisk w' p (RDisk.new room) (dk.fresh w w') 0 ∧ Below w.heap.size w w' := by
  refine (disk.New_any room w h).mono ?_
  rintro e w' ⟨p, h1, h2, h3⟩
  exact ⟨p, h1, ⟨_, id, 0, h2, Sim.new room, RDisk.new_wf h, fun i hi => absurd hi (Nat.not_lt_zero _), Nat.le_refl _, Nat.le_refl _, Nat.le_refl _⟩, h3⟩
theorem PDisk.append {s : ByteArray} {X : Option Addr} {k c : Nat} {b : List Nat} {p : Nat} {M : RDisk} {F : Nat → Prop} {n : Nat} {w : World} (h : PDisk w p M F n) (hs : s.size ≤ maxLen) (hM : M.small) (hat : At w X k (byteAt b)) (hbl : b.length = k) (hb : ∀ x ∈ b, x < 256) (hX : ∀ g off, X = some ⟨g, off, none⟩ → 0 < k → ¬ F g) (hk : k ≤ 4294967296) (hn : n ≤ 50000) :
    Calls Try.prog 22 #[.pointer (some ⟨p, 0, none⟩), .string s, .slice X k c] w fun e w' => e = .returned (.int .i64 (M.appE s b)) ∧ PDisk w' p (M.app s b) (dk.grow F w w') (n + 2) ∧ Chg w w' F := by
  obtain ⟨D, ι, m, h1, h2, h3, h4, h5, h6, h7⟩ := h
  have hu := h3.used_le
  have hup := M.used_pos
  have hsi : D.since.length = M.acts.length := by rw [h2.since, List.length_map]
  have hbb := (h2.bytes h3 s).1
  refine (disk.App_all s X k c b p D F m w h1 hs (h2.near h3 hM) hat hbl hb hX ⟨by rw [h2.used]; exact hup, by rw [h2.used]; omega, by rw [h2.room]; exact h3.fit.1, by rw [h2.room]; exact h3.fit.2⟩ hk (by rw [hbb]; exact (h3.bytes_le s).1) (by omega) (by omega)).mono ?_
  rintro e w' ⟨g1, ⟨f, g2, g3⟩, g4⟩
  obtain ⟨⟨κ, q1, q2⟩, q3⟩ := h2.app h3 hb h4 g2
  rw [h2.appE] at g1
  have hlen : (M.app s b).acts.length ≤ M.acts.length + 1 ∧ (M.app s b).now.length ≤ M.now.length + 1 ∧ (M.app s b).safe.length = M.safe.length := by
    unfold RDisk.app
    split
    · exact ⟨Nat.le_succ _, Nat.le_succ _, rfl⟩
    · split
      · exact ⟨Nat.le_succ _, Nat.le_succ _, rfl⟩
      · exact ⟨by show (M.acts ++ [_]).length ≤ _; rw [List.length_append]; exact Nat.le_refl _, RDisk.lead_now_len _ _, rfl⟩
  exact ⟨g1, ⟨_, κ, _, g3, q1, q3, fun i hi => (q2 i hi).elim (fun q => Nat.lt_of_lt_of_le q g4.size) fun q => g3.has_lt q, by omega, by omega, by omega⟩, g4⟩
theorem PDisk.truncate {s : ByteArray} {x : Int} {p : Nat} {M : RDisk} {F : Nat → Prop} {n : Nat} {w : World} (h : PDisk w p M F n) (hs : s.size ≤ maxLen) (hM : M.small) (hx : -9223372036854775808 ≤ x ∧ x ≤ 9223372036854775807) (hn : n ≤ 50000) :
    Calls Try.prog 32 #[.pointer (some ⟨p, 0, none⟩), .string s, .int .i64 x] w fun e w' => e = .returned (.int .i64 (M.truncE s x)) ∧ PDisk w' p (M.trunc s x) (dk.grow F w w') n ∧ Chg w w' F := by
  obtain ⟨D, ι, m, h1, h2, h3, h4, h5, h6, h7⟩ := h
  have hu := h3.used_le
  have hup := M.used_pos
  have hbb := (h2.bytes h3 s).1
  refine (disk.Trunc_any s x p D F m w h1 hs (h2.near h3 hM) (by rw [hbb]; exact (h3.bytes_le s).1) hx ⟨by rw [h2.used]; exact hup, by rw [h2.used]; omega⟩).mono ?_
  rintro e w' ⟨g1, g3, g4⟩
  obtain ⟨q1, q2, q3⟩ := h2.trunc h3 s x
  rw [h2.truncE h3] at g1
  have hlen : (M.trunc s x).acts.length = M.acts.length ∧ (M.trunc s x).now.length = M.now.length ∧ (M.trunc s x).safe.length = M.safe.length := by
    unfold RDisk.trunc
    split
    · exact ⟨rfl, rfl, rfl⟩
    · split <;> exact ⟨rfl, rfl, rfl⟩
  exact ⟨g1, ⟨_, ι, _, g3, q1, q2, fun i hi => Nat.lt_of_lt_of_le (h4 i (by omega)) g4.size, by omega, by omega, by omega⟩, g4⟩
theorem PDisk.sync {s : ByteArray} {p : Nat} {M : RDisk} {F : Nat → Prop} {n : Nat} {w : World} (h : PDisk w p M F n) (hs : s.size ≤ maxLen) (hM : M.small) :
    Calls Try.prog 23 #[.pointer (some ⟨p, 0, none⟩), .string s] w fun e w' => e = .returned (.int .i64 (M.syncE s)) ∧ PDisk w' p (M.sync s) (dk.grow F w w') n ∧ Chg w w' F := by
  obtain ⟨D, ι, m, h1, h2, h3, h4, h5, h6, h7⟩ := h
  refine (disk.Sync_any s p D F m w h1 hs (h2.near h3 hM)).mono ?_
  rintro e w' ⟨g1, g3, g4⟩
  obtain ⟨q1, q2, q3⟩ := h2.sync h3 s
  rw [h2.syncE] at g1
  have hlen : (M.sync s).acts.length = M.acts.length ∧ (M.sync s).now.length = M.now.length ∧ (M.sync s).safe.length = M.safe.length := by
    unfold RDisk.sync
    split
    · exact ⟨rfl, rfl, rfl⟩
    · split <;> exact ⟨rfl, rfl, rfl⟩
  exact ⟨g1, ⟨_, ι, _, g3, q1, q2, fun i hi => Nat.lt_of_lt_of_le (h4 i (by omega)) g4.size, by omega, by omega, by omega⟩, g4⟩
theorem PDisk.remove {s : ByteArray} {p : Nat} {M : RDisk} {F : Nat → Prop} {n : Nat} {w : World} (h : PDisk w p M F n) (hs : s.size ≤ maxLen) (hM : M.small) (hn : n ≤ 50000) :
    Calls Try.prog 33 #[.pointer (some ⟨p, 0, none⟩), .string s] w fun e w' => e = .returned (.int .i64 (M.remE s)) ∧ PDisk w' p (M.rem s) (dk.grow F w w') (n + 2) ∧ Chg w w' F := by
  obtain ⟨D, ι, m, h1, h2, h3, h4, h5, h6, h7⟩ := h
  have hu := h3.used_le
  have hup := M.used_pos
  have hbb := (h2.bytes h3 s).1
  have hsi : D.since.length = M.acts.length := by rw [h2.since, List.length_map]
  refine (disk.Remove_any s p D F m w h1 hs (h2.near h3 hM) (by rw [hbb]; exact (h3.bytes_le s).1) ⟨by rw [h2.used]; exact hup, by rw [h2.used]; omega⟩ (by omega) (by omega)).mono ?_
  rintro e w' ⟨g1, g3, g4⟩
  obtain ⟨q1, q2, q3⟩ := h2.rem h3 s
  rw [h2.remE] at g1
  have hlen : (M.rem s).acts.length ≤ M.acts.length + 1 ∧ (M.rem s).now.length ≤ M.now.length + 1 ∧ (M.rem s).safe.length = M.safe.length := by
    unfold RDisk.rem
    split
    · exact ⟨Nat.le_succ _, Nat.le_succ _, rfl⟩
    · exact ⟨by show (M.acts ++ [_]).length ≤ _; rw [List.length_append]; exact Nat.le_refl _, RDisk.lead_now_len _ _, rfl⟩
  exact ⟨g1, ⟨_, ι, _, g3, q1, q2, fun i hi => Nat.lt_of_lt_of_le (h4 i (by omega)) g4.size, by omega, by omega, by omega⟩, g4⟩
theorem PDisk.rename {s t : ByteArray} {p : Nat} {M : RDisk} {F : Nat → Prop} {n : Nat} {w : World} (h : PDisk w p M F n) (hs : s.size ≤ maxLen) (ht : t.size ≤ maxLen) (hM : M.small) (hn : n ≤ 50000) :
    Calls Try.prog 30 #[.pointer (some ⟨p, 0, none⟩), .string s, .string t] w fun e w' => e = .returned (.int .i64 (M.renE s t)) ∧ PDisk w' p (M.ren s t) (dk.grow F w w') (n + 2) ∧ Chg w w' F := by
  obtain ⟨D, ι, m, h1, h2, h3, h4, h5, h6, h7⟩ := h
  have hu := h3.used_le
  have hup := M.used_pos
  have hbb := (h2.bytes h3 t).1
  have hsi : D.since.length = M.acts.length := by rw [h2.since, List.length_map]
  refine (disk.Rename_any s t p D F m w h1 hs ht (h2.near h3 hM) (by rw [hbb]; exact (h3.bytes_le t).1) ⟨by rw [h2.used]; exact hup, by rw [h2.used]; omega⟩ (by omega) (by omega)).mono ?_
  rintro e w' ⟨g1, g3, g4⟩
  obtain ⟨q1, q2, q3⟩ := h2.ren h3 s t
  rw [h2.renE] at g1
  have hlen : (M.ren s t).acts.length ≤ M.acts.length + 1 ∧ (M.ren s t).now.length ≤ M.now.length + 1 ∧ (M.ren s t).safe.length = M.safe.length := by
    unfold RDisk.ren
    split
    · exact ⟨Nat.le_succ _, Nat.le_succ _, rfl⟩
    · split
      · exact ⟨by show (M.acts ++ [_]).length ≤ _; rw [List.length_append]; exact Nat.le_refl _, RDisk.lead_now_len _ _, rfl⟩
      · exact ⟨Nat.le_succ _, Nat.le_succ _, rfl⟩
  exact ⟨g1, ⟨_, ι, _, g3, q1, q2, fun i hi => Nat.lt_of_lt_of_le (h4 i (by omega)) g4.size, by omega, by omega, by omega⟩, g4⟩
theorem Sim.fine {D : Dsk} {M : RDisk} {ι : Nat → Nat} (h : Sim D M ι) (hw : M.WF) : dk.fine D.since := fun a ha => by
  rw [h.since] at ha
  obtain ⟨b, hb, rfl⟩ := List.mem_map.1 ha
  obtain ⟨hk, h1, h2, -⟩ := hw.acts b hb
  unfold rd.toD
  rcases hk with hk | hk | hk
  · rw [if_pos hk]
    exact ⟨Nat.zero_le _, dk.ok_le h1, fun _ q => (by cases q)⟩
  · rw [if_neg (by omega), if_pos hk]
    exact ⟨dk.ok_le h1, dk.ok_le (h2 hk), fun _ q => (by cases q)⟩
  · rw [if_neg (by omega), if_neg (by omega)]
    exact ⟨dk.ok_le h1, Nat.zero_le _, fun q => absurd rfl q⟩
theorem PDisk.syncDir {p : Nat} {M : RDisk} {F : Nat → Prop} {n : Nat} {w : World} (h : PDisk w p M F n) (hM : M.small) (hn : n ≤ 50000) :
    Calls Try.prog 24 #[.pointer (some ⟨p, 0, none⟩)] w fun e w' => e = .returned (.int .i64 (M.actE [])) ∧ PDisk w' p M.dir (dk.grow F w w') n ∧ Chg w w' F := by
  obtain ⟨D, ι, m, h1, h2, h3, h4, h5, h6, h7⟩ := h
  have hsi : D.since.length = M.acts.length := by rw [h2.since, List.length_map]
  refine (disk.SyncDir_all p D F m w h1 (h2.near h3 hM) (h2.fine h3) (by omega) (by omega)).mono ?_
  rintro e w' ⟨g1, g3, g4⟩
  obtain ⟨q1, q2, q3⟩ := h2.dir h3
  rw [h2.actE] at g1 g3
  rw [hsi] at g3
  have hlen : (if M.actE [] = 0 then m + M.acts.length else m) + M.dir.acts.length ≤ n ∧ M.dir.now.length + M.dir.acts.length ≤ n ∧ M.dir.safe.length + M.dir.acts.length ≤ n := by
    unfold RDisk.dir
    by_cases e0 : M.actE [] ≠ 0
    · rw [if_pos e0, if_neg e0]
      exact ⟨h5, h6, h7⟩
    · rw [if_neg e0, if_pos (by simpa using e0)]
      refine ⟨h5, ?_, ?_⟩
      · show M.now.length + 0 ≤ n
        omega
      · show M.now.length + 0 ≤ n
        omega
  exact ⟨g1, ⟨_, ι, _, g3, q1, q2, fun i hi => Nat.lt_of_lt_of_le (h4 i (by omega)) g4.size, hlen⟩, g4⟩
theorem PDisk.cut {x : Int} {p : Nat} {M : RDisk} {F : Nat → Prop} {n : Nat} {w : World} (h : PDisk w p M F n) (hx : -9223372036854775808 ≤ x ∧ x ≤ 9223372036854775807) :
    Calls Try.prog 25 #[.pointer (some ⟨p, 0, none⟩), .int .i64 x] w fun e w' => e = .returned (.tuple #[]) ∧ PDisk w' p (M.cutAt x) F n ∧ Chg w w' F := by
  obtain ⟨D, ι, m, h1, h2, h3, h4, h5⟩ := h
  have hp := h1.up.2.1
  refine (disk.Cut_any x p D F m w h1 hx).mono ?_
  rintro e w' ⟨g1, g3, g4⟩
  obtain ⟨q1, q2, q3⟩ := h2.cutAt h3 hx.2
  exact ⟨g1, ⟨_, ι, m, g3, q1, q2, fun i hi => Nat.lt_of_lt_of_le (h4 i (by omega)) g4.size, h5⟩, g4.mono fun k _ e => by rw [e]; exact hp⟩
theorem PDisk.crash {A : Option Addr} {k c : Nat} {ps : List Int} {p : Nat} {M : RDisk} {F : Nat → Prop} {n : Nat} {w : World} (h : PDisk w p M F n) (hP : dk.Picks w A k c ps) (hn : n ≤ 50000) :
    Calls Try.prog 20 #[.pointer (some ⟨p, 0, none⟩), .slice A k c] w fun e w' => ∃ q, e = .returned (.pointer (some ⟨q, 0, none⟩)) ∧ PDisk w' q (M.crash ps) (dk.fresh w w') n ∧ Below w.heap.size w w' := by
  obtain ⟨D, ι, m, h1, h2, h3, h4, h5, h6, h7⟩ := h
  have hsi : D.since.length = M.acts.length := by rw [h2.since, List.length_map]
  have hshort : D.short := fun f hf => by
    have hall : ∃ i, i < M.files.length ∧ f = ι i := by
      rcases hf with ⟨s, hs⟩ | ⟨s, hs⟩ | ⟨a, ha, hs⟩
      · rw [h2.now] at hs
        cases hi : rd.look M.now s with
        | none => rw [hi] at hs; cases hs
        | some i => rw [hi] at hs; exact ⟨i, h3.lt hi, by simpa using hs.symm⟩
      · rw [h2.safe] at hs
        cases hi : rd.look M.safe s with
        | none => rw [hi] at hs; cases hs
        | some i => rw [hi] at hs; exact ⟨i, (h3.goods _ (rd.look_mem hi)).1, by simpa using hs.symm⟩
      · rw [h2.since] at ha
        obtain ⟨b, hb, rfl⟩ := List.mem_map.1 ha
        obtain ⟨hk, -, -, h4⟩ := h3.acts b hb
        unfold rd.toD at hs
        rcases hk with hk | hk | hk
        · rw [if_pos hk] at hs; exact ⟨b.f, h4 (by omega), by simpa using hs.symm⟩
        · rw [if_neg (by omega), if_pos hk] at hs; exact ⟨b.f, h4 (by omega), by simpa using hs.symm⟩
        · rw [if_neg (by omega), if_neg (by omega)] at hs; cases hs
    obtain ⟨i, hi, rfl⟩ := hall
    rw [h2.file i hi]
    have := h3.short _ (RDisk.file_mem hi)
    exact ⟨this.1, this.2.1⟩
  refine (disk.Crash_any A k c ps p D F m w h1 hP (h2.fine h3) (by omega) (by omega) hshort).mono ?_
  rintro e w' ⟨q, ks, D', g1, g2, g3, g4, g5, g6⟩
  have hwf := RDisk.crash_wf h2 h3 g2 g3 g4
  obtain ⟨⟨κ, c1, c2⟩, c3, c4, -, -, -, -, -⟩ := h2.crash h3 g2 g3 g4
  have hkl : (M.keptN ps).length ≤ n := by
    have h1 : (M.keptN ps).length ≤ M.safe.length + (M.acts.take (dk.pick ps (M.acts.length : Int)).1.toNat).length := rd.all_len
    rw [List.length_take] at h1
    omega
  have hnl : (M.crash ps).now.length ≤ n := by
    rw [c4, List.length_zipIdx, List.length_map]
    exact hkl
  exact ⟨q, g1, ⟨D', κ, _, g5, c1, hwf, fun i hi => g5.has_lt (c2 i hi), by show ks.length + 0 ≤ n; omega, by show (M.crash ps).now.length + 0 ≤ n; omega, by show (M.crash ps).now.length + 0 ≤ n; omega⟩, g6⟩
theorem PDisk.size {s : ByteArray} {p : Nat} {M : RDisk} {F : Nat → Prop} {n : Nat} {w : World} (h : PDisk w p M F n) (hs : s.size ≤ maxLen) :
    Calls Try.prog 19 #[.pointer (some ⟨p, 0, none⟩), .string s] w fun e w' => e = .returned (.int .i64 (M.size s)) ∧ Below w.heap.size w w' ∧ w'.heap.size = w.heap.size := by
  obtain ⟨D, ι, m, h1, h2, h3, -⟩ := h
  have := disk.Size_any s p D F m w h1 hs
  rw [(h2.bytes h3 s).2.2] at this
  exact this
theorem PDisk.read {s : ByteArray} {p : Nat} {M : RDisk} {F : Nat → Prop} {n : Nat} {w : World} (h : PDisk w p M F n) (hs : s.size ≤ maxLen) :
    Calls Try.prog 16 #[.pointer (some ⟨p, 0, none⟩), .string s] w fun e w' => ∃ v, e = .returned (.tuple #[v, .int .i64 (M.readE s)]) ∧ w'.ownsRow w.heap.size 5 1 v (M.bytes s).length (u8s (M.bytes s)) ∧ Below w.heap.size w w' := by
  obtain ⟨D, ι, m, h1, h2, h3, -⟩ := h
  have hb := h2.bytes h3 s
  have := disk.Read_any s p D F m w h1 hs (by rw [hb.1]; have := (h3.bytes_le s).1; omega)
  rw [hb.1, hb.2.1] at this
  exact this
theorem PDisk.used {p : Nat} {M : RDisk} {F : Nat → Prop} {n : Nat} {w : World} (h : PDisk w p M F n) : Calls Try.prog 27 #[.pointer (some ⟨p, 0, none⟩)] w fun e w' => e = .returned (.int .i64 M.used) ∧ w = w' := by
  obtain ⟨D, ι, m, h1, h2, h3, -⟩ := h
  have := disk.Used_any p D F m w h1
  rw [h2.used] at this
  exact this
theorem PDisk.ops {p : Nat} {M : RDisk} {F : Nat → Prop} {n : Nat} {w : World} (h : PDisk w p M F n) : Calls Try.prog 28 #[.pointer (some ⟨p, 0, none⟩)] w fun e w' => e = .returned (.int .i64 M.ops) ∧ w = w' := by
  obtain ⟨D, ι, m, h1, h2, h3, -⟩ := h
  have := disk.Ops_any p D F m w h1
  rw [h2.ops] at this
  exact this
end
end Go.Proofs.Ythffkbcjidbdaaa

/- A disk as it lies in memory: names that lead to files, acts since names were safe, bytes. -/
import Derived.Deep.Cut
import Derived.BigQuiet
import Derived.Deep.QuietTactic
import Derived.Test.YthffkbcjidbdaaaMapG
import Derived.Test.YthffkbcjidbdaaaConv
import Derived.Test.YthffkbcjidbdaaaSmR
namespace Go.Proofs.Ythffkbcjidbdaaa
open Go.RowKit Go.Maps
set_option maxRecDepth 20000

/-- A file: its bytes, and how many are safe. -/
structure FileV where
  data : List Nat
  safe : Nat
/-- A names' act: what stood under fr stands there no more, f stands under to; an empty name is none. -/
structure DAct where
  fr : ByteArray
  to : ByteArray
  f : Option Nat
def dk.no : ByteArray := ByteArray.mk #[]
abbrev DNames := ByteArray → Option Nat
def dk.put (l : DNames) (s : ByteArray) (f : Option Nat) : DNames := fun u => if u = s then f else l u
/-- An act done on names. -/
def DAct.on (a : DAct) (l : DNames) : DNames :=
  let l1 := if a.fr = dk.no then l else dk.put l a.fr Option.none
  if a.to = dk.no then l1 else dk.put l1 a.to a.f
structure Dsk where
  room : Int
  used : Int
  ops : Int
  off : Bool
  cut : Bool
  left : Int
  now : DNames
  safe : DNames
  since : List DAct
  file : Nat → FileV
def dk.ptr (f : Nat) : Value := .pointer (some ⟨f, 0, Option.none⟩)
def dk.opt (f : Option Nat) : Value := .pointer (f.map fun b => ⟨b, 0, Option.none⟩)
def DAct.cells (a : DAct) : List Value := [.string a.fr, .string a.to, dk.opt a.f]
def dk.row (l : List DAct) : List Value := (l.map DAct.cells).flatten
theorem dk.row_len (l : List DAct) : (dk.row l).length = l.length * 3 := by
  induction l with
  | nil => rfl
  | cons a l ih =>
    unfold dk.row at ih ⊢
    rw [List.map_cons, List.flatten_cons, List.length_append, ih, List.length_cons]
    show 3 + l.length * 3 = (l.length + 1) * 3
    omega
theorem dk.row_snoc (l : List DAct) (a : DAct) : dk.row (l ++ [a]) = dk.row l ++ a.cells := by unfold dk.row; simp
/-- A file that names, or acts, lead to. -/
def Dsk.Has (D : Dsk) (f : Nat) : Prop := (∃ s, D.now s = some f) ∨ (∃ s, D.safe s = some f) ∨ ∃ a ∈ D.since, a.f = some f
/-- A file as it lies in memory. -/
def FileAt (w : World) (f : Nat) (v : FileV) (dv : Value) : Prop :=
  Blk w f 86 #[dv, .int .i64 (v.safe : Int)] ∧ w.ownsRow 0 5 1 dv v.data.length (u8s v.data) ∧ ∀ x ∈ v.data, x < 256
theorem FileAt.chg {w w' : World} {f : Nat} {v : FileV} {dv : Value} {P : Nat → Prop} (h : FileAt w f v dv) (hc : Chg w w' P) (h1 : ¬ P f) (h2 : ∀ k, dv.ownBlock = some k → ¬ P k) : FileAt w' f v dv :=
  ⟨hc.blk h.1 h1, hc.own h.2.1 h2, h.2.2⟩
/-- Names as they lie in memory. -/
def NamesAt (w : World) (b : Nat) (l : DNames) (m : Nat) : Prop := ∃ N, N ≤ m ∧ GM strKey w b N (fun s => (l s).map dk.ptr)
theorem NamesAt.chg {w w' : World} {b m : Nat} {l : DNames} {P : Nat → Prop} (h : NamesAt w b l m) (hc : Chg w w' P) (hp : ¬ P b) : NamesAt w' b l m := by
  obtain ⟨N, h1, h2⟩ := h
  exact ⟨N, h1, h2.chg hc hp⟩
theorem NamesAt.lt {w : World} {b m : Nat} {l : DNames} (h : NamesAt w b l m) : b < w.heap.size := by
  obtain ⟨N, -, h⟩ := h
  exact h.lt
/-- What a disk is in memory: p its struct, F its blocks, m no fewer than its names, S its files (and files that are to be). -/
structure DskAt (w : World) (p : Nat) (D : Dsk) (F : Nat → Prop) (m : Nat) (S : Nat → Prop) (bn bs : Nat) (sv : Value) (dat : Nat → Value) : Prop where
  blk : Blk w p 83 #[.int .i64 D.room, .int .i64 D.used, .int .i64 D.ops, .bool D.off, .bool D.cut, .int .i64 D.left, .map (some bn), .map (some bs), sv]
  ne : bn ≠ bs
  now : NamesAt w bn D.now m
  safe : NamesAt w bs D.safe m
  row : w.ownsRow 0 96 3 sv D.since.length (dk.row D.since)
  has : ∀ f, D.Has f → S f
  file : ∀ f, S f → FileAt w f (D.file f) (dat f)
  apart : ∀ f g k, S f → S g → f ≠ g → (dat f).ownBlock = some k → (dat g).ownBlock ≠ some k
  foot : F p ∧ F bn ∧ F bs ∧ (∀ k, sv.ownBlock = some k → F k) ∧ ∀ f, S f → F f ∧ ∀ k, (dat f).ownBlock = some k → F k
  lt : ∀ k, F k → k < w.heap.size
/-- A disk: where its parts lie is nobody's. -/
def DskIn (w : World) (p : Nat) (D : Dsk) (F : Nat → Prop) (m : Nat) : Prop := ∃ S bn bs sv dat, DskAt w p D F m S bn bs sv dat
theorem DskAt.keep {w w' : World} {p : Nat} {D : Dsk} {F P S : Nat → Prop} {m bn bs : Nat} {sv : Value} {dat : Nat → Value} (h : DskAt w p D F m S bn bs sv dat) (hc : Chg w w' P) (hp : ∀ k, F k → ¬ P k) : DskAt w' p D F m S bn bs sv dat := by
  obtain ⟨f1, f2, f3, f4, f5⟩ := h.foot
  exact ⟨hc.blk h.blk (hp _ f1), h.ne, h.now.chg hc (hp _ f2), h.safe.chg hc (hp _ f3), hc.own h.row fun k hk => hp _ (f4 k hk), h.has, fun f hf => (h.file f hf).chg hc (hp _ (f5 f hf).1) fun k hk => hp _ ((f5 f hf).2 k hk), h.apart, h.foot, fun k hk => Nat.lt_of_lt_of_le (h.lt k hk) hc.size⟩
/-- Where none of its blocks is turned, a disk is as it was. -/
theorem DskIn.keep {w w' : World} {p : Nat} {D : Dsk} {F P : Nat → Prop} {m : Nat} (h : DskIn w p D F m) (hc : Chg w w' P) (hp : ∀ k, F k → ¬ P k) : DskIn w' p D F m := by
  obtain ⟨S, bn, bs, sv, dat, h⟩ := h
  exact ⟨S, bn, bs, sv, dat, h.keep hc hp⟩
theorem DskIn.below {w w' : World} {p : Nat} {D : Dsk} {F : Nat → Prop} {m : Nat} (h : DskIn w p D F m) (hb : Below w.heap.size w w') : DskIn w' p D F m := h.keep (chg_of (P := fun _ => False) hb) fun _ _ q => q
/-- The blocks of a disk behind a call: its own, and new ones. -/
def dk.grow (F : Nat → Prop) (w w' : World) : Nat → Prop := fun k => (F k ∨ w.heap.size ≤ k) ∧ k < w'.heap.size

/-- An act done on a map of names: its map's words. -/
noncomputable def dk.gon (a : DAct) (g : ByteArray → Option Value) : ByteArray → Option Value :=
  let g1 := if a.fr = dk.no then g else gdel g a.fr
  if a.to = dk.no then g1 else gput g1 a.to (dk.opt a.f)
theorem dk.on_gon {a : DAct} {l : DNames} (hf : a.to ≠ dk.no → a.f ≠ Option.none) : (fun s => (a.on l s).map dk.ptr) = dk.gon a (fun s => (l s).map dk.ptr) := by
  funext s
  unfold DAct.on dk.gon
  have h1 : ∀ u, (((if a.fr = dk.no then l else dk.put l a.fr Option.none) u).map dk.ptr) = (if a.fr = dk.no then (fun s => (l s).map dk.ptr) else gdel (fun s => (l s).map dk.ptr) a.fr) u := fun u => by
    by_cases h : a.fr = dk.no
    · rw [if_pos h, if_pos h]
    · rw [if_neg h, if_neg h]
      unfold dk.put gdel
      by_cases e : u = a.fr
      · rw [if_pos e, if_pos e]; rfl
      · rw [if_neg e, if_neg e]
  by_cases h : a.to = dk.no
  · rw [if_pos h, if_pos h]
    exact h1 s
  · rw [if_neg h, if_neg h]
    unfold dk.put gput
    by_cases e : s = a.to
    · rw [if_pos e, if_pos e]
      obtain ⟨b, hb⟩ := Option.ne_none_iff_exists'.1 (hf h)
      rw [hb]
      rfl
    · rw [if_neg e, if_neg e]
      exact h1 s

set_option maxHeartbeats 2000000 in
/-- An act's do, on a map of names. -/
theorem act.do_any (a : DAct) (b N : Nat) (g : ByteArray → Option Value) (w : World) (h : GM strKey w b N g) (h1 : a.fr.size ≤ maxLen) (h2 : a.to.size ≤ maxLen) (hN : N + 1 < maxLen) :
    Calls Try.prog 49 #[.agg #[.string a.fr, .string a.to, dk.opt a.f], .map (some b)] w fun e w' => e = .returned (.tuple #[]) ∧ (∃ N', N' ≤ N + 1 ∧ GM strKey w' b N' (dk.gon a g)) ∧ Chg w w' (fun k => k = b) := by
  have hmap := Try.underlying80
  obtain ⟨fr, to, f⟩ := a
  dsimp only at h1 h2
  obtain ⟨z, hz⟩ : ∃ z, z = w.heap.size := ⟨_, rfl⟩
  obtain ⟨w1, hw1⟩ : ∃ w1, w1 = w.alloc (.cells #[.string fr, .string to, dk.opt f] 96) := ⟨_, rfl⟩
  have hk1 : Blk w1 z 96 #[.string fr, .string to, dk.opt f] := by rw [hw1, hz]; exact Blk.new _ _ _
  have hb1 : Below w.heap.size w w1 := by rw [hw1]; exact (Below.refl _ _).alloc (Nat.le_refl _) _
  have hg1 := h.below hb1 h.lt
  have H1 := Lib.hid (And.intro hk1 (And.intro hb1 hg1)); clear hk1 hb1 hg1
  have HW := Lib.hid (And.intro hw1 hz); clear hw1 hz
  have hzb : z ≠ b := H1.out.2.2.not_blk H1.out.1
  have hzw := H1.out.1.lt
  have c0 := H1.out.1.cell 0 (v := .string fr) rfl
  have c1 := H1.out.1.cell 1 (v := .string to) rfl
  have c2 := H1.out.1.cell 2 (v := dk.opt f) rfl
  have hpost : ∀ (wx : World) (N' : Nat) (g' : ByteArray → Option Value), N' ≤ N + 1 → GM strKey wx b N' g' → g' = dk.gon ⟨fr, to, f⟩ g → Chg w1 wx (fun k => k = b) → (∃ N', N' ≤ N + 1 ∧ GM strKey wx b N' (dk.gon ⟨fr, to, f⟩ g)) ∧ Chg w wx (fun k => k = b) := fun wx N' g' e1 e2 e3 e4 =>
    ⟨⟨N', e1, by rw [← e3]; exact e2⟩, (chg_of (P := fun k => k = b) H1.out.2.1).trans e4 fun _ _ q => q⟩
  have HPOST := Lib.hid hpost; clear hpost
  go_enter Try.func49, Try.ntmps49
  go_upto_region 1 with fail
  rw [← HW.out.1, ← HW.out.2]
  have hnl : dk.no.toList = [] := by rw [ByteArray.toList_eq]; rfl
  have hem : ∀ t : ByteArray, t = dk.no → t.toList.isEmpty = true := fun t h => by rw [h, hnl]; rfl
  have hne : ∀ t : ByteArray, t ≠ dk.no → t.toList.isEmpty = false := fun t h => by
    cases hh : t.toList.isEmpty with
    | false => rfl
    | true =>
      have h2 : t.toList = dk.no.toList := by rw [List.isEmpty_iff.1 hh, hnl]
      rw [ByteArray.toList_eq, ByteArray.toList_eq] at h2
      exact absurd (ByteArray.ext (Array.ext' h2)) h
  have HGON := Lib.hid (show dk.gon ⟨fr, to, f⟩ g = if to = dk.no then (if fr = dk.no then g else gdel g fr) else gput (if fr = dk.no then g else gdel g fr) to (dk.opt f) from rfl)
  by_cases e1 : fr = dk.no
  · have i1 := hem fr e1
    have hg0 := HGON.out
    rw [if_pos e1] at hg0
    have HE1 := Lib.hid e1; clear e1
    by_cases e2 : to = dk.no
    · have i2 := hem to e2
      rw [if_pos e2] at hg0
      have HE2 := Lib.hid (And.intro e2 hg0); clear e2 hg0 hem hne
      go_wp2_with fail
      go_end0
      exact ⟨rfl, HPOST.out w1 N g (by omega) H1.out.2.2 HE2.out.2.symm (Chg.refl _ _)⟩
    · have i2 := hne to e2
      rw [if_neg e2] at hg0
      obtain ⟨w2, hrun, hg2, hc2, -⟩ := H1.out.2.2.store hmap to h2 (dk.opt f) (by omega)
      have hrun' : (Instr.mapUpdate 80 (.map (some b)) (.string to) (dk.opt f)).run Try.prog w1 = .ok () w2 := hrun
      have hN' : (if (g to).isSome then N else N + 1) ≤ N + 1 := by split <;> omega
      have HE2 := Lib.hid (And.intro hg0 (And.intro hg2 (And.intro hc2 hN'))); clear e2 hg0 hem hne hrun hg2 hc2 hN'
      go_wp2_with fail
      go_end0
      exact ⟨rfl, HPOST.out w2 _ _ HE2.out.2.2.2 HE2.out.2.1 HE2.out.1.symm HE2.out.2.2.1⟩
  · have i1 := hne fr e1
    have hg0 := HGON.out
    rw [if_neg e1] at hg0
    have HE1 := Lib.hid e1; clear e1
    obtain ⟨w2, hrun, hg2, hc2, -⟩ := H1.out.2.2.drop hmap fr h1 0
    have hrun' : (Builtin.delete_ #[80, 9] 0 #[.map (some b), .string fr]).run Try.prog w1 = .ok (.tuple #[]) w2 := hrun
    have hk2 := hc2.blk H1.out.1 hzb
    have d1 := hk2.cell 1 (v := .string to) rfl
    have d2 := hk2.cell 2 (v := dk.opt f) rfl
    have hzw2 := hk2.lt
    obtain ⟨N2, hN2, hN2'⟩ : ∃ N2, N2 = (if (g fr).isSome then N - 1 else N) ∧ N2 ≤ N := ⟨_, rfl, by split <;> omega⟩
    rw [← hN2] at hg2
    clear hN2 hrun
    by_cases e2 : to = dk.no
    · have i2 := hem to e2
      rw [if_pos e2] at hg0
      have HE2 := Lib.hid (And.intro hg0 (And.intro hg2 hc2)); clear e2 hg0 hem hne hg2 hc2 hk2
      go_wp2_with fail
      go_end0
      exact ⟨rfl, HPOST.out w2 _ _ (by omega) HE2.out.2.1 HE2.out.1.symm HE2.out.2.2⟩
    · have i2 := hne to e2
      rw [if_neg e2] at hg0
      obtain ⟨w3, hrun3, hg3, hc3, -⟩ := hg2.store hmap to h2 (dk.opt f) (by omega)
      have hrun3' : (Instr.mapUpdate 80 (.map (some b)) (.string to) (dk.opt f)).run Try.prog w2 = .ok () w3 := hrun3
      have hN' : (if (gdel g fr to).isSome then N2 else N2 + 1) ≤ N + 1 := by split <;> omega
      have HE2 := Lib.hid (And.intro hg0 (And.intro hg3 (And.intro (hc2.trans hc3 fun _ _ q => q) hN'))); clear e2 hg0 hem hne hrun3 hg3 hc3 hN' hg2 hc2 hk2
      go_wp2_with fail
      go_end0
      exact ⟨rfl, HPOST.out w3 _ _ HE2.out.2.2.2 HE2.out.2.1 HE2.out.1.symm HE2.out.2.2.1⟩
end Go.Proofs.Ythffkbcjidbdaaa

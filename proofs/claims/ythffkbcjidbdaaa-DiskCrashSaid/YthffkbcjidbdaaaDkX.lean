/- The program's disk as it lies; come, lead, files. -/
import Derived.Deep.Cut
import Derived.BigQuiet
import Derived.Deep.QuietTactic
import Derived.Test.YthffkbcjidbdaaaMapG
import Derived.Test.YthffkbcjidbdaaaConv
import Derived.Test.YthffkbcjidbdaaaSmR
import Derived.Test.YthffkbcjidbdaaaPlanZ
import Derived.Test.YthffkbcjidbdaaaEch
import Derived.Maps.AppendAt
namespace Go.Proofs.Ythffkbcjidbdaaa
section
open Go.RowKit Go.Maps
set_option maxRecDepth 20000

/-- A file: its bytes, and how many are safe. -/
structure FileV where
  data : List Nat
  safe : Nat
/-- A names' act: what stood under fr stands there no more, f stands under to; an empty name is none. -/
structure DAct where
  fr : ByteArray
  to : ByteArray
  f : Option Nat
def dk.no : ByteArray := ByteArray.mk #[]
abbrev DNames := ByteArray → Option Nat
def dk.put (l : DNames) (s : ByteArray) (f : Option Nat) : DNames := fun u => if u = s then f else l u
/-- An act done on names. -/
def DAct.on (a : DAct) (l : DNames) : DNames :=
  let l1 := if a.fr = dk.no then l else dk.put l a.fr Option.none
  if a.to = dk.no then l1 else dk.put l1 a.to a.f
structure Dsk where
  room : Int
  used : Int
  ops : Int
  off : Bool
  cut : Bool
  left : Int
  now : DNames
  safe : DNames
  since : List DAct
  file : Nat → FileV
def dk.ptr (f : Nat) : Value := .pointer (some ⟨f, 0, Option.none⟩)
def dk.opt (f : Option Nat) : Value := .pointer (f.map fun b => ⟨b, 0, Option.none⟩)
def DAct.cells (a : DAct) : List Value := [.string a.fr, .string a.to, dk.opt a.f]
def dk.row (l : List DAct) : List Value := (l.map DAct.cells).flatten
theorem dk.row_len (l : List DAct) : (dk.row l).length = l.length * 3 := by
  induction l with
  | nil => rfl
  | cons a l ih =>
    unfold dk.row at ih ⊢
    rw [List.map_cons, List.flatten_cons, List.length_append, ih, List.length_cons]
    show 3 + l.length * 3 = (l.length + 1) * 3
    omega
theorem dk.row_snoc (l : List DAct) (a : DAct) : dk.row (l ++ [a]) = dk.row l ++ a.cells := by unfold dk.row; simp
/-- A file that names, or acts, lead to. -/
def Dsk.Has (D : Dsk) (f : Nat) : Prop := (∃ s, D.now s = some f) ∨ (∃ s, D.safe s = some f) ∨ ∃ a ∈ D.since, a.f = some f
/-- A file as it lies in memory. -/
def FileAt (w : World) (f : Nat) (v : FileV) (dv : Value) : Prop :=
  Blk w f 86 #[dv, .int .i64 (v.safe : Int)] ∧ w.ownsRow 0 5 1 dv v.data.length (u8s v.data) ∧ ∀ x ∈ v.data, x < 256
theorem FileAt.chg {w w' : World} {f : Nat} {v : FileV} {dv : Value} {P : Nat → Prop} (h : FileAt w f v dv) (hc : Chg w w' P) (h1 : ¬ P f) (h2 : ∀ k, dv.ownBlock = some k → ¬ P k) : FileAt w' f v dv :=
  ⟨hc.blk h.1 h1, hc.own h.2.1 h2, h.2.2⟩
/-- Names as they lie in memory. -/
def NamesAt (w : World) (b : Nat) (l : DNames) (m : Nat) : Prop := ∃ N, N ≤ m ∧ GM strKey w b N (fun s => (l s).map dk.ptr)
theorem NamesAt.chg {w w' : World} {b m : Nat} {l : DNames} {P : Nat → Prop} (h : NamesAt w b l m) (hc : Chg w w' P) (hp : ¬ P b) : NamesAt w' b l m := by
  obtain ⟨N, h1, h2⟩ := h
  exact ⟨N, h1, h2.chg hc hp⟩
theorem NamesAt.lt {w : World} {b m : Nat} {l : DNames} (h : NamesAt w b l m) : b < w.heap.size := by
  obtain ⟨N, -, h⟩ := h
  exact h.lt
/-- What a disk is in memory: p its struct, F its blocks, m no fewer than its names, S its files (and files that are to be). -/
structure DskAt (w : World) (p : Nat) (D : Dsk) (F : Nat → Prop) (m : Nat) (S : Nat → Prop) (bn bs : Nat) (sv : Value) (dat : Nat → Value) : Prop where
  blk : Blk w p 83 #[.int .i64 D.room, .int .i64 D.used, .int .i64 D.ops, .bool D.off, .bool D.cut, .int .i64 D.left, .map (some bn), .map (some bs), sv]
  ne : bn ≠ bs
  now : NamesAt w bn D.now m
  safe : NamesAt w bs D.safe m
  row : w.ownsRow 0 96 3 sv D.since.length (dk.row D.since)
  has : ∀ f, D.Has f → S f
  file : ∀ f, S f → FileAt w f (D.file f) (dat f)
  apart : ∀ f g k, S f → S g → f ≠ g → (dat f).ownBlock = some k → (dat g).ownBlock ≠ some k
  foot : F p ∧ F bn ∧ F bs ∧ (∀ k, sv.ownBlock = some k → F k) ∧ ∀ f, S f → F f ∧ ∀ k, (dat f).ownBlock = some k → F k
  lt : ∀ k, F k → k < w.heap.size
/-- A disk: where its parts lie is nobody's. -/
def DskIn (w : World) (p : Nat) (D : Dsk) (F : Nat → Prop) (m : Nat) : Prop := ∃ S bn bs sv dat, DskAt w p D F m S bn bs sv dat
theorem DskAt.keep {w w' : World} {p : Nat} {D : Dsk} {F P S : Nat → Prop} {m bn bs : Nat} {sv : Value} {dat : Nat → Value} (h : DskAt w p D F m S bn bs sv dat) (hc : Chg w w' P) (hp : ∀ k, F k → ¬ P k) : DskAt w' p D F m S bn bs sv dat := by
  obtain ⟨f1, f2, f3, f4, f5⟩ := h.foot
  exact ⟨hc.blk h.blk (hp _ f1), h.ne, h.now.chg hc (hp _ f2), h.safe.chg hc (hp _ f3), hc.own h.row fun k hk => hp _ (f4 k hk), h.has, fun f hf => (h.file f hf).chg hc (hp _ (f5 f hf).1) fun k hk => hp _ ((f5 f hf).2 k hk), h.apart, h.foot, fun k hk => Nat.lt_of_lt_of_le (h.lt k hk) hc.size⟩
/-- Where none of its blocks is turned, a disk is as it was. -/
theorem DskIn.keep {w w' : World} {p : Nat} {D : Dsk} {F P : Nat → Prop} {m : Nat} (h : DskIn w p D F m) (hc : Chg w w' P) (hp : ∀ k, F k → ¬ P k) : DskIn w' p D F m := by
  obtain ⟨S, bn, bs, sv, dat, h⟩ := h
  exact ⟨S, bn, bs, sv, dat, h.keep hc hp⟩
theorem DskIn.below {w w' : World} {p : Nat} {D : Dsk} {F : Nat → Prop} {m : Nat} (h : DskIn w p D F m) (hb : Below w.heap.size w w') : DskIn w' p D F m := h.keep (chg_of (P := fun _ => False) hb) fun _ _ q => q
/-- The blocks of a disk behind a call: its own, and new ones. -/
def dk.grow (F : Nat → Prop) (w w' : World) : Nat → Prop := fun k => (F k ∨ w.heap.size ≤ k) ∧ k < w'.heap.size

/-- An act done on a map of names: its map's words. -/
noncomputable def dk.gon (a : DAct) (g : ByteArray → Option Value) : ByteArray → Option Value :=
  let g1 := if a.fr = dk.no then g else gdel g a.fr
  if a.to = dk.no then g1 else gput g1 a.to (dk.opt a.f)
theorem dk.on_gon {a : DAct} {l : DNames} (hf : a.to ≠ dk.no → a.f ≠ Option.none) : (fun s => (a.on l s).map dk.ptr) = dk.gon a (fun s => (l s).map dk.ptr) := by
  funext s
  unfold DAct.on dk.gon
  have h1 : ∀ u, (((if a.fr = dk.no then l else dk.put l a.fr Option.none) u).map dk.ptr) = (if a.fr = dk.no then (fun s => (l s).map dk.ptr) else gdel (fun s => (l s).map dk.ptr) a.fr) u := fun u => by
    by_cases h : a.fr = dk.no
    · rw [if_pos h, if_pos h]
    · rw [if_neg h, if_neg h]
      unfold dk.put gdel
      by_cases e : u = a.fr
      · rw [if_pos e, if_pos e]; rfl
      · rw [if_neg e, if_neg e]
  by_cases h : a.to = dk.no
  · rw [if_pos h, if_pos h]
    exact h1 s
  · rw [if_neg h, if_neg h]
    unfold dk.put gput
    by_cases e : s = a.to
    · rw [if_pos e, if_pos e]
      obtain ⟨b, hb⟩ := Option.ne_none_iff_exists'.1 (hf h)
      rw [hb]
      rfl
    · rw [if_neg e, if_neg e]
      exact h1 s

set_option maxHeartbeats 2000000 in
/-- An act's do, on a map of names. -/
theorem act.do_any (a : DAct) (b N : Nat) (g : ByteArray → Option Value) (w : World) (h : GM strKey w b N g) (h1 : a.fr.size ≤ maxLen) (h2 : a.to.size ≤ maxLen) (hN : N + 1 < maxLen) :
    Calls Try.prog 49 #[.agg #[.string a.fr, .string a.to, dk.opt a.f], .map (some b)] w fun e w' => e = .returned (.tuple #[]) ∧ (∃ N', N' ≤ N + 1 ∧ GM strKey w' b N' (dk.gon a g)) ∧ Chg w w' (fun k => k = b) := by
  have hmap := Try.underlying80
  obtain ⟨fr, to, f⟩ := a
  dsimp only at h1 h2
  obtain ⟨z, hz⟩ : ∃ z, z = w.heap.size := ⟨_, rfl⟩
  obtain ⟨w1, hw1⟩ : ∃ w1, w1 = w.alloc (.cells #[.string fr, .string to, dk.opt f] 96) := ⟨_, rfl⟩
  have hk1 : Blk w1 z 96 #[.string fr, .string to, dk.opt f] := by rw [hw1, hz]; exact Blk.new _ _ _
  have hb1 : Below w.heap.size w w1 := by rw [hw1]; exact (Below.refl _ _).alloc (Nat.le_refl _) _
  have hg1 := h.below hb1 h.lt
  have H1 := Lib.hid (And.intro hk1 (And.intro hb1 hg1)); clear hk1 hb1 hg1
  have HW := Lib.hid (And.intro hw1 hz); clear hw1 hz
  have hzb : z ≠ b := H1.out.2.2.not_blk H1.out.1
  have hzw := H1.out.1.lt
  have c0 := H1.out.1.cell 0 (v := .string fr) rfl
  have c1 := H1.out.1.cell 1 (v := .string to) rfl
  have c2 := H1.out.1.cell 2 (v := dk.opt f) rfl
  have hpost : ∀ (wx : World) (N' : Nat) (g' : ByteArray → Option Value), N' ≤ N + 1 → GM strKey wx b N' g' → g' = dk.gon ⟨fr, to, f⟩ g → Chg w1 wx (fun k => k = b) → (∃ N', N' ≤ N + 1 ∧ GM strKey wx b N' (dk.gon ⟨fr, to, f⟩ g)) ∧ Chg w wx (fun k => k = b) := fun wx N' g' e1 e2 e3 e4 =>
    ⟨⟨N', e1, by rw [← e3]; exact e2⟩, (chg_of (P := fun k => k = b) H1.out.2.1).trans e4 fun _ _ q => q⟩
  have HPOST := Lib.hid hpost; clear hpost
  go_enter Try.func49, Try.ntmps49
  go_upto_region 1 with fail
  rw [← HW.out.1, ← HW.out.2]
  have hnl : dk.no.toList = [] := by rw [ByteArray.toList_eq]; rfl
  have hem : ∀ t : ByteArray, t = dk.no → t.toList.isEmpty = true := fun t h => by rw [h, hnl]; rfl
  have hne : ∀ t : ByteArray, t ≠ dk.no → t.toList.isEmpty = false := fun t h => by
    cases hh : t.toList.isEmpty with
    | false => rfl
    | true =>
      have h2 : t.toList = dk.no.toList := by rw [List.isEmpty_iff.1 hh, hnl]
      rw [ByteArray.toList_eq, ByteArray.toList_eq] at h2
      exact absurd (ByteArray.ext (Array.ext' h2)) h
  have HGON := Lib.hid (show dk.gon ⟨fr, to, f⟩ g = if to = dk.no then (if fr = dk.no then g else gdel g fr) else gput (if fr = dk.no then g else gdel g fr) to (dk.opt f) from rfl)
  by_cases e1 : fr = dk.no
  · have i1 := hem fr e1
    have hg0 := HGON.out
    rw [if_pos e1] at hg0
    have HE1 := Lib.hid e1; clear e1
    by_cases e2 : to = dk.no
    · have i2 := hem to e2
      rw [if_pos e2] at hg0
      have HE2 := Lib.hid (And.intro e2 hg0); clear e2 hg0 hem hne
      go_wp2_with fail
      go_end0
      exact ⟨rfl, HPOST.out w1 N g (by omega) H1.out.2.2 HE2.out.2.symm (Chg.refl _ _)⟩
    · have i2 := hne to e2
      rw [if_neg e2] at hg0
      obtain ⟨w2, hrun, hg2, hc2, -⟩ := H1.out.2.2.store hmap to h2 (dk.opt f) (by omega)
      have hrun' : (Instr.mapUpdate 80 (.map (some b)) (.string to) (dk.opt f)).run Try.prog w1 = .ok () w2 := hrun
      have hN' : (if (g to).isSome then N else N + 1) ≤ N + 1 := by split <;> omega
      have HE2 := Lib.hid (And.intro hg0 (And.intro hg2 (And.intro hc2 hN'))); clear e2 hg0 hem hne hrun hg2 hc2 hN'
      go_wp2_with fail
      go_end0
      exact ⟨rfl, HPOST.out w2 _ _ HE2.out.2.2.2 HE2.out.2.1 HE2.out.1.symm HE2.out.2.2.1⟩
  · have i1 := hne fr e1
    have hg0 := HGON.out
    rw [if_neg e1] at hg0
    have HE1 := Lib.hid e1; clear e1
    obtain ⟨w2, hrun, hg2, hc2, -⟩ := H1.out.2.2.drop hmap fr h1 0
    have hrun' : (Builtin.delete_ #[80, 9] 0 #[.map (some b), .string fr]).run Try.prog w1 = .ok (.tuple #[]) w2 := hrun
    have hk2 := hc2.blk H1.out.1 hzb
    have d1 := hk2.cell 1 (v := .string to) rfl
    have d2 := hk2.cell 2 (v := dk.opt f) rfl
    have hzw2 := hk2.lt
    obtain ⟨N2, hN2, hN2'⟩ : ∃ N2, N2 = (if (g fr).isSome then N - 1 else N) ∧ N2 ≤ N := ⟨_, rfl, by split <;> omega⟩
    rw [← hN2] at hg2
    clear hN2 hrun
    by_cases e2 : to = dk.no
    · have i2 := hem to e2
      rw [if_pos e2] at hg0
      have HE2 := Lib.hid (And.intro hg0 (And.intro hg2 hc2)); clear e2 hg0 hem hne hg2 hc2 hk2
      go_wp2_with fail
      go_end0
      exact ⟨rfl, HPOST.out w2 _ _ (by omega) HE2.out.2.1 HE2.out.1.symm HE2.out.2.2⟩
    · have i2 := hne to e2
      rw [if_neg e2] at hg0
      obtain ⟨w3, hrun3, hg3, hc3, -⟩ := hg2.store hmap to h2 (dk.opt f) (by omega)
      have hrun3' : (Instr.mapUpdate 80 (.map (some b)) (.string to) (dk.opt f)).run Try.prog w2 = .ok () w3 := hrun3
      have hN' : (if (gdel g fr to).isSome then N2 else N2 + 1) ≤ N + 1 := by split <;> omega
      have HE2 := Lib.hid (And.intro hg0 (And.intro hg3 (And.intro (hc2.trans hc3 fun _ _ q => q) hN'))); clear e2 hg0 hem hne hrun3 hg3 hc3 hN' hg2 hc2 hk2
      go_wp2_with fail
      go_end0
      exact ⟨rfl, HPOST.out w3 _ _ HE2.out.2.2.2 HE2.out.2.1 HE2.out.1.symm HE2.out.2.2.1⟩
end
section
open Go.RowKit Go.Maps
set_option maxRecDepth 100000

def dk.okName (s : ByteArray) : Bool := decide (1 ≤ s.size ∧ s.size ≤ 100)
/-- Is the power off, when the next act comes? -/
def Dsk.dies (D : Dsk) : Bool := D.off || (D.cut && decide (D.left = 0))
/-- What come answers. -/
def Dsk.comeE (D : Dsk) (L : List ByteArray) : Int := if D.dies = true then 7 else if L.all dk.okName = true then 0 else 1
/-- What come leaves. -/
def Dsk.come (D : Dsk) : Dsk := { D with ops := D.ops + 1, off := D.dies, left := if D.dies = true then D.left else if D.cut = true then D.left - 1 else D.left }
def dk.cells (D : Dsk) (mn ms sv : Value) : Array Value := #[.int .i64 D.room, .int .i64 D.used, .int .i64 D.ops, .bool D.off, .bool D.cut, .int .i64 D.left, mn, ms, sv]
theorem disk.come_nil (A : Option Addr) (n c : Nat) (w : World) : Calls Try.prog 54 #[.pointer none, .slice A n c] w fun e w' => e = .returned (.int .i64 7) ∧ w = w' := by
  go_enter Try.func54, Try.ntmps54
  go_wp2_with fail
  go_ret
  exact ⟨rfl, rfl⟩
set_option maxHeartbeats 4000000 in
theorem disk.come_any (p : Nat) (D : Dsk) (mn ms sv : Value) (A : Option Addr) (n c : Nat) (L : List ByteArray) (w : World) (hb : Blk w p 83 (dk.cells D mn ms sv)) (hat : At w A n (fun j => .string (L.getD j dk.no))) (hne : ∀ b off, A = some ⟨b, off, none⟩ → b ≠ p) (hl : L.length = n) (hn : n ≤ 1000)
    (hops : -4611686018427387904 ≤ D.ops ∧ D.ops ≤ 4611686018427387904) (hleft : D.cut = true → 0 ≤ D.left ∧ D.left ≤ 9223372036854775807) (hsz : ∀ s ∈ L, s.size ≤ maxLen) :
    Calls Try.prog 54 #[.pointer (some ⟨p, 0, none⟩), .slice A n c] w fun e w' => e = .returned (.int .i64 (D.comeE L)) ∧ Blk w' p 83 (dk.cells D.come mn ms sv) ∧ Chg w w' (fun k => k = p) ∧ w'.heap.size = w.heap.size := by
  obtain ⟨room, used, ops, off, cut, left, now, safe, since, file⟩ := D
  unfold dk.cells at hb ⊢
  unfold Dsk.comeE Dsk.come
  dsimp only at hops hleft hb ⊢
  have hdies : (⟨room, used, ops, off, cut, left, now, safe, since, file⟩ : Dsk).dies = (off || (cut && decide (left = 0))) := rfl
  rw [hdies]
  clear hdies
  obtain ⟨d, hd⟩ : ∃ d : Bool, d = (off || (cut && decide (left = 0))) := ⟨_, rfl⟩
  rw [← hd]
  obtain ⟨E, hE⟩ : ∃ E : Int, E = (if d = true then 7 else if L.all dk.okName = true then 0 else 1) := ⟨_, rfl⟩
  rw [← hE]
  obtain ⟨lf, hlf⟩ : ∃ lf : Int, lf = (if d = true then left else if cut = true then left - 1 else left) := ⟨_, rfl⟩
  rw [← hlf]
  have HE := Lib.hid (And.intro hd (And.intro hE hlf)); clear hd hE hlf
  have k2 := hb.cell 2 rfl
  have k3 := hb.cell 3 rfl
  have k4 := hb.cell 4 rfl
  have k5 := hb.cell 5 rfl
  have z2 := hb.frozen 2
  have hpl := hb.lt
  obtain ⟨w1, hw1⟩ : ∃ w1, w1 = w.setCell ⟨p, 2, none⟩ (.int .i64 (ops + 1)) := ⟨_, rfl⟩
  have hb1 : Blk w1 p 83 #[.int .i64 room, .int .i64 used, .int .i64 (ops + 1), .bool off, .bool cut, .int .i64 left, mn, ms, sv] := by rw [hw1]; exact hb.set 2 _
  have hc1 : Chg w w1 (fun k => k = p) := by rw [hw1]; exact Chg.setCell _ _ _ _
  have hs1 : w1.heap.size = w.heap.size := by rw [hw1]; simp
  have HB := Lib.hid (And.intro hb1 (And.intro hc1 hs1)); clear hb1 hc1 hs1 hb
  have HAT := Lib.hid (And.intro hat (And.intro hne (And.intro hl hsz))); clear hat hne hl hsz
  go_enter Try.func54, Try.ntmps54
  go_upto_region 4 with fail
  rw [← hw1]
  clear hw1 k2 k3 k4 k5 z2
  have k2 := HB.out.1.cell 2 (v := .int .i64 (ops + 1)) rfl
  have k3 := HB.out.1.cell 3 (v := .bool off) rfl
  have k4 := HB.out.1.cell 4 (v := .bool cut) rfl
  have k5 := HB.out.1.cell 5 (v := .int .i64 left) rfl
  have hpl1 := HB.out.1.lt
  have z3 := HB.out.1.frozen 3
  have z5 := HB.out.1.frozen 5
  have hcases : (cut = true ∧ left = 0) ∨ (¬ (cut = true ∧ left = 0) ∧ off = true) ∨ (cut = true ∧ ¬ left = 0 ∧ off = false) ∨ (cut = false ∧ off = false) := by
    cases off <;> cases cut <;> by_cases h : left = 0 <;> simp [h]
  rcases hcases with ⟨rfl, rfl⟩ | ⟨h1, rfl⟩ | ⟨rfl, h1, rfl⟩ | ⟨rfl, rfl⟩
  · have hd : d = true := by rw [HE.out.1]; simp
    have HF := Lib.hid (show d = true ∧ E = 7 ∧ lf = 0 from ⟨hd, by rw [HE.out.2.1, if_pos hd], by rw [HE.out.2.2, if_pos hd]⟩); clear hd HE
    obtain ⟨w2, hw2⟩ : ∃ w2, w2 = w1.setCell ⟨p, 3, none⟩ (.bool true) := ⟨_, rfl⟩
    have hb2 : Blk w2 p 83 #[.int .i64 room, .int .i64 used, .int .i64 (ops + 1), .bool true, .bool true, .int .i64 0, mn, ms, sv] := by rw [hw2]; exact HB.out.1.set 3 _
    have hc2 : Chg w1 w2 (fun k => k = p) := by rw [hw2]; exact Chg.setCell _ _ _ _
    have hs2 : w2.heap.size = w1.heap.size := by rw [hw2]; simp
    have HB2 := Lib.hid (And.intro hb2 (And.intro (HB.out.2.1.trans hc2 fun _ _ q => q) (hs2.trans HB.out.2.2))); clear hb2 hc2 hs2
    go_upto_region 6 with fail
    rw [← hw2]
    clear hw2 k2 k3 k4 k5 z3 z5
    have k3 := HB2.out.1.cell 3 (v := .bool true) rfl
    have hpl2 := HB2.out.1.lt
    go_wp2_with fail
    go_ret
    exact ⟨by rw [HF.out.2.1]; rfl, by rw [HF.out.1, HF.out.2.2]; exact HB2.out.1, HB2.out.2⟩
  · have hd : d = true := HE.out.1
    have HF := Lib.hid (show d = true ∧ E = 7 ∧ lf = left from ⟨hd, by rw [HE.out.2.1, if_pos hd], by rw [HE.out.2.2, if_pos hd]⟩); clear hd HE
    have hd : (cut = false) ∨ (cut = true ∧ ¬ left = 0) := by
      cases cut with
      | false => exact .inl rfl
      | true => exact .inr ⟨rfl, fun h => h1 ⟨rfl, h⟩⟩
    clear h1
    rcases hd with rfl | ⟨rfl, h1⟩
    · go_wp2_with fail
      go_ret
      exact ⟨by rw [HF.out.2.1]; rfl, by rw [HF.out.1, HF.out.2.2]; exact HB.out.1, HB.out.2⟩
    · have h2 : decide (left = 0) = false := decide_eq_false h1
      have h3 : (left == 0) = false := by simpa using h1
      clear h1
      go_wp2_with fail
      go_ret
      exact ⟨by rw [HF.out.2.1]; rfl, by rw [HF.out.1, HF.out.2.2]; exact HB.out.1, HB.out.2⟩
  · have hd : d = false := by rw [HE.out.1, decide_eq_false h1]; rfl
    have HF := Lib.hid (show d = false ∧ E = (if L.all dk.okName = true then 0 else 1) ∧ lf = left - 1 from ⟨hd, by rw [HE.out.2.1, if_neg (by rw [hd]; simp)], by rw [HE.out.2.2, if_neg (by rw [hd]; simp), if_pos rfl]⟩); clear hd HE
    have h2 : decide (left = 0) = false := decide_eq_false h1
    have h3 : (left == 0) = false := by simpa using h1
    have hl0 := hleft rfl
    clear h1
    obtain ⟨w2, hw2⟩ : ∃ w2, w2 = w1.setCell ⟨p, 5, none⟩ (.int .i64 (left - 1)) := ⟨_, rfl⟩
    have hb2 : Blk w2 p 83 #[.int .i64 room, .int .i64 used, .int .i64 (ops + 1), .bool false, .bool true, .int .i64 (left - 1), mn, ms, sv] := by rw [hw2]; exact HB.out.1.set 5 _
    have hc2 : Chg w1 w2 (fun k => k = p) := by rw [hw2]; exact Chg.setCell _ _ _ _
    have hs2 : w2.heap.size = w1.heap.size := by rw [hw2]; simp
    have HB2 := Lib.hid (And.intro hb2 (And.intro (HB.out.2.1.trans hc2 fun _ _ q => q) (hs2.trans HB.out.2.2))); clear hb2 hc2 hs2
    go_upto_region 10 with fail
    rw [← hw2]
    clear hw2 k2 k3 k4 k5 z3 z5
    have hbl : Blk w2 p 83 #[.int .i64 room, .int .i64 used, .int .i64 (ops + 1), .bool d, .bool true, .int .i64 lf, mn, ms, sv] := by rw [HF.out.1, HF.out.2.2]; exact HB2.out.1
    have HB3 := Lib.hid (And.intro HF.out.2.1 (And.intro hbl HB2.out.2)); clear hbl HB HB2 HF
    have hat2 : At w2 A n (fun j => .string (L.getD j dk.no)) := HB3.out.2.2.1.at' HAT.out.1 fun h0 b off e => HAT.out.2.1 b off e
    have HA2 := Lib.hid (And.intro hat2 (And.intro HAT.out.2.2.1 HAT.out.2.2.2)); clear hat2 HAT
    go_wp2_with fail
    go_loop [47] (fun i => ∃ k : Nat, k ≤ n ∧ i = .int .i64 (k : Int) ∧ ∀ s ∈ L.take k, dk.okName s = true) (fun i => n - (intOf i).toNat)
    case atStart => exact ⟨0, by omega, rfl, by simp⟩
    case round =>
      obtain ⟨k, hk, rfl, hok⟩ := hrel
      have HOK := Lib.hid hok; clear hok
      by_cases hlt : k < n
      · have hlt' : (k : Int) < (n : Int) := by omega
        obtain ⟨s, hs⟩ : ∃ s, L[k]? = some s := ⟨_, List.getElem?_eq_getElem (by rw [HA2.out.2.1]; exact hlt)⟩
        obtain ⟨b2, o2, rfl, hb2, hc⟩ := HA2.out.1 (by omega)
        have q0 : w2.cell? ⟨b2, o2 + k, none⟩ = some (.string s) := (hc k hlt).trans (by dsimp only; rw [List.getD_eq_getElem?_getD, hs]; rfl)
        have hss := HA2.out.2.2 s (List.mem_of_getElem? hs)
        unfold maxLen at hss
        obtain ⟨m, hm⟩ : ∃ m, m = s.size := ⟨_, rfl⟩
        have hmm : m ≤ 9223372036854775807 := by omega
        have hstep : 1 ≤ m → m ≤ 100 → ∀ t ∈ L.take (k + 1), dk.okName t = true := fun g1 g2 t ht => by
          obtain ⟨h1, h2⟩ := List.getElem?_eq_some_iff.1 hs
          rw [List.take_succ_eq_append_getElem h1, h2] at ht
          rcases List.mem_append.1 ht with ht | ht
          · exact HOK.out t ht
          · rw [List.mem_singleton.1 ht]
            unfold dk.okName
            rw [decide_eq_true_eq]
            omega
        have hbad : ¬ (1 ≤ m ∧ m ≤ 100) → E = 1 := fun g => by
          rw [HB3.out.1, if_neg]
          intro ha
          have h1 := List.all_eq_true.1 ha s (List.mem_of_getElem? hs)
          unfold dk.okName at h1
          rw [decide_eq_true_eq] at h1
          omega
        have HST := Lib.hid (And.intro hstep hbad); clear hstep hbad hs hc hss
        have HM := Lib.hid hm
        have hsz' : s.size = m := hm.symm
        clear hm
        by_cases h1 : (m : Int) < 1
        · have he := HST.out.2 (by omega)
          have HEE := Lib.hid he; clear he
          go_wp2_with fail
          (try rw [Exit.noGoto_ret])
          go_ret
          exact ⟨by rw [HEE.out]; rfl, HB3.out.2⟩
        by_cases h2 : (100 : Int) < (m : Int)
        · have he := HST.out.2 (by omega)
          have HEE := Lib.hid he; clear he
          go_wp2_with fail
          (try rw [Exit.noGoto_ret])
          go_ret
          exact ⟨by rw [HEE.out]; rfl, HB3.out.2⟩
        have HSN := Lib.hid (HST.out.1 (by omega) (by omega)); clear HST
        go_wp2_with fail
        go_round
        case rel => exact ⟨k + 1, by omega, by go_num, HSN.out⟩
        case measure => simp [intOf]; omega
      · obtain rfl : k = n := by omega
        have he : E = 0 := by
          rw [HB3.out.1, if_pos]
          refine List.all_eq_true.2 fun t ht => HOK.out t ?_
          rw [List.take_of_length_le (by rw [HA2.out.2.1]; exact Nat.le_refl _)]
          exact ht
        have HEE := Lib.hid he; clear he
        go_wp2_with fail
        go_ret
        exact ⟨by rw [HEE.out]; rfl, HB3.out.2⟩
  · have hd : d = false := HE.out.1
    have HF := Lib.hid (show d = false ∧ E = (if L.all dk.okName = true then 0 else 1) ∧ lf = left from ⟨hd, by rw [HE.out.2.1, if_neg (by rw [hd]; simp)], by rw [HE.out.2.2, if_neg (by rw [hd]; simp), if_neg (by simp)]⟩); clear hd HE
    go_upto_region 10 with fail
    clear k2 k3 k4 k5 z3 z5
    obtain ⟨w2, hw2⟩ : ∃ w2, w2 = w1 := ⟨_, rfl⟩
    rw [← hw2] at HB ⊢
    clear hw2
    have hbl : Blk w2 p 83 #[.int .i64 room, .int .i64 used, .int .i64 (ops + 1), .bool d, .bool false, .int .i64 lf, mn, ms, sv] := by rw [HF.out.1, HF.out.2.2]; exact HB.out.1
    have HB3 := Lib.hid (And.intro HF.out.2.1 (And.intro hbl HB.out.2)); clear hbl HB HF
    have hat2 : At w2 A n (fun j => .string (L.getD j dk.no)) := HB3.out.2.2.1.at' HAT.out.1 fun h0 b off e => HAT.out.2.1 b off e
    have HA2 := Lib.hid (And.intro hat2 (And.intro HAT.out.2.2.1 HAT.out.2.2.2)); clear hat2 HAT
    go_wp2_with fail
    go_loop [47] (fun i => ∃ k : Nat, k ≤ n ∧ i = .int .i64 (k : Int) ∧ ∀ s ∈ L.take k, dk.okName s = true) (fun i => n - (intOf i).toNat)
    case atStart => exact ⟨0, by omega, rfl, by simp⟩
    case round =>
      obtain ⟨k, hk, rfl, hok⟩ := hrel
      have HOK := Lib.hid hok; clear hok
      by_cases hlt : k < n
      · have hlt' : (k : Int) < (n : Int) := by omega
        obtain ⟨s, hs⟩ : ∃ s, L[k]? = some s := ⟨_, List.getElem?_eq_getElem (by rw [HA2.out.2.1]; exact hlt)⟩
        obtain ⟨b2, o2, rfl, hb2, hc⟩ := HA2.out.1 (by omega)
        have q0 : w2.cell? ⟨b2, o2 + k, none⟩ = some (.string s) := (hc k hlt).trans (by dsimp only; rw [List.getD_eq_getElem?_getD, hs]; rfl)
        have hss := HA2.out.2.2 s (List.mem_of_getElem? hs)
        unfold maxLen at hss
        obtain ⟨m, hm⟩ : ∃ m, m = s.size := ⟨_, rfl⟩
        have hmm : m ≤ 9223372036854775807 := by omega
        have hstep : 1 ≤ m → m ≤ 100 → ∀ t ∈ L.take (k + 1), dk.okName t = true := fun g1 g2 t ht => by
          obtain ⟨h1, h2⟩ := List.getElem?_eq_some_iff.1 hs
          rw [List.take_succ_eq_append_getElem h1, h2] at ht
          rcases List.mem_append.1 ht with ht | ht
          · exact HOK.out t ht
          · rw [List.mem_singleton.1 ht]
            unfold dk.okName
            rw [decide_eq_true_eq]
            omega
        have hbad : ¬ (1 ≤ m ∧ m ≤ 100) → E = 1 := fun g => by
          rw [HB3.out.1, if_neg]
          intro ha
          have h1 := List.all_eq_true.1 ha s (List.mem_of_getElem? hs)
          unfold dk.okName at h1
          rw [decide_eq_true_eq] at h1
          omega
        have HST := Lib.hid (And.intro hstep hbad); clear hstep hbad hs hc hss
        have HM := Lib.hid hm
        have hsz' : s.size = m := hm.symm
        clear hm
        by_cases h1 : (m : Int) < 1
        · have he := HST.out.2 (by omega)
          have HEE := Lib.hid he; clear he
          go_wp2_with fail
          (try rw [Exit.noGoto_ret])
          go_ret
          exact ⟨by rw [HEE.out]; rfl, HB3.out.2⟩
        by_cases h2 : (100 : Int) < (m : Int)
        · have he := HST.out.2 (by omega)
          have HEE := Lib.hid he; clear he
          go_wp2_with fail
          (try rw [Exit.noGoto_ret])
          go_ret
          exact ⟨by rw [HEE.out]; rfl, HB3.out.2⟩
        have HSN := Lib.hid (HST.out.1 (by omega) (by omega)); clear HST
        go_wp2_with fail
        go_round
        case rel => exact ⟨k + 1, by omega, by go_num, HSN.out⟩
        case measure => simp [intOf]; omega
      · obtain rfl : k = n := by omega
        have he : E = 0 := by
          rw [HB3.out.1, if_pos]
          refine List.all_eq_true.2 fun t ht => HOK.out t ?_
          rw [List.take_of_length_le (by rw [HA2.out.2.1]; exact Nat.le_refl _)]
          exact ht
        have HEE := Lib.hid he; clear he
        go_wp2_with fail
        go_ret
        exact ⟨by rw [HEE.out]; rfl, HB3.out.2⟩
end
section
open Go.RowKit Go.Maps
set_option maxRecDepth 100000

theorem dk.infoAct : (Try.prog.info? 96).map (fun i => (i.zero, i.size, i.bytes)) = some (some (.agg #[.string (ByteArray.mk #[]), .string (ByteArray.mk #[]), .pointer none]), 3, 40) := by kernel_rfl
def Dsk.lead (D : Dsk) (a : DAct) : Dsk := { D with now := a.on D.now, since := D.since ++ [a] }
theorem dk.lead_has {D : Dsk} {a : DAct} {S : Nat → Prop} (h : ∀ f, D.Has f → S f) (ha : ∀ f, a.f = some f → S f) : ∀ f, (D.lead a).Has f → S f := fun f hf => by
  rcases hf with ⟨s, hs⟩ | ⟨s, hs⟩ | ⟨b, hb, e⟩
  · have hs : a.on D.now s = some f := hs
    have h1 : ∀ u, (if a.fr = dk.no then D.now else dk.put D.now a.fr none) u = some f → S f := fun u hu => by
      by_cases e : a.fr = dk.no
      · rw [if_pos e] at hu
        exact h f (.inl ⟨u, hu⟩)
      · rw [if_neg e] at hu
        unfold dk.put at hu
        split at hu
        · cases hu
        · exact h f (.inl ⟨u, hu⟩)
    unfold DAct.on at hs
    by_cases e : a.to = dk.no
    · rw [if_pos e] at hs
      exact h1 s hs
    · rw [if_neg e] at hs
      have hs' : (if s = a.to then a.f else (if a.fr = dk.no then D.now else dk.put D.now a.fr none) s) = some f := hs
      split at hs'
      · exact ha f hs'
      · exact h1 s hs'
  · exact h f (.inr (.inl ⟨s, hs⟩))
  · rcases List.mem_append.1 hb with hb | hb
    · exact h f (.inr (.inr ⟨b, hb, e⟩))
    · rw [List.mem_singleton.1 hb] at e
      exact ha f e

theorem dk.row_map {w : World} {base size n : Nat} {e : TypeId} {v : Value} {xs : List Value} {b N : Nat} {g : ByteArray → Option Value} (hr : w.ownsRow base e size v n xs) (hg : GM strKey w b N g) : v.ownBlock ≠ some b := fun e => by
  rcases hr.2 with ⟨rfl, _⟩ | ⟨q, cap, cur, rfl, _, hq, _⟩
  · cases e
  · obtain rfl : q = b := by simpa [Value.ownBlock] using e
    obtain ⟨D, ⟨es, clock, h1, _⟩, _⟩ := hg
    have := h1.symm.trans hq
    simp at this
theorem dk.blk_ne {w : World} {p q : Nat} {T U : TypeId} {cs ds : Array Value} (h : Blk w p T cs) (g : Blk w q U ds) (hne : T ≠ U) : p ≠ q := fun e => by
  subst e
  have h1 := (show w.heap[p]? = _ from h).symm.trans (show w.heap[p]? = _ from g)
  simp at h1
  exact hne h1.2
/-- What a turn of the names, of the acts' row and of the struct leaves of the files. -/
theorem DskAt.files {w w' : World} {p : Nat} {D : Dsk} {F S P : Nat → Prop} {m bn bs : Nat} {sv : Value} {dat : Nat → Value} (h : DskAt w p D F m S bn bs sv dat) (hc : Chg w w' P) (hp : ∀ k, P k → k = bn ∨ k = bs ∨ k = p ∨ sv.ownBlock = some k ∨ w.heap.size ≤ k) : ∀ f, S f → FileAt w' f (D.file f) (dat f) := fun f hf => by
  have hfile := h.file f hf
  obtain ⟨N, -, hn⟩ := h.now
  obtain ⟨M, -, hs⟩ := h.safe
  refine hfile.chg hc (fun hh => ?_) fun k hk hh => ?_
  · rcases hp f hh with e | e | e | e | e
    · exact hn.not_blk hfile.1 e
    · exact hs.not_blk hfile.1 e
    · exact dk.blk_ne hfile.1 h.blk (by decide) e
    · exact hfile.1.not_row (by decide) h.row e
    · have := hfile.1.lt; omega
  · rcases hp k hh with rfl | rfl | rfl | e | e
    · exact dk.row_map hfile.2.1 hn hk
    · exact dk.row_map hfile.2.1 hs hk
    · exact h.blk.not_row (by decide) hfile.2.1 hk
    · exact rows_apart hfile.2.1 h.row (by decide) hk e
    · have := (hfile.2.1.lt k hk).2; omega
set_option maxHeartbeats 4000000 in
theorem disk.lead_any (a : DAct) (p : Nat) (D : Dsk) (F S : Nat → Prop) (m bn bs : Nat) (sv : Value) (dat : Nat → Value) (w : World) (h : DskAt w p D F m S bn bs sv dat) (h1 : a.fr.size ≤ maxLen) (h2 : a.to.size ≤ maxLen) (hf : a.to ≠ dk.no → a.f ≠ none) (hS : ∀ f, a.f = some f → S f) (hm : m ≤ 1000000) (hsi : D.since.length ≤ 1000000) :
    Calls Try.prog 55 #[.pointer (some ⟨p, 0, none⟩), .agg #[.string a.fr, .string a.to, dk.opt a.f]] w fun e w' => e = .returned (.tuple #[]) ∧ (∃ sv', DskAt w' p (D.lead a) (dk.grow F w w') (m + 1) S bn bs sv' dat) ∧ Chg w w' F := by
  obtain ⟨i0, hi, hz0, hz1', hz2⟩ := info_parts dk.infoAct
  have HI := Lib.hid (And.intro hi (And.intro hz0 (And.intro hz1' hz2))); clear hi hz0 hz1' hz2
  have hmn := eql_map_nil Try.underlying80 (some bn)
  simp only [Option.isNone_some] at hmn
  obtain ⟨z, hz⟩ : ∃ z, z = w.heap.size := ⟨_, rfl⟩
  obtain ⟨w1, hw1⟩ : ∃ w1, w1 = w.alloc (.cells #[.string a.fr, .string a.to, dk.opt a.f] 96) := ⟨_, rfl⟩
  have hk1 : Blk w1 z 96 #[.string a.fr, .string a.to, dk.opt a.f] := by rw [hw1, hz]; exact Blk.new _ _ _
  have hb1 : Below w.heap.size w w1 := by rw [hw1]; exact (Below.refl _ _).alloc (Nat.le_refl _) _
  have hd1 := h.keep (chg_of (P := fun _ => False) hb1) fun _ _ q => q
  obtain ⟨f1, f2, f3, f4, f5⟩ := h.foot
  have hpl := h.lt p f1
  have hpn : p ≠ bn := by
    obtain ⟨N, -, hg⟩ := h.now
    exact hg.not_blk h.blk
  have hps : p ≠ bs := by
    obtain ⟨N, -, hg⟩ := h.safe
    exact hg.not_blk h.blk
  obtain ⟨N, hN, hg⟩ := hd1.now
  have hdo := fun (wx : World) (hx : GM strKey wx bn N (fun s => (D.now s).map dk.ptr)) => act.do_any a bn N _ wx hx h1 h2 (by unfold maxLen; omega)
  rw [← dk.on_gon hf] at hdo
  have H1 := Lib.hid (And.intro hk1 (And.intro hb1 (And.intro hd1 hg))); clear hk1 hb1 hd1 hg
  have HW := Lib.hid (And.intro hw1 hz)
  have hz' : z = w.heap.size := hz
  clear hw1 hz
  have HDO := Lib.hid hdo; clear hdo
  have hzw := H1.out.1.lt
  have hzp : z ≠ p := by omega
  have hzb : z ≠ bn := by have := h.lt bn f2; omega
  go_enter Try.func55, Try.ntmps55
  go_upto_region 1 with fail
  rw [← HW.out.1, ← HW.out.2]
  have hpl1 := H1.out.2.2.1.blk.lt
  have k6 := H1.out.2.2.1.blk.cell 6 (v := .map (some bn)) rfl
  have HZ := Lib.hid hz'; clear hz'
  go_upto_region 3 with fail
  have l0 : ∀ y : Later w1 (fun k => k = bn), y.1.cell? ⟨z, 0, none⟩ = some (.string a.fr) := fun y => (y.2.blk H1.out.1 hzb).cell 0 rfl
  have l1 : ∀ y : Later w1 (fun k => k = bn), y.1.cell? ⟨z, 1, none⟩ = some (.string a.to) := fun y => (y.2.blk H1.out.1 hzb).cell 1 rfl
  have l2 : ∀ y : Later w1 (fun k => k = bn), y.1.cell? ⟨z, 2, none⟩ = some (dk.opt a.f) := fun y => (y.2.blk H1.out.1 hzb).cell 2 rfl
  have k6' : w1.drew.cell? ⟨p, 6, none⟩ = some (.map (some bn)) := k6
  have hS0 : later w1 (fun k => k = bn) w1.drew := later_of ((Chg.refl _ _).drew)
  refine wp_plan (S := fun w0 => ∃ x : Later w1 (fun k => k = bn), w0 = x.1) (by kernel_rfl) hS0 ?_
  intro hS' K5 hK5
  have HS := Lib.hid hS'; clear hS' hS0
  refine plan_group [true, true, true, true] [0, 1, 2, 3] 2 (by dsimp only [sel]) (by rfl) rfl (by kernel_rfl) (by kernel_rfl) HS.out ?_
  (repeat go_big_quiet_step (fail)); refine wpQuiet_nil ?_
  refine plan_one [false, false, false, false, true] 4 1 (by dsimp only [sel]) (by rfl) rfl (by kernel_rfl) ?_; intro K1 hK1; go_wp2_with fail
  refine ⟨later_of ((Chg.refl _ _).drew), ?_⟩
  refine plan_one [false, false, false, false, false, true] 5 0 (by dsimp only [sel]) (by rfl) rfl (by kernel_rfl) ?_; intro K1 hK1; go_wp2_with fail
  refine (HDO.out w1.drew (H1.out.2.2.2.drew 1)).mono ?_
  rintro e w2 ⟨rfl, ⟨N2, hN2, hg2⟩, hc2⟩
  have hc12 : Chg w1 w2 (fun k => k = bn) := ((Chg.refl w1 (fun k => k = bn)).drew).trans hc2 fun _ _ q => q
  have HC2 := Lib.hid (And.intro hc12 (And.intro hg2 (show N2 ≤ m + 1 by omega))); clear hc12 hg2 hc2 hN2
  go_wp2_with fail
  refine ⟨later_of HC2.out.1, ?_⟩
  refine wp_plan_end (by kernel_rfl) ?_
  clear l0 l1 l2 k6 k6'
  have hbp := HC2.out.1.blk H1.out.2.2.1.blk hpn
  have hbz := HC2.out.1.blk H1.out.1 hzb
  have hrow := HC2.out.1.own H1.out.2.2.1.row fun k hk e => dk.row_map H1.out.2.2.1.row H1.out.2.2.2 (by rw [hk, e])
  have hnp : sv.ownBlock ≠ some p := hbp.not_row (by decide) hrow
  have hnz : sv.ownBlock ≠ some z := fun e => by have := h.lt z (f4 z e); have := HZ.out; omega
  have hsvl : sv.ownBlock ≠ some w2.heap.size := fun e => by have := (hrow.lt _ e).2; omega
  obtain ⟨Asv, csv, rfl, -⟩ := own_at hrow
  have HP2 := Lib.hid (And.intro hbp (And.intro hbz hrow)); clear hbp hbz hrow
  have m0 : w2.drew.cell? ⟨z, 0, none⟩ = some (.string a.fr) := HP2.out.2.1.cell 0 rfl
  have m1 : w2.drew.cell? ⟨z, 1, none⟩ = some (.string a.to) := HP2.out.2.1.cell 1 rfl
  have m2 : w2.drew.cell? ⟨z, 2, none⟩ = some (dk.opt a.f) := HP2.out.2.1.cell 2 rfl
  have hzw2 := HP2.out.2.1.lt
  have hpw2 := HP2.out.1.lt
  generalize hnn : D.since.length = nn at *
  have q8 : ∀ y : Later w2 (fun k => (Value.slice Asv nn csv).ownBlock = some k), y.1.cell? ⟨p, 8, none⟩ = some (.slice Asv nn csv) := fun y => (y.2.blk HP2.out.1 hnp).cell 8 rfl
  go_wp2_with fail
  have hS0 : later w2 (fun k => (Value.slice Asv nn csv).ownBlock = some k) w2.drew := later_of ((Chg.refl _ _).drew)
  refine wp_planz 10 (S := fun w0 => ∃ x : Later w2 (fun k => (Value.slice Asv nn csv).ownBlock = some k), w0 = x.1) (by kernel_rfl) hS0 ?_
  intro hS' K5 hK5
  have HSS := Lib.hid hS'; clear hS' hS0
  refine planz_group [true, true, true, true, true] [0, 1, 2, 3, 4] 6 (by dsimp only [sel]) (by rfl) rfl (by kernel_rfl) (by kernel_rfl) (by kernel_rfl) HSS.out ?_
  (repeat go_big_quiet_step (fail)); refine wpQuiet_nil ?_
  refine planz_one [false, false, false, false, false, true] 5 5 (by dsimp only [sel]) (by rfl) rfl (by kernel_rfl) ?_; intro K1 hK1; go_wp2_with fail
  refine ⟨fun _ => HSS.out, ?_⟩
  refine planz_one [false, false, false, false, false, false, true] 6 4 (by dsimp only [sel]) (by rfl) rfl (by kernel_rfl) ?_; intro K1 hK1; go_wp2_with fail
  refine ⟨fun _ => later_of ((Chg.alloc w2 _ _).drew), ?_⟩
  have hown3 : (w2.alloc (.cells #[.string a.fr, .string a.to, dk.opt a.f] 96)).drew.ownsRow 0 96 3 (.slice Asv nn csv) nn (dk.row D.since) := HP2.out.2.2.alloc _
  have HO3 := Lib.hid hown3; clear hown3
  have hcel := cells_new w2 [.string a.fr, .string a.to, dk.opt a.f] 96 w2.heap.size rfl
  have HCEL := Lib.hid hcel; clear hcel
  have hone : ∀ x ∈ ([.string a.fr, .string a.to, dk.opt a.f] : List Value), x.oneCell' = true := fun x hx => by
    simp only [List.mem_cons, List.not_mem_nil, or_false] at hx
    rcases hx with rfl | rfl | rfl <;> rfl
  refine planz_one [false, false, false, false, false, false, false, true] 7 3 (by dsimp only [sel]) (by rfl) rfl (by kernel_rfl) ?_; intro K1 hK1
  go_wp2_with (at_builtin; go_loud (refine wpList_append_own_at _ rfl (.tmp 23) (.tmp 25) 81 rfl 0 96 i0 _ 3 40 Try.underlying81 HI.out.1 HI.out.2.1 HI.out.2.2.1 HI.out.2.2.2 rfl (by decide) (.slice Asv nn csv) nn (dk.row D.since) rfl HO3.out ⟨w2.heap.size, 0, none⟩ 1 1 [.string a.fr, .string a.to, dk.opt a.f] rfl rfl HCEL.out hone (by unfold maxLen; omega) (by omega) (by simp) ?_; intro v4 w4 h1 h2 _ h3; have HN4 := Lib.hid (And.intro h1 (And.intro h2 h3)); clear h1 h2 h3))
  have hc24 : Chg w2 w4 (fun k => (Value.slice Asv nn csv).ownBlock = some k) := ((Chg.alloc w2 _ _).drew).trans (Chg.grown HN4.out.2.1) fun _ _ q => q
  have hb4 := hc24.blk HP2.out.1 hnp
  have HC4 := Lib.hid (And.intro hc24 hb4); clear hc24 hb4
  refine ⟨fun _ => later_of HC4.out.1, ?_⟩
  refine planz_one [false, false, false, false, false, false, false, false, true] 8 2 (by dsimp only [sel]) (by rfl) rfl (by kernel_rfl) ?_; intro K1 hK1; go_wp2_with fail
  refine ⟨fun _ => later_of HC4.out.1, ?_⟩
  refine planz_one [false, false, false, false, false, false, false, false, false, true] 9 1 (by dsimp only [sel]) (by rfl) rfl (by kernel_rfl) ?_; intro K1 hK1; go_wp2_with fail
  refine ⟨fun _ => later_of HC4.out.1, ?_⟩
  have n8 := HC4.out.2.cell 8 (v := .slice Asv nn csv) rfl
  have z8 := HC4.out.2.frozen 8
  have hpw4 := HC4.out.2.lt
  obtain ⟨A4, c4, rfl, -⟩ := own_at HN4.out.1
  obtain ⟨w5, hw5⟩ : ∃ w5, w5 = w4.setCell ⟨p, 8, none⟩ (.slice A4 (nn + 1) c4) := ⟨_, rfl⟩
  have hc45 : Chg w4 w5 (fun k => k = p) := by rw [hw5]; exact Chg.setCell _ _ _ _
  have hb5 : Blk w5 p 83 #[.int .i64 D.room, .int .i64 D.used, .int .i64 D.ops, .bool D.off, .bool D.cut, .int .i64 D.left, .map (some bn), .map (some bs), .slice A4 (nn + 1) c4] := by rw [hw5]; exact HC4.out.2.set 8 _
  have HB5 := Lib.hid (And.intro hc45 hb5); clear hc45 hb5
  refine planz_one [false, false, false, false, false, false, false, false, false, false, true] 10 0 (by dsimp only [sel]) (by rfl) rfl (by kernel_rfl) ?_; intro K1 hK1
  go_wp2_with fail
  refine ⟨fun h => absurd rfl h, ?_⟩
  refine wp_planz_end (by kernel_rfl) ?_
  rw [← hw5]
  clear hw5 n8 z8 q8 m0 m1 m2
  have hc25 : Chg w2 w5 (fun k => (Value.slice Asv nn csv).ownBlock = some k ∨ k = p) := (HC4.out.1.mono fun _ _ q => .inl q).trans HB5.out.1 fun _ _ q => .inr q
  have hc15 : Chg w1 w5 (fun k => k = bn ∨ (Value.slice Asv nn csv).ownBlock = some k ∨ k = p) := (HC2.out.1.mono fun _ _ q => .inl q).trans hc25 fun _ _ q => .inr q
  have hd1 := H1.out.2.2.1
  have hsz : w.heap.size ≤ w5.heap.size ∧ w4.heap.size ≤ w5.heap.size ∧ w.heap.size ≤ w2.heap.size := ⟨Nat.le_trans H1.out.2.1.size hc15.size, HB5.out.1.size, Nat.le_trans H1.out.2.1.size HC2.out.1.size⟩
  have hfin : (∃ sv', DskAt w5 p (D.lead a) (dk.grow F w w5) (m + 1) S bn bs sv' dat) ∧ Chg w w5 F := by
    refine ⟨⟨.slice A4 (nn + 1) c4, HB5.out.2, h.ne, ⟨N2, HC2.out.2.2, HC2.out.2.1.chg hc25 fun hh => ?_⟩, ?_, ?_, dk.lead_has h.has hS, ?_, h.apart, ?_, fun k hk => hk.2⟩, ?_⟩
    · rcases hh with hh | hh
      · exact dk.row_map HP2.out.2.2 HC2.out.2.1 hh
      · exact hpn hh.symm
    · obtain ⟨M, hM, hgs⟩ := hd1.safe
      refine ⟨M, by omega, hgs.chg hc15 fun hh => ?_⟩
      rcases hh with hh | hh | hh
      · exact h.ne hh.symm
      · have hr := hd1.row
        exact dk.row_map hr hgs hh
      · exact hps hh.symm
    · have hr := HB5.out.1.own HN4.out.1 fun k hk e => by
        subst e
        exact HC4.out.2.not_row (by decide) HN4.out.1 hk
      show w5.ownsRow 0 _ 3 _ (D.since ++ [a]).length (dk.row (D.since ++ [a]))
      rw [dk.row_snoc, List.length_append, hnn]
      exact hr
    · refine hd1.files hc15 fun k hk => ?_
      rcases hk with hk | hk | hk
      · exact .inl hk
      · exact .inr (.inr (.inr (.inl hk)))
      · exact .inr (.inr (.inl hk))
    · have hup : ∀ k, F k → dk.grow F w w5 k := fun k hk => ⟨.inl hk, Nat.lt_of_lt_of_le (h.lt k hk) hsz.1⟩
      refine ⟨hup p f1, hup bn f2, hup bs f3, fun k hk => ?_, fun f hf => ⟨hup f (f5 f hf).1, fun k hk => hup k ((f5 f hf).2 k hk)⟩⟩
      have hlt := (HN4.out.1.lt k hk).2
      refine ⟨?_, by omega⟩
      rcases HN4.out.2.2 with e | e
      · exact .inl (f4 k (by rw [← e]; exact hk))
      · rw [e] at hk
        have hk : (w2.alloc (.cells #[.string a.fr, .string a.to, dk.opt a.f] 96)).heap.size = k := by simpa using hk
        simp at hk
        exact .inr (by omega)
    · refine (chg_of (P := F) H1.out.2.1).trans hc15 fun k _ hk => ?_
      rcases hk with rfl | hk | rfl
      · exact f2
      · exact f4 k hk
      · exact f1
  have HFIN := Lib.hid hfin; clear hfin hc25 hc15 hd1 hsz
  go_wp2
  go_end0
  exact ⟨rfl, HFIN.out⟩
end
section
open Go.RowKit Go.Maps
set_option maxRecDepth 100000

def Dsk.new (room : Int) : Dsk := ⟨room, 0, 0, false, false, 0, fun _ => Option.none, fun _ => Option.none, [], fun _ => ⟨[], 0⟩⟩
theorem Dsk.new_has {room : Int} {f : Nat} : ¬ (Dsk.new room).Has f := fun h => by
  rcases h with ⟨s, h⟩ | ⟨s, h⟩ | ⟨a, h, -⟩
  · cases h
  · cases h
  · cases h
def dk.fresh (w w' : World) : Nat → Prop := fun k => w.heap.size ≤ k ∧ k < w'.heap.size
set_option maxHeartbeats 1000000 in
theorem disk.empty_any (room : Int) (w : World) : Calls Try.prog 34 #[.int .i64 room] w fun e w' => ∃ p, e = .returned (.pointer (some ⟨p, 0, none⟩)) ∧ (∃ S bn bs dat, DskAt w' p (Dsk.new room) (dk.fresh w w') 0 S bn bs (.slice none 0 0) dat) ∧ Below w.heap.size w w' := by
  have hmm := @run_makeMap Try.prog
  go_enter Try.func34, Try.ntmps34
  go_wp2_with fail
  obtain ⟨w1, hw1⟩ : ∃ w1, w1 = w.alloc (.map #[] 0) := ⟨_, rfl⟩
  rw [← hw1]
  obtain ⟨w2, hw2⟩ : ∃ w2, w2 = w1.alloc (.map #[] 0) := ⟨_, rfl⟩
  rw [← hw2]
  obtain ⟨w3, hw3⟩ : ∃ w3, w3 = w2.alloc (.cells #[.int .i64 room, .int .i64 0, .int .i64 0, .bool false, .bool false, .int .i64 0, .map (some w.heap.size), .map (some (w.heap.size + 1)), .slice none 0 0] 83) := ⟨_, rfl⟩
  rw [← hw3]
  have s1 : w1.heap.size = w.heap.size + 1 := by rw [hw1]; simp
  have s2 : w2.heap.size = w.heap.size + 1 + 1 := by rw [hw2]; simp [s1]
  have s3 : w3.heap.size = w.heap.size + 1 + 1 + 1 := by rw [hw3]; simp [s2]
  have b1 : Below w1.heap.size w1 w2 := by rw [hw2]; exact (Below.refl _ _).alloc (Nat.le_refl _) _
  have b2 : Below w2.heap.size w2 w3 := by rw [hw3]; exact (Below.refl _ _).alloc (Nat.le_refl _) _
  have bb : Below w.heap.size w w3 := by
    rw [hw3, hw2, hw1]
    exact (((Below.refl _ _).alloc (Nat.le_refl _) _).alloc (by simp) _).alloc (by simp; omega) _
  have g1 : GM strKey w1 w.heap.size 0 (fun _ => Option.none) := by rw [hw1]; exact GM.made strKey w
  have g2 : GM strKey w2 (w.heap.size + 1) 0 (fun _ => Option.none) := by
    have := GM.made strKey w1
    rw [s1] at this
    rw [hw2]; exact this
  have g1' := (g1.below b1 (by omega)).below b2 (by omega)
  have g2' := g2.below b2 (by omega)
  have hblk : Blk w3 (w.heap.size + 1 + 1) 83 #[.int .i64 room, .int .i64 0, .int .i64 0, .bool false, .bool false, .int .i64 0, .map (some w.heap.size), .map (some (w.heap.size + 1)), .slice none 0 0] := by
    have := Blk.new w2 83 #[.int .i64 room, .int .i64 0, .int .i64 0, .bool false, .bool false, .int .i64 0, .map (some w.heap.size), .map (some (w.heap.size + 1)), .slice none 0 0]
    rw [s2] at this
    rw [hw3]; exact this
  have hfin : ∃ S bn bs dat, DskAt w3 (w.heap.size + 1 + 1) (Dsk.new room) (dk.fresh w w3) 0 S bn bs (.slice none 0 0) dat := by
    refine ⟨fun _ => False, w.heap.size, w.heap.size + 1, fun _ => .slice none 0 0, hblk, by omega, ⟨0, Nat.le_refl _, g1'⟩, ⟨0, Nat.le_refl _, g2'⟩, World.ownsRow_nil _ _ _ _, fun f hf => absurd hf Dsk.new_has, fun f hf => hf.elim, fun f g k hf => hf.elim, ⟨⟨by omega, by omega⟩, ⟨by omega, by omega⟩, ⟨by omega, by omega⟩, fun k hk => ?_, fun f hf => hf.elim⟩, fun k hk => hk.2⟩
    cases hk
  have HF := Lib.hid (And.intro hfin bb)
  clear hfin bb hblk g1' g2' g1 g2 b1 b2 s1 s2 s3 hw1 hw2 hw3
  go_ret
  exact ⟨_, rfl, HF.out.1, HF.out.2⟩
/-- A change of a disk's numbers alone. -/
theorem DskAt.scal {w w' : World} {p : Nat} {D D' : Dsk} {F S : Nat → Prop} {m bn bs : Nat} {sv : Value} {dat : Nat → Value} (h : DskAt w p D F m S bn bs sv dat) (hc : Chg w w' (fun k => k = p))
    (hb : Blk w' p 83 #[.int .i64 D'.room, .int .i64 D'.used, .int .i64 D'.ops, .bool D'.off, .bool D'.cut, .int .i64 D'.left, .map (some bn), .map (some bs), sv]) (e1 : D'.now = D.now) (e2 : D'.safe = D.safe) (e3 : D'.since = D.since) (e4 : D'.file = D.file) : DskAt w' p D' F m S bn bs sv dat := by
  have hn : p ≠ bn := by
    obtain ⟨N, -, hg⟩ := h.now
    exact hg.not_blk h.blk
  have hs : p ≠ bs := by
    obtain ⟨N, -, hg⟩ := h.safe
    exact hg.not_blk h.blk
  refine ⟨hb, h.ne, by rw [e1]; exact h.now.chg hc fun e => hn e.symm, by rw [e2]; exact h.safe.chg hc fun e => hs e.symm, ?_, fun f hf => h.has f ?_, by rw [e4]; exact h.files hc fun k hk => .inr (.inr (.inl hk)), h.apart, h.foot, fun k hk => Nat.lt_of_lt_of_le (h.lt k hk) hc.size⟩
  · rw [e3]
    exact hc.own h.row fun k hk e => by subst e; exact h.blk.not_row (by decide) h.row hk
  · unfold Dsk.Has at hf ⊢
    rw [e1, e2, e3] at hf
    exact hf
def dk.setFile (D : Dsk) (f : Nat) (v : FileV) : Dsk := { D with file := fun g => if g = f then v else D.file g }
def dk.setDat (dat : Nat → Value) (f : Nat) (v : Value) : Nat → Value := fun g => if g = f then v else dat g
theorem dk.mono {w : World} {p : Nat} {D : Dsk} {F S : Nat → Prop} {m m' bn bs : Nat} {sv : Value} {dat : Nat → Value} (h : DskAt w p D F m S bn bs sv dat) (hm : m ≤ m') : DskAt w p D F m' S bn bs sv dat := by
  obtain ⟨N, h1, h2⟩ := h.now
  obtain ⟨M, g1, g2⟩ := h.safe
  exact ⟨h.blk, h.ne, ⟨N, by omega, h2⟩, ⟨M, by omega, g2⟩, h.row, h.has, h.file, h.apart, h.foot, h.lt⟩
/-- A file is written: its bytes lie where they lay, or in a new block. -/
theorem DskAt.write {w w' : World} {p : Nat} {D : Dsk} {F S : Nat → Prop} {m bn bs : Nat} {sv : Value} {dat : Nat → Value} (h : DskAt w p D F m S bn bs sv dat) {f : Nat} (hf : S f) {v : FileV} {dv : Value} (hc : Chg w w' (fun k => k = f ∨ (dat f).ownBlock = some k))
    (hv : FileAt w' f v dv) (hd : dv.ownBlock = (dat f).ownBlock ∨ ∃ k, dv.ownBlock = some k ∧ w.heap.size ≤ k) : DskAt w' p (dk.setFile D f v) (dk.grow F w w') m S bn bs sv (dk.setDat dat f dv) := by
  obtain ⟨f1, f2, f3, f4, f5⟩ := h.foot
  obtain ⟨N, hN, hgn⟩ := h.now
  obtain ⟨M, hM, hgs⟩ := h.safe
  have hff := h.file f hf
  have hfp : f ≠ p := dk.blk_ne hff.1 h.blk (by decide)
  have hne : ∀ k, (k = f ∨ (dat f).ownBlock = some k) → k ≠ p ∧ k ≠ bn ∧ k ≠ bs ∧ sv.ownBlock ≠ some k := fun k hk => by
    rcases hk with rfl | hk
    · exact ⟨hfp, hgn.not_blk hff.1, hgs.not_blk hff.1, hff.1.not_row (by decide) h.row⟩
    · exact ⟨fun e => h.blk.not_row (by decide) hff.2.1 (by rw [hk, e]), fun e => dk.row_map hff.2.1 hgn (by rw [hk, e]), fun e => dk.row_map hff.2.1 hgs (by rw [hk, e]), fun e => rows_apart hff.2.1 h.row (by decide) hk e⟩
  have hup : ∀ k, F k → dk.grow F w w' k := fun k hk => ⟨.inl hk, Nat.lt_of_lt_of_le (h.lt k hk) hc.size⟩
  have hdl : ∀ k, dv.ownBlock = some k → k < w'.heap.size := fun k hk => (hv.2.1.lt k hk).2
  refine ⟨hc.blk h.blk fun hh => (hne p hh).1 rfl, h.ne, ⟨N, hN, hgn.chg hc fun hh => (hne bn hh).2.1 rfl⟩, ⟨M, hM, hgs.chg hc fun hh => (hne bs hh).2.2.1 rfl⟩, hc.own h.row fun k hk hh => (hne k hh).2.2.2 hk, h.has, fun g hg => ?_, fun a b k ha hb hab hk hk2 => ?_, ⟨hup p f1, hup bn f2, hup bs f3, fun k hk => hup k (f4 k hk), fun g hg => ⟨hup g (f5 g hg).1, fun k hk => ?_⟩⟩, fun k hk => hk.2⟩
  · by_cases e : g = f
    · subst e
      show FileAt w' g (if g = g then v else D.file g) (if g = g then dv else dat g)
      rw [if_pos rfl, if_pos rfl]
      exact hv
    · show FileAt w' g (if g = f then v else D.file g) (if g = f then dv else dat g)
      rw [if_neg e, if_neg e]
      refine (h.file g hg).chg hc (fun hh => ?_) fun k hk hh => ?_
      · rcases hh with hh | hh
        · exact e hh
        · exact (h.file g hg).1.not_row (by decide) hff.2.1 hh
      · rcases hh with rfl | hh
        · exact hff.1.not_row (by decide) (h.file g hg).2.1 hk
        · exact h.apart g f k hg hf e hk hh
  · -- the bytes of two files lie apart
    have hold : ∀ g, S g → g ≠ f → ∀ k, (dat g).ownBlock = some k → dv.ownBlock ≠ some k := fun g hg hgf k hk hk' => by
      rcases hd with hd | ⟨q, hd, hq⟩
      · rw [hd] at hk'
        exact h.apart g f k hg hf hgf hk hk'
      · rw [hd] at hk'
        have h1 := ((h.file g hg).2.1.lt k hk).2
        have h2 : q = k := by simpa using hk'
        omega
    have hk : (if a = f then dv else dat a).ownBlock = some k := hk
    have hk2 : (if b = f then dv else dat b).ownBlock = some k := hk2
    by_cases ea : a = f
    · have eb : b ≠ f := fun e => hab (by rw [ea, e])
      rw [if_pos ea] at hk
      rw [if_neg eb] at hk2
      exact hold b hb eb k hk2 hk
    · rw [if_neg ea] at hk
      by_cases eb : b = f
      · rw [if_pos eb] at hk2
        exact hold a ha ea k hk hk2
      · rw [if_neg eb] at hk2
        exact h.apart a b k ha hb hab hk hk2
  · have hk : (if g = f then dv else dat g).ownBlock = some k := hk
    by_cases e : g = f
    · rw [if_pos e] at hk
      rcases hd with hd | ⟨q, hd, hq⟩
      · rw [hd] at hk
        exact hup k ((f5 f hf).2 k hk)
      · have h2 : q = k := by rw [hd] at hk; simpa using hk
        exact ⟨.inr (by omega), hdl k hk⟩
    · rw [if_neg e] at hk
      exact hup k ((f5 g hg).2 k hk)
/-- A new file, which nothing leads to yet. -/
theorem DskAt.begin {w : World} {p : Nat} {D : Dsk} {F S : Nat → Prop} {m bn bs : Nat} {sv : Value} {dat : Nat → Value} (h : DskAt w p D F m S bn bs sv dat) : 
    DskAt (w.alloc (.cells #[.slice none 0 0, .int .i64 0] 86)) p (dk.setFile D w.heap.size ⟨[], 0⟩) (dk.grow F w (w.alloc (.cells #[.slice none 0 0, .int .i64 0] 86))) m (fun f => S f ∨ f = w.heap.size) bn bs sv (dk.setDat dat w.heap.size (.slice none 0 0)) := by
  obtain ⟨w', hw'⟩ : ∃ w', w' = w.alloc (.cells #[.slice none 0 0, .int .i64 0] 86) := ⟨_, rfl⟩
  rw [← hw']
  have hb : Below w.heap.size w w' := by rw [hw']; exact (Below.refl _ _).alloc (Nat.le_refl _) _
  have hblk : Blk w' w.heap.size 86 #[.slice none 0 0, .int .i64 0] := by rw [hw']; exact Blk.new _ _ _
  have hs : w'.heap.size = w.heap.size + 1 := by rw [hw']; simp
  have hk := h.keep (chg_of (P := fun _ => False) hb) fun _ _ q => q
  obtain ⟨f1, f2, f3, f4, f5⟩ := h.foot
  have hup : ∀ k, F k → dk.grow F w w' k := fun k hk => ⟨.inl hk, Nat.lt_of_lt_of_le (h.lt k hk) hb.size⟩
  have hnew : ∀ g, S g → g ≠ w.heap.size := fun g hg e => by
    have := h.lt g (f5 g hg).1
    omega
  refine ⟨hk.blk, h.ne, hk.now, hk.safe, hk.row, fun f hf => .inl (h.has f hf), fun g hg => ?_, fun a b k ha hb hab e1 e2 => ?_, ⟨hup p f1, hup bn f2, hup bs f3, fun k hk => hup k (f4 k hk), fun g hg => ⟨?_, fun k hk => ?_⟩⟩, fun k hk => hk.2⟩
  · show FileAt w' g (if g = w.heap.size then ⟨[], 0⟩ else D.file g) (if g = w.heap.size then .slice none 0 0 else dat g)
    rcases hg with hg | rfl
    · rw [if_neg (hnew g hg), if_neg (hnew g hg)]
      exact hk.file g hg
    · rw [if_pos rfl, if_pos rfl]
      exact ⟨hblk, World.ownsRow_nil _ _ _ _, fun x hx => by cases hx⟩
  · have e1 : (if a = w.heap.size then Value.slice none 0 0 else dat a).ownBlock = some k := e1
    have e2 : (if b = w.heap.size then Value.slice none 0 0 else dat b).ownBlock = some k := e2
    by_cases ea : a = w.heap.size
    · rw [if_pos ea] at e1; cases e1
    · by_cases eb : b = w.heap.size
      · rw [if_pos eb] at e2; cases e2
      · rw [if_neg ea] at e1
        rw [if_neg eb] at e2
        exact h.apart a b k (ha.resolve_right ea) (hb.resolve_right eb) hab e1 e2
  · rcases hg with hg | rfl
    · exact hup g (f5 g hg).1
    · exact ⟨.inr (Nat.le_refl _), by omega⟩
  · have hk : (if g = w.heap.size then Value.slice none 0 0 else dat g).ownBlock = some k := hk
    by_cases e : g = w.heap.size
    · rw [if_pos e] at hk; cases hk
    · rw [if_neg e] at hk
      exact hup k ((f5 g (hg.resolve_right e)).2 k hk)
end
end Go.Proofs.Ythffkbcjidbdaaa

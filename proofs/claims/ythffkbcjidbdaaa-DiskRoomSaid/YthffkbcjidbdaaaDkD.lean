/- An empty disk; what a write of a file, and of the struct, leaves of a disk. -/
import Derived.Test.YthffkbcjidbdaaaDkC
namespace Go.Proofs.Ythffkbcjidbdaaa
open Go.RowKit Go.Maps
set_option maxRecDepth 100000

def Dsk.new (room : Int) : Dsk := ⟨room, 0, 0, false, false, 0, fun _ => Option.none, fun _ => Option.none, [], fun _ => ⟨[], 0⟩⟩
theorem Dsk.new_has {room : Int} {f : Nat} : ¬ (Dsk.new room).Has f := fun h => by
  rcases h with ⟨s, h⟩ | ⟨s, h⟩ | ⟨a, h, -⟩
  · cases h
  · cases h
  · cases h
def dk.fresh (w w' : World) : Nat → Prop := fun k => w.heap.size ≤ k ∧ k < w'.heap.size
set_option maxHeartbeats 1000000 in
theorem disk.empty_any (room : Int) (w : World) : Calls Try.prog 34 #[.int .i64 room] w fun e w' => ∃ p, e = .returned (.pointer (some ⟨p, 0, none⟩)) ∧ (∃ S bn bs dat, DskAt w' p (Dsk.new room) (dk.fresh w w') 0 S bn bs (.slice none 0 0) dat) ∧ Below w.heap.size w w' := by
  have hmm := @run_makeMap Try.prog
  go_enter Try.func34, Try.ntmps34
  go_wp2_with fail
  obtain ⟨w1, hw1⟩ : ∃ w1, w1 = w.alloc (.map #[] 0) := ⟨_, rfl⟩
  rw [← hw1]
  obtain ⟨w2, hw2⟩ : ∃ w2, w2 = w1.alloc (.map #[] 0) := ⟨_, rfl⟩
  rw [← hw2]
  obtain ⟨w3, hw3⟩ : ∃ w3, w3 = w2.alloc (.cells #[.int .i64 room, .int .i64 0, .int .i64 0, .bool false, .bool false, .int .i64 0, .map (some w.heap.size), .map (some (w.heap.size + 1)), .slice none 0 0] 83) := ⟨_, rfl⟩
  rw [← hw3]
  have s1 : w1.heap.size = w.heap.size + 1 := by rw [hw1]; simp
  have s2 : w2.heap.size = w.heap.size + 1 + 1 := by rw [hw2]; simp [s1]
  have s3 : w3.heap.size = w.heap.size + 1 + 1 + 1 := by rw [hw3]; simp [s2]
  have b1 : Below w1.heap.size w1 w2 := by rw [hw2]; exact (Below.refl _ _).alloc (Nat.le_refl _) _
  have b2 : Below w2.heap.size w2 w3 := by rw [hw3]; exact (Below.refl _ _).alloc (Nat.le_refl _) _
  have bb : Below w.heap.size w w3 := by
    rw [hw3, hw2, hw1]
    exact (((Below.refl _ _).alloc (Nat.le_refl _) _).alloc (by simp) _).alloc (by simp; omega) _
  have g1 : GM strKey w1 w.heap.size 0 (fun _ => Option.none) := by rw [hw1]; exact GM.made strKey w
  have g2 : GM strKey w2 (w.heap.size + 1) 0 (fun _ => Option.none) := by
    have := GM.made strKey w1
    rw [s1] at this
    rw [hw2]; exact this
  have g1' := (g1.below b1 (by omega)).below b2 (by omega)
  have g2' := g2.below b2 (by omega)
  have hblk : Blk w3 (w.heap.size + 1 + 1) 83 #[.int .i64 room, .int .i64 0, .int .i64 0, .bool false, .bool false, .int .i64 0, .map (some w.heap.size), .map (some (w.heap.size + 1)), .slice none 0 0] := by
    have := Blk.new w2 83 #[.int .i64 room, .int .i64 0, .int .i64 0, .bool false, .bool false, .int .i64 0, .map (some w.heap.size), .map (some (w.heap.size + 1)), .slice none 0 0]
    rw [s2] at this
    rw [hw3]; exact this
  have hfin : ∃ S bn bs dat, DskAt w3 (w.heap.size + 1 + 1) (Dsk.new room) (dk.fresh w w3) 0 S bn bs (.slice none 0 0) dat := by
    refine ⟨fun _ => False, w.heap.size, w.heap.size + 1, fun _ => .slice none 0 0, hblk, by omega, ⟨0, Nat.le_refl _, g1'⟩, ⟨0, Nat.le_refl _, g2'⟩, World.ownsRow_nil _ _ _ _, fun f hf => absurd hf Dsk.new_has, fun f hf => hf.elim, fun f g k hf => hf.elim, ⟨⟨by omega, by omega⟩, ⟨by omega, by omega⟩, ⟨by omega, by omega⟩, fun k hk => ?_, fun f hf => hf.elim⟩, fun k hk => hk.2⟩
    cases hk
  have HF := Lib.hid (And.intro hfin bb)
  clear hfin bb hblk g1' g2' g1 g2 b1 b2 s1 s2 s3 hw1 hw2 hw3
  go_ret
  exact ⟨_, rfl, HF.out.1, HF.out.2⟩
/-- A change of a disk's numbers alone. -/
theorem DskAt.scal {w w' : World} {p : Nat} {D D' : Dsk} {F S : Nat → Prop} {m bn bs : Nat} {sv : Value} {dat : Nat → Value} (h : DskAt w p D F m S bn bs sv dat) (hc : Chg w w' (fun k => k = p))
    (hb : Blk w' p 83 #[.int .i64 D'.room, .int .i64 D'.used, .int .i64 D'.ops, .bool D'.off, .bool D'.cut, .int .i64 D'.left, .map (some bn), .map (some bs), sv]) (e1 : D'.now = D.now) (e2 : D'.safe = D.safe) (e3 : D'.since = D.since) (e4 : D'.file = D.file) : DskAt w' p D' F m S bn bs sv dat := by
  have hn : p ≠ bn := by
    obtain ⟨N, -, hg⟩ := h.now
    exact hg.not_blk h.blk
  have hs : p ≠ bs := by
    obtain ⟨N, -, hg⟩ := h.safe
    exact hg.not_blk h.blk
  refine ⟨hb, h.ne, by rw [e1]; exact h.now.chg hc fun e => hn e.symm, by rw [e2]; exact h.safe.chg hc fun e => hs e.symm, ?_, fun f hf => h.has f ?_, by rw [e4]; exact h.files hc fun k hk => .inr (.inr (.inl hk)), h.apart, h.foot, fun k hk => Nat.lt_of_lt_of_le (h.lt k hk) hc.size⟩
  · rw [e3]
    exact hc.own h.row fun k hk e => by subst e; exact h.blk.not_row (by decide) h.row hk
  · unfold Dsk.Has at hf ⊢
    rw [e1, e2, e3] at hf
    exact hf
def dk.setFile (D : Dsk) (f : Nat) (v : FileV) : Dsk := { D with file := fun g => if g = f then v else D.file g }
def dk.setDat (dat : Nat → Value) (f : Nat) (v : Value) : Nat → Value := fun g => if g = f then v else dat g
theorem dk.mono {w : World} {p : Nat} {D : Dsk} {F S : Nat → Prop} {m m' bn bs : Nat} {sv : Value} {dat : Nat → Value} (h : DskAt w p D F m S bn bs sv dat) (hm : m ≤ m') : DskAt w p D F m' S bn bs sv dat := by
  obtain ⟨N, h1, h2⟩ := h.now
  obtain ⟨M, g1, g2⟩ := h.safe
  exact ⟨h.blk, h.ne, ⟨N, by omega, h2⟩, ⟨M, by omega, g2⟩, h.row, h.has, h.file, h.apart, h.foot, h.lt⟩
/-- A file is written: its bytes lie where they lay, or in a new block. -/
theorem DskAt.write {w w' : World} {p : Nat} {D : Dsk} {F S : Nat → Prop} {m bn bs : Nat} {sv : Value} {dat : Nat → Value} (h : DskAt w p D F m S bn bs sv dat) {f : Nat} (hf : S f) {v : FileV} {dv : Value} (hc : Chg w w' (fun k => k = f ∨ (dat f).ownBlock = some k))
    (hv : FileAt w' f v dv) (hd : dv.ownBlock = (dat f).ownBlock ∨ ∃ k, dv.ownBlock = some k ∧ w.heap.size ≤ k) : DskAt w' p (dk.setFile D f v) (dk.grow F w w') m S bn bs sv (dk.setDat dat f dv) := by
  obtain ⟨f1, f2, f3, f4, f5⟩ := h.foot
  obtain ⟨N, hN, hgn⟩ := h.now
  obtain ⟨M, hM, hgs⟩ := h.safe
  have hff := h.file f hf
  have hfp : f ≠ p := dk.blk_ne hff.1 h.blk (by decide)
  have hne : ∀ k, (k = f ∨ (dat f).ownBlock = some k) → k ≠ p ∧ k ≠ bn ∧ k ≠ bs ∧ sv.ownBlock ≠ some k := fun k hk => by
    rcases hk with rfl | hk
    · exact ⟨hfp, hgn.not_blk hff.1, hgs.not_blk hff.1, hff.1.not_row (by decide) h.row⟩
    · exact ⟨fun e => h.blk.not_row (by decide) hff.2.1 (by rw [hk, e]), fun e => dk.row_map hff.2.1 hgn (by rw [hk, e]), fun e => dk.row_map hff.2.1 hgs (by rw [hk, e]), fun e => rows_apart hff.2.1 h.row (by decide) hk e⟩
  have hup : ∀ k, F k → dk.grow F w w' k := fun k hk => ⟨.inl hk, Nat.lt_of_lt_of_le (h.lt k hk) hc.size⟩
  have hdl : ∀ k, dv.ownBlock = some k → k < w'.heap.size := fun k hk => (hv.2.1.lt k hk).2
  refine ⟨hc.blk h.blk fun hh => (hne p hh).1 rfl, h.ne, ⟨N, hN, hgn.chg hc fun hh => (hne bn hh).2.1 rfl⟩, ⟨M, hM, hgs.chg hc fun hh => (hne bs hh).2.2.1 rfl⟩, hc.own h.row fun k hk hh => (hne k hh).2.2.2 hk, h.has, fun g hg => ?_, fun a b k ha hb hab hk hk2 => ?_, ⟨hup p f1, hup bn f2, hup bs f3, fun k hk => hup k (f4 k hk), fun g hg => ⟨hup g (f5 g hg).1, fun k hk => ?_⟩⟩, fun k hk => hk.2⟩
  · by_cases e : g = f
    · subst e
      show FileAt w' g (if g = g then v else D.file g) (if g = g then dv else dat g)
      rw [if_pos rfl, if_pos rfl]
      exact hv
    · show FileAt w' g (if g = f then v else D.file g) (if g = f then dv else dat g)
      rw [if_neg e, if_neg e]
      refine (h.file g hg).chg hc (fun hh => ?_) fun k hk hh => ?_
      · rcases hh with hh | hh
        · exact e hh
        · exact (h.file g hg).1.not_row (by decide) hff.2.1 hh
      · rcases hh with rfl | hh
        · exact hff.1.not_row (by decide) (h.file g hg).2.1 hk
        · exact h.apart g f k hg hf e hk hh
  · -- the bytes of two files lie apart
    have hold : ∀ g, S g → g ≠ f → ∀ k, (dat g).ownBlock = some k → dv.ownBlock ≠ some k := fun g hg hgf k hk hk' => by
      rcases hd with hd | ⟨q, hd, hq⟩
      · rw [hd] at hk'
        exact h.apart g f k hg hf hgf hk hk'
      · rw [hd] at hk'
        have h1 := ((h.file g hg).2.1.lt k hk).2
        have h2 : q = k := by simpa using hk'
        omega
    have hk : (if a = f then dv else dat a).ownBlock = some k := hk
    have hk2 : (if b = f then dv else dat b).ownBlock = some k := hk2
    by_cases ea : a = f
    · have eb : b ≠ f := fun e => hab (by rw [ea, e])
      rw [if_pos ea] at hk
      rw [if_neg eb] at hk2
      exact hold b hb eb k hk2 hk
    · rw [if_neg ea] at hk
      by_cases eb : b = f
      · rw [if_pos eb] at hk2
        exact hold a ha ea k hk hk2
      · rw [if_neg eb] at hk2
        exact h.apart a b k ha hb hab hk hk2
  · have hk : (if g = f then dv else dat g).ownBlock = some k := hk
    by_cases e : g = f
    · rw [if_pos e] at hk
      rcases hd with hd | ⟨q, hd, hq⟩
      · rw [hd] at hk
        exact hup k ((f5 f hf).2 k hk)
      · have h2 : q = k := by rw [hd] at hk; simpa using hk
        exact ⟨.inr (by omega), hdl k hk⟩
    · rw [if_neg e] at hk
      exact hup k ((f5 g hg).2 k hk)
/-- A new file, which nothing leads to yet. -/
theorem DskAt.begin {w : World} {p : Nat} {D : Dsk} {F S : Nat → Prop} {m bn bs : Nat} {sv : Value} {dat : Nat → Value} (h : DskAt w p D F m S bn bs sv dat) : 
    DskAt (w.alloc (.cells #[.slice none 0 0, .int .i64 0] 86)) p (dk.setFile D w.heap.size ⟨[], 0⟩) (dk.grow F w (w.alloc (.cells #[.slice none 0 0, .int .i64 0] 86))) m (fun f => S f ∨ f = w.heap.size) bn bs sv (dk.setDat dat w.heap.size (.slice none 0 0)) := by
  obtain ⟨w', hw'⟩ : ∃ w', w' = w.alloc (.cells #[.slice none 0 0, .int .i64 0] 86) := ⟨_, rfl⟩
  rw [← hw']
  have hb : Below w.heap.size w w' := by rw [hw']; exact (Below.refl _ _).alloc (Nat.le_refl _) _
  have hblk : Blk w' w.heap.size 86 #[.slice none 0 0, .int .i64 0] := by rw [hw']; exact Blk.new _ _ _
  have hs : w'.heap.size = w.heap.size + 1 := by rw [hw']; simp
  have hk := h.keep (chg_of (P := fun _ => False) hb) fun _ _ q => q
  obtain ⟨f1, f2, f3, f4, f5⟩ := h.foot
  have hup : ∀ k, F k → dk.grow F w w' k := fun k hk => ⟨.inl hk, Nat.lt_of_lt_of_le (h.lt k hk) hb.size⟩
  have hnew : ∀ g, S g → g ≠ w.heap.size := fun g hg e => by
    have := h.lt g (f5 g hg).1
    omega
  refine ⟨hk.blk, h.ne, hk.now, hk.safe, hk.row, fun f hf => .inl (h.has f hf), fun g hg => ?_, fun a b k ha hb hab e1 e2 => ?_, ⟨hup p f1, hup bn f2, hup bs f3, fun k hk => hup k (f4 k hk), fun g hg => ⟨?_, fun k hk => ?_⟩⟩, fun k hk => hk.2⟩
  · show FileAt w' g (if g = w.heap.size then ⟨[], 0⟩ else D.file g) (if g = w.heap.size then .slice none 0 0 else dat g)
    rcases hg with hg | rfl
    · rw [if_neg (hnew g hg), if_neg (hnew g hg)]
      exact hk.file g hg
    · rw [if_pos rfl, if_pos rfl]
      exact ⟨hblk, World.ownsRow_nil _ _ _ _, fun x hx => by cases hx⟩
  · have e1 : (if a = w.heap.size then Value.slice none 0 0 else dat a).ownBlock = some k := e1
    have e2 : (if b = w.heap.size then Value.slice none 0 0 else dat b).ownBlock = some k := e2
    by_cases ea : a = w.heap.size
    · rw [if_pos ea] at e1; cases e1
    · by_cases eb : b = w.heap.size
      · rw [if_pos eb] at e2; cases e2
      · rw [if_neg ea] at e1
        rw [if_neg eb] at e2
        exact h.apart a b k (ha.resolve_right ea) (hb.resolve_right eb) hab e1 e2
  · rcases hg with hg | rfl
    · exact hup g (f5 g hg).1
    · exact ⟨.inr (Nat.le_refl _), by omega⟩
  · have hk : (if g = w.heap.size then Value.slice none 0 0 else dat g).ownBlock = some k := hk
    by_cases e : g = w.heap.size
    · rw [if_pos e] at hk; cases hk
    · rw [if_neg e] at hk
      exact hup k ((f5 g (hg.resolve_right e)).2 k hk)
end Go.Proofs.Ythffkbcjidbdaaa

/- What a crash leaves, in plain words; a new disk takes a file in. -/
import Derived.Test.YthffkbcjidbdaaaDkJ
namespace Go.Proofs.Ythffkbcjidbdaaa
open Go.RowKit Go.Maps
set_option maxRecDepth 100000

/-- How much of a file is left, and the picks behind it. -/
def dk.keepOf (v : FileV) (ps : List Int) : Int × List Int :=
  if 0 < (v.data.length : Int) - (v.safe : Int) then ((v.safe : Int) + (dk.pick ps ((v.data.length : Int) - (v.safe : Int))).1, (dk.pick ps ((v.data.length : Int) - (v.safe : Int))).2) else ((v.safe : Int), ps)
structure DLeft where
  by_ : ByteArray → Option (List Nat)
  used : Int
  picks : List Int
def dk.leftStep (D : Dsk) (names : DNames) (x : DLeft) (s : ByteArray) : DLeft := match names s with
  | Option.none => x
  | some f => ⟨fun t => if t = s then some ((D.file f).data.take (dk.keepOf (D.file f) x.picks).1.toNat) else x.by_ t, x.used + (dk.keepOf (D.file f) x.picks).1, (dk.keepOf (D.file f) x.picks).2⟩
/-- What is left of files, taken in the order of names. -/
def dk.left (D : Dsk) (names : DNames) (ks : List ByteArray) (ps : List Int) : DLeft := ks.foldl (dk.leftStep D names) ⟨fun _ => Option.none, 0, ps⟩
theorem dk.left_snoc (D : Dsk) (names : DNames) (ks : List ByteArray) (s : ByteArray) (ps : List Int) : dk.left D names (ks ++ [s]) ps = dk.leftStep D names (dk.left D names ks ps) s := by unfold dk.left; simp
/-- A disk that holds what is left, all of it safe. -/
structure dk.Holds (D : Dsk) (room : Int) (x : DLeft) : Prop where
  room : D.room = room
  used : D.used = x.used
  plain : D.ops = 0 ∧ D.off = false ∧ D.cut = false ∧ D.left = 0 ∧ D.since = []
  same : D.safe = D.now
  file : ∀ s, (x.by_ s = Option.none ∧ D.now s = Option.none) ∨ ∃ f b, x.by_ s = some b ∧ D.now s = some f ∧ D.file f = ⟨b, b.length⟩
  inj : ∀ s t f, D.now s = some f → D.now t = some f → s = t
theorem dk.Holds.start (room : Int) (ps : List Int) : dk.Holds (Dsk.new room) room ⟨fun _ => Option.none, 0, ps⟩ := ⟨rfl, rfl, ⟨rfl, rfl, rfl, rfl, rfl⟩, rfl, fun _ => .inl ⟨rfl, rfl⟩, fun _ _ _ h => by cases h⟩
/-- A new file under a name, now and safe. -/
def dk.adopt (D : Dsk) (s : ByteArray) (f : Nat) (b : List Nat) (n : Int) : Dsk := { dk.setFile D f ⟨b, b.length⟩ with now := dk.put D.now s (some f), safe := dk.put D.safe s (some f), used := n }
theorem dk.Holds.adopt {D : Dsk} {room : Int} {x : DLeft} (h : dk.Holds D room x) (s : ByteArray) (f : Nat) (b : List Nat) (n : Int) (ps : List Int) (hf : ∀ t, D.now t ≠ some f) : dk.Holds (dk.adopt D s f b n) room ⟨fun t => if t = s then some b else x.by_ t, n, ps⟩ := by
  refine ⟨h.room, rfl, h.plain, ?_, fun t => ?_, fun t u g h1 h2 => ?_⟩
  · show dk.put D.safe s (some f) = dk.put D.now s (some f)
    rw [h.same]
  · show ((if t = s then some b else x.by_ t) = Option.none ∧ (if t = s then some f else D.now t) = Option.none) ∨ ∃ g c, (if t = s then some b else x.by_ t) = some c ∧ (if t = s then some f else D.now t) = some g ∧ (if g = f then (⟨b, b.length⟩ : FileV) else D.file g) = ⟨c, c.length⟩
    by_cases e : t = s
    · rw [if_pos e, if_pos e]
      exact .inr ⟨f, b, rfl, rfl, by rw [if_pos rfl]⟩
    · rw [if_neg e, if_neg e]
      rcases h.file t with h1 | ⟨g, c, h1, h2, h3⟩
      · exact .inl h1
      · exact .inr ⟨g, c, h1, h2, by rw [if_neg fun e => hf t (by rw [h2, e])]; exact h3⟩
  · have h1 : (if t = s then some f else D.now t) = some g := h1
    have h2 : (if u = s then some f else D.now u) = some g := h2
    by_cases e1 : t = s
    · by_cases e2 : u = s
      · rw [e1, e2]
      · rw [if_pos e1] at h1
        rw [if_neg e2] at h2
        exact absurd (by rw [h2, ← h1]) (hf u)
    · rw [if_neg e1] at h1
      by_cases e2 : u = s
      · rw [if_pos e2] at h2
        exact absurd (by rw [h1, ← h2]) (hf t)
      · rw [if_neg e2] at h2
        exact h.inj t u g h1 h2
theorem dk.put_map {l : DNames} {s : ByteArray} {f : Nat} : (fun t => (dk.put l s (some f) t).map dk.ptr) = gput (fun t => (l t).map dk.ptr) s (dk.ptr f) := by
  funext t
  unfold dk.put gput
  by_cases e : t = s
  · rw [if_pos e, if_pos e]; rfl
  · rw [if_neg e, if_neg e]
/-- In memory: a file in new blocks comes in. -/
theorem DskAt.adopt {w w' : World} {q : Nat} {D : Dsk} {F S : Nat → Prop} {m bn bs : Nat} {dat : Nat → Value} (h : DskAt w q D F m S bn bs (.slice none 0 0) dat) (hsi : D.since = []) (s : ByteArray) (f : Nat) (b : List Nat) (n : Int) (dv : Value)
    (hc : Chg w w' (fun k => k = q ∨ k = bn ∨ k = bs)) (hf : w.heap.size ≤ f) (hv : FileAt w' f ⟨b, b.length⟩ dv) (hd : ∀ k, dv.ownBlock = some k → w.heap.size ≤ k)
    (hb : Blk w' q 83 #[.int .i64 D.room, .int .i64 n, .int .i64 D.ops, .bool D.off, .bool D.cut, .int .i64 D.left, .map (some bn), .map (some bs), .slice none 0 0])
    (hn : NamesAt w' bn (dk.put D.now s (some f)) (m + 1)) (hs : NamesAt w' bs (dk.put D.safe s (some f)) (m + 1)) :
    DskAt w' q (dk.adopt D s f b n) (dk.grow F w w') (m + 1) (fun g => S g ∨ g = f) bn bs (.slice none 0 0) (dk.setDat dat f dv) := by
  obtain ⟨f1, f2, f3, f4, f5⟩ := h.foot
  have hup : ∀ k, F k → dk.grow F w w' k := fun k hk => ⟨.inl hk, Nat.lt_of_lt_of_le (h.lt k hk) hc.size⟩
  have hnew : ∀ g, S g → g ≠ f := fun g hg e => by
    have := h.lt g (f5 g hg).1
    omega
  have hfl := hv.1.lt
  have hfs := h.files hc fun k hk => by
    rcases hk with hk | hk | hk
    · exact .inr (.inr (.inl hk))
    · exact .inl hk
    · exact .inr (.inl hk)
  have hold : ∀ g, S g → ∀ k, (dat g).ownBlock = some k → dv.ownBlock ≠ some k := fun g hg k hk hk' => by
    have := h.lt k ((f5 g hg).2 k hk)
    have := hd k hk'
    omega
  have hput : ∀ (l : DNames) (t : ByteArray) (g : Nat), dk.put l s (some f) t = some g → l t = some g ∨ g = f := fun l t g hg => by
    unfold dk.put at hg
    split at hg
    · exact .inr (by simpa using hg.symm)
    · exact .inl hg
  refine ⟨hb, h.ne, hn, hs, ?_, fun g hg => ?_, fun g hg => ?_, fun a c k ha hc2 hac e1 e2 => ?_, ⟨hup q f1, hup bn f2, hup bs f3, (fun k hk => by cases hk), fun g hg => ⟨?_, fun k hk => ?_⟩⟩, fun _ hk => hk.2⟩
  · show w'.ownsRow 0 _ 3 _ D.since.length (dk.row D.since)
    rw [hsi]
    exact World.ownsRow_nil _ _ _ _
  · rcases hg with ⟨t, ht⟩ | ⟨t, ht⟩ | ⟨a, ha, -⟩
    · exact (hput _ t g ht).imp (fun hh => h.has g (.inl ⟨t, hh⟩)) id
    · exact (hput _ t g ht).imp (fun hh => h.has g (.inr (.inl ⟨t, hh⟩))) id
    · have ha : a ∈ D.since := ha
      rw [hsi] at ha
      cases ha
  · show FileAt w' g (if g = f then ⟨b, b.length⟩ else D.file g) (if g = f then dv else dat g)
    rcases hg with hg | rfl
    · rw [if_neg (hnew g hg), if_neg (hnew g hg)]
      exact hfs g hg
    · rw [if_pos rfl, if_pos rfl]
      exact hv
  · have e1 : (if a = f then dv else dat a).ownBlock = some k := e1
    have e2 : (if c = f then dv else dat c).ownBlock = some k := e2
    by_cases ea : a = f
    · have ec : c ≠ f := fun e => hac (by rw [ea, e])
      rw [if_pos ea] at e1
      rw [if_neg ec] at e2
      exact hold c (hc2.resolve_right ec) k e2 e1
    · rw [if_neg ea] at e1
      by_cases ec : c = f
      · rw [if_pos ec] at e2
        exact hold a (ha.resolve_right ea) k e1 e2
      · rw [if_neg ec] at e2
        exact h.apart a c k (ha.resolve_right ea) (hc2.resolve_right ec) hac e1 e2
  · rcases hg with hg | rfl
    · exact hup g (f5 g hg).1
    · exact ⟨.inr hf, hfl⟩
  · have hk : (if g = f then dv else dat g).ownBlock = some k := hk
    by_cases e : g = f
    · rw [if_pos e] at hk
      exact ⟨.inr (hd k hk), (hv.2.1.lt k hk).2⟩
    · rw [if_neg e] at hk
      exact hup k ((f5 g (hg.resolve_right e)).2 k hk)
end Go.Proofs.Ythffkbcjidbdaaa

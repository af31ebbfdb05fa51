/- The net and the document's net, side by side: what each call does to the two (cordwainlaw23). -/
import Derived.Test.YtbbekgliaedigaaNetW
namespace Go.Proofs.Ytbbekgliaedigaa
open Go.RowKit

/-- The net shows S1, the document's S2. -/
structure Two (w : World) (p q l1 : Nat) (S1 : List (Int × List Nat)) (l2 : Nat) (S2 : List (Int × List Nat)) (wr : World) : Prop where
  net : NetS w.heap.size 0 wr p l1 S1
  ref : RefS w wr q l2 S2
  below : Below w.heap.size w wr
  le : w.heap.size ≤ q
theorem RefS.nchg {w0 w w' : World} {q last B : Nat} {S : List (Int × List Nat)} (h : RefS w0 w q last S) (hc : NChg B w w') : RefS w0 w' q last S := by
  obtain ⟨l, h1, h2⟩ := h
  exact ⟨l, h1.nchg hc, h2⟩
theorem RefS.free {w0 w : World} {q last C : Nat} {S : List (Int × List Nat)} (h : RefS w0 w q last S) : NetFree C w q := by
  obtain ⟨l, h1, -⟩ := h
  exact h1.free
theorem RefS.below {w0 w w' : World} {q last : Nat} {S : List (Int × List Nat)} (h : RefS w0 w q last S) (hb : Below w.heap.size w w') : RefS w0 w' q last S := by
  obtain ⟨l, h1, h2⟩ := h
  exact ⟨l, h1.below hb, h2⟩
section
variable {w wr w1 : World} {p q l1 l2 l1' l2' : Nat} {S1 S2 S1' S2' : List (Int × List Nat)}
theorem Two.toNet (h : Two w p q l1 S1 l2 S2 wr) (hn : NetS w.heap.size 0 w1 p l1' S1') (hc : NChg w.heap.size wr w1) : Two w p q l1' S1' l2 S2 w1 :=
  ⟨hn, h.ref.nchg hc, h.below.trans (hc.toBelow h.below.size), h.le⟩
theorem Two.toRef (h : Two w p q l1 S1 l2 S2 wr) (hr : RefS w w1 q l2' S2') (hc : Chg wr w1 (fun k => k = q)) : Two w p q l1 S1 l2' S2' w1 :=
  ⟨h.net.chg hc (fun k hk => by rw [hk]; exact h.ref.free), hr, h.below.trans (hc.below h.below.size fun k hk => by rw [hk]; exact h.le), h.le⟩
theorem Two.under (h : Two w p q l1 S1 l2 S2 wr) (hb : Below wr.heap.size wr w1) : Two w p q l1 S1 l2 S2 w1 :=
  ⟨h.net.below hb, h.ref.below hb, h.below.trans (hb.mono h.below.size), h.le⟩
theorem Two.apart (h : Two w p q l1 S1 l2 S2 wr) : Apart S1 := h.net.ids.2.1

/-- What a step keeps of the rest. -/
def Stays (wr w1 : World) (q : Nat) : Prop := ∀ (b : Nat) (cs : Array Value), b ≠ q → Blk wr b 107 cs → Blk w1 b 107 cs
theorem Stays.net {B : Nat} (hc : NChg B wr w1) : Stays wr w1 q := fun _ _ _ hb => hc.blk hb (by decide) (by decide)
theorem Stays.ref (hc : Chg wr w1 (fun k => k = q)) : Stays wr w1 q := fun _ _ hne hb => hc.blk hb hne
theorem Stays.refl (wr : World) : Stays wr wr q := fun _ _ _ hb => hb

theorem Stays.trans {w2 : World} (h : Stays wr w1 q) (g : Stays w1 w2 q) : Stays wr w2 q := fun b cs hne hb => g b cs hne (h b cs hne hb)
theorem Stays.drew (wr : World) : Stays wr wr.drew q := fun _ _ _ hb => hb
/-- The worlds in which the step's own box stands. -/
def After (ws : World) (q : Nat) : Type := { w' : World // Stays ws w' q }
instance After.nonempty (ws : World) (q : Nat) : Nonempty (After ws q) := ⟨⟨ws, Stays.refl ws⟩⟩
def after (ws : World) (q : Nat) : World → Prop := fun w' => ∃ x : After ws q, w' = x.1
theorem after_of {ws w' : World} (h : Stays ws w' q) : after ws q w' := ⟨⟨w', h⟩, rfl⟩

theorem two.sendN (h : Two w p q l1 S1 l2 S2 wr) (hlast : l1 ≤ 100000) (X : Option Addr) (m c : Nat) (L : List Nat) (hl : L.length = m) (hm : m ≤ 1000000) (hat : At w X m (byteAt L)) :
    Calls Try.prog 55 #[.pointer (some ⟨p, 0, none⟩), .slice X m c] wr fun e w' => e = .returned (.int .i64 ((l1 : Int) + 1)) ∧ Two w p q (l1 + 1) (S1 ++ [((l1 : Int) + 1, L)]) l2 S2 w' ∧ Stays wr w' q := by
  refine (net.sendS _ 0 p l1 S1 X m c L wr h.net (by omega) (Nat.zero_le _) hl hm (hat.below h.below (Nat.le_refl _))).mono ?_
  rintro e w' ⟨rfl, h1, h2⟩
  exact ⟨rfl, h.toNet h1 h2, .net h2⟩
theorem two.sendR (h : Two w p q l1 S1 l2 S2 wr) (hlast : l2 ≤ 100000) (X : Option Addr) (m c : Nat) (L : List Nat) (hl : L.length = m) (hm : m ≤ 1000000) (hat : At w X m (byteAt L)) :
    Calls Try.prog 63 #[.pointer (some ⟨q, 0, none⟩), .slice X m c] wr fun e w' => e = .returned (.int .i64 ((l2 : Int) + 1)) ∧ Two w p q l1 S1 (l2 + 1) (S2 ++ [((l2 : Int) + 1, L)]) w' ∧ Stays wr w' q := by
  refine (ref.sendS w q l2 S2 X m c L wr h.ref (by omega) hl hm hat).mono ?_
  rintro e w' ⟨rfl, h1, h2⟩
  exact ⟨rfl, h.toRef h1 h2, .ref h2⟩

/-- What is taken, and the answer. -/
def TakeIs (S : List (Int × List Nat)) (a : Int) (E : Int) (L : List Nat) : Prop := (E = 0 ∧ (a, L) ∈ S) ∨ (E = 5 ∧ L = [] ∧ ∀ y ∈ S, y.1 ≠ a)
theorem take_is (S : List (Int × List Nat)) (a : Int) : ∃ E L, TakeIs S a E L := by
  by_cases h : ∃ L, (a, L) ∈ S
  · obtain ⟨L, h⟩ := h
    exact ⟨0, L, .inl ⟨rfl, h⟩⟩
  · exact ⟨5, [], .inr ⟨rfl, rfl, fun y hy e => h ⟨y.2, by rw [← e]; exact hy⟩⟩⟩
theorem filter_none {S : List (Int × List Nat)} {a : Int} (h : ∀ y ∈ S, y.1 ≠ a) : (S.filter fun y => decide (y.1 ≠ a)) = S := List.filter_eq_self.2 fun y hy => decide_eq_true (h y hy)
theorem not_free {w : World} {k n : Nat} {v : Value} {xs : List Value} (hr : w.ownsRow 0 5 1 v n xs) (hf : NetFree 0 w k) (hk : v.ownBlock = some k) : False := by
  obtain ⟨cs, T, fr, h1, -, -, h2⟩ := hf
  rcases hr.2 with ⟨rfl, _⟩ | ⟨g, cap, cur, rfl, _, hg, _⟩
  · cases hk
  · obtain rfl : g = k := by simpa [Value.ownBlock] using hk
    rw [hg] at h1
    simp only [Option.some.injEq, Obj.cells.injEq] at h1
    exact absurd (h2 h1.2.1.symm) (by omega)
theorem two.deliverN {a E : Int} {L : List Nat} (h : Two w p q l1 S1 l2 S2 wr) (hlast : l1 ≤ 100000) (ha : intOk a) (ht : TakeIs S1 a E L) :
    Calls Try.prog 57 #[.pointer (some ⟨p, 0, none⟩), .int .i64 a] wr fun e w' => ∃ A c, e = .returned (.tuple #[.slice A L.length c, .int .i64 E]) ∧ (∀ w'', Chg w' w'' (fun k => k = q) → At w'' A L.length (byteAt L)) ∧ Two w p q l1 (S1.filter fun y => decide (y.1 ≠ a)) l2 S2 w' ∧ Stays wr w' q := by
  rcases ht with ⟨rfl, hm⟩ | ⟨rfl, rfl, hno⟩
  · refine (net.deliverS _ 0 p l1 S1 a L wr h.net (by omega) hm).mono ?_
    rintro e w' ⟨v, rfl, hr, h1, h2⟩
    obtain ⟨A, c, rfl, -⟩ := own_at hr
    have h3 := h.toNet h1 h2
    exact ⟨A, c, rfl, fun w'' hc => own_bytes_at (hc.own hr fun k hk e => by
      subst e
      exact not_free hr h3.ref.free hk), h3, .net h2⟩
  · refine (net.deliver_no _ 0 p l1 S1 a wr h.net ha hno).mono ?_
    rintro e w' ⟨rfl, rfl⟩
    rw [filter_none hno]
    exact ⟨none, 0, rfl, fun _ _ hh => absurd hh (by simp), h, .refl _⟩
theorem two.dropN {a E : Int} {L : List Nat} (h : Two w p q l1 S1 l2 S2 wr) (hlast : l1 ≤ 100000) (ha : intOk a) (ht : TakeIs S1 a E L) :
    Calls Try.prog 59 #[.pointer (some ⟨p, 0, none⟩), .int .i64 a] wr fun e w' => e = .returned (.int .i64 E) ∧ Two w p q l1 (S1.filter fun y => decide (y.1 ≠ a)) l2 S2 w' ∧ Stays wr w' q := by
  rcases ht with ⟨rfl, hm⟩ | ⟨rfl, rfl, hno⟩
  · refine (net.dropS _ 0 p l1 S1 a L wr h.net (by omega) hm).mono ?_
    rintro e w' ⟨rfl, h1, h2⟩
    exact ⟨rfl, h.toNet h1 h2, .net h2⟩
  · refine (net.drop_no _ 0 p l1 S1 a wr h.net ha hno).mono ?_
    rintro e w' ⟨rfl, rfl⟩
    rw [filter_none hno]
    exact ⟨rfl, h, .refl _⟩
theorem two.takeR {a E : Int} {L : List Nat} (h : Two w p q l1 S1 l2 S2 wr) (hlast : l2 ≤ 100000) (hp : Apart S2) (ht : TakeIs S2 a E L) :
    Calls Try.prog 64 #[.pointer (some ⟨q, 0, none⟩), .int .i64 a] wr fun e w' => ∃ A c, e = .returned (.tuple #[.slice A L.length c, .int .i64 E]) ∧ At w' A L.length (byteAt L) ∧ Two w p q l1 S1 l2 (S2.filter fun y => decide (y.1 ≠ a)) w' ∧ Stays wr w' q ∧ Chg wr w' (fun k => k = q) := by
  rcases ht with ⟨rfl, hm⟩ | ⟨rfl, rfl, hno⟩
  · refine (ref.takeS w q l2 S2 a L wr h.ref (by omega) hp hm).mono ?_
    rintro e w' ⟨A, m, c, rfl, rfl, hat, h1, h2⟩
    have h3 := h.toRef h1 h2
    exact ⟨A, c, rfl, hat.below h3.below (Nat.le_refl _), h3, .ref h2, h2⟩
  · refine (ref.take_noS w q l2 S2 a wr h.ref (by omega) hno).mono ?_
    rintro e w' ⟨rfl, rfl⟩
    rw [filter_none hno]
    exact ⟨none, 0, rfl, fun hh => absurd hh (by simp), h, .refl _, Chg.refl _ _⟩

/-- What is doubled, and the answer. -/
def DblIs (S : List (Int × List Nat)) (last : Nat) (a N E : Int) (last' : Nat) (S' : List (Int × List Nat)) : Prop :=
  (∃ L, (a, L) ∈ S ∧ N = (last : Int) + 1 ∧ E = 0 ∧ last' = last + 1 ∧ S' = S ++ [((last : Int) + 1, L)]) ∨ ((∀ y ∈ S, y.1 ≠ a) ∧ N = 0 ∧ E = 5 ∧ last' = last ∧ S' = S)
theorem dbl_is (S : List (Int × List Nat)) (last : Nat) (a : Int) : ∃ N E last' S', DblIs S last a N E last' S' ∧ last' ≤ last + 1 := by
  by_cases h : ∃ L, (a, L) ∈ S
  · obtain ⟨L, h⟩ := h
    exact ⟨_, _, _, _, .inl ⟨L, h, rfl, rfl, rfl, rfl⟩, Nat.le_refl _⟩
  · exact ⟨_, _, _, _, .inr ⟨fun y hy e => h ⟨y.2, by rw [← e]; exact hy⟩, rfl, rfl, rfl, rfl⟩, by omega⟩
theorem two.doubleN {a N E : Int} (h : Two w p q l1 S1 l2 S2 wr) (hlast : l1 ≤ 100000) (ha : intOk a) (ht : DblIs S1 l1 a N E l1' S1') :
    Calls Try.prog 56 #[.pointer (some ⟨p, 0, none⟩), .int .i64 a] wr fun e w' => e = .returned (.tuple #[.int .i64 N, .int .i64 E]) ∧ Two w p q l1' S1' l2 S2 w' ∧ Stays wr w' q := by
  rcases ht with ⟨L, hm, rfl, rfl, rfl, rfl⟩ | ⟨hno, rfl, rfl, rfl, rfl⟩
  · refine (net.doubleS _ 0 p l1 S1 a L wr h.net (by omega) (Nat.zero_le _) hm).mono ?_
    rintro e w' ⟨rfl, h1, h2⟩
    exact ⟨rfl, h.toNet h1 h2, .net h2⟩
  · refine (net.double_no _ 0 p l1' S1' a wr h.net ha hno).mono ?_
    rintro e w' ⟨rfl, rfl⟩
    exact ⟨rfl, h, .refl _⟩
theorem two.doubleR {a N E : Int} (h : Two w p q l1 S1 l2 S2 wr) (hlast : l2 ≤ 100000) (hp : Apart S2) (ht : DblIs S2 l2 a N E l2' S2') :
    Calls Try.prog 65 #[.pointer (some ⟨q, 0, none⟩), .int .i64 a] wr fun e w' => e = .returned (.tuple #[.int .i64 N, .int .i64 E]) ∧ Two w p q l1 S1 l2' S2' w' ∧ Stays wr w' q := by
  rcases ht with ⟨L, hm, rfl, rfl, rfl, rfl⟩ | ⟨hno, rfl, rfl, rfl, rfl⟩
  · refine (ref.doubleS w q l2 S2 a L wr h.ref (by omega) hp hm).mono ?_
    rintro e w' ⟨rfl, h1, h2⟩
    exact ⟨rfl, h.toRef h1 h2, .ref h2⟩
  · refine (ref.double_noS w q l2' S2' a wr h.ref (by omega) hno).mono ?_
    rintro e w' ⟨rfl, rfl⟩
    exact ⟨rfl, h, .refl _⟩

/-- What changes places, and the answer. -/
def SwpIs (S : List (Int × List Nat)) (a b E : Int) (S' : List (Int × List Nat)) : Prop :=
  (∃ L M, (a, L) ∈ S ∧ (b, M) ∈ S ∧ E = 0 ∧ S' = S.map (net.tr a L b M)) ∨ (((∀ y ∈ S, y.1 ≠ a) ∨ (∀ y ∈ S, y.1 ≠ b)) ∧ E = 5 ∧ S' = S)
theorem swp_is (S : List (Int × List Nat)) (a b : Int) : ∃ E S', SwpIs S a b E S' := by
  by_cases h : ∃ L, (a, L) ∈ S
  · obtain ⟨L, h⟩ := h
    by_cases g : ∃ M, (b, M) ∈ S
    · obtain ⟨M, g⟩ := g
      exact ⟨_, _, .inl ⟨L, M, h, g, rfl, rfl⟩⟩
    · exact ⟨_, _, .inr ⟨.inr fun y hy e => g ⟨y.2, by rw [← e]; exact hy⟩, rfl, rfl⟩⟩
  · exact ⟨_, _, .inr ⟨.inl fun y hy e => h ⟨y.2, by rw [← e]; exact hy⟩, rfl, rfl⟩⟩
theorem two.swapN {a b E : Int} (h : Two w p q l1 S1 l2 S2 wr) (hlast : l1 ≤ 100000) (ha : intOk a) (hb : intOk b) (ht : SwpIs S1 a b E S1') :
    Calls Try.prog 60 #[.pointer (some ⟨p, 0, none⟩), .int .i64 a, .int .i64 b] wr fun e w' => e = .returned (.int .i64 E) ∧ Two w p q l1 S1' l2 S2 w' ∧ Stays wr w' q := by
  rcases ht with ⟨L, M, hl, hm, rfl, rfl⟩ | ⟨hno, rfl, rfl⟩
  · refine (net.swapS _ 0 p l1 S1 a b L M wr h.net (by omega) hl hm).mono ?_
    rintro e w' ⟨rfl, h1, h2⟩
    exact ⟨rfl, h.toNet h1 h2, .net h2⟩
  · refine (net.swap_no _ 0 p l1 S1' a b wr h.net (by omega) ha hb hno).mono ?_
    rintro e w' ⟨rfl, rfl⟩
    exact ⟨rfl, h, .refl _⟩
theorem two.swapR {a b E : Int} (h : Two w p q l1 S1 l2 S2 wr) (hlast : l2 ≤ 100000) (hp : Apart S2) (ht : SwpIs S2 a b E S2') :
    Calls Try.prog 66 #[.pointer (some ⟨q, 0, none⟩), .int .i64 a, .int .i64 b] wr fun e w' => e = .returned (.int .i64 E) ∧ Two w p q l1 S1 l2 S2' w' ∧ Stays wr w' q := by
  rcases ht with ⟨L, M, hl, hm, rfl, rfl⟩ | ⟨hno, rfl, rfl⟩
  · refine (ref.swapS w q l2 S2 a b L M wr h.ref (by omega) hp hl hm).mono ?_
    rintro e w' ⟨rfl, h1, h2⟩
    exact ⟨rfl, h.toRef h1 h2, .ref h2⟩
  · refine (ref.swap_noS w q l2 S2' a b wr h.ref (by omega) hno).mono ?_
    rintro e w' ⟨rfl, rfl⟩
    exact ⟨rfl, h, .refl _⟩
theorem two.shows (h : Two w p q l1 S1 l2 S1 wr) (hlast : l1 ≤ 100000) (hlast2 : l2 ≤ 100000) (most : Int) (hm : 0 ≤ most) :
    Calls Try.prog 67 #[.pointer (some ⟨p, 0, none⟩), .pointer (some ⟨q, 0, none⟩), .int .i64 most] wr fun e w' => e = .returned (.bool true) ∧ Two w p q l1 S1 l2 S1 w' := by
  refine (law23.shows w _ p q l1 l2 S1 most wr h.net h.ref hlast hlast2 h.below hm).mono ?_
  rintro e w' ⟨rfl, hb⟩
  exact ⟨rfl, h.under hb⟩
end
end Go.Proofs.Ytbbekgliaedigaa

/- producer: rows and tables in memory; contracts of all and next. -/
import Derived.Test.YtgkocnnkknodhaaPlan
import Derived.Test.YtgkocnnkknodhaaMapG
namespace Go.Proofs.Ytgkocnnkknodhaa
open Go.RowKit

/-- A batch that came; a producer's row. -/
structure Sent where
  seq : Int
  count : Int
  base : Int
deriving DecidableEq
structure PRow where
  epoch : Int
  last : List Sent
def Sent.fit (s : Sent) : Prop := 0 ≤ s.seq ∧ s.seq ≤ 4611686018427387904 ∧ 0 ≤ s.count ∧ s.count ≤ 1099511627776 ∧ intOk s.base
def Sent.next (s : Sent) : Int := s.seq + s.count
def sentCells (l : List Sent) : List Value := l.flatMap fun s => [.int .i64 s.seq, .int .i64 s.count, .int .i64 s.base]
theorem sentCells_length (l : List Sent) : (sentCells l).length = l.length * 3 := by
  induction l with
  | nil => rfl
  | cons a r ih => simp only [sentCells, List.flatMap_cons, List.length_append, List.length_cons, List.length_nil] at *; omega
theorem sentCells_at (l : List Sent) (k : Nat) (s : Sent) (h : l[k]? = some s) :
    (sentCells l)[k * 3]? = some (.int .i64 s.seq) ∧ (sentCells l)[k * 3 + 1]? = some (.int .i64 s.count) ∧ (sentCells l)[k * 3 + 2]? = some (.int .i64 s.base) := by
  induction l generalizing k with
  | nil => simp at h
  | cons a r ih =>
    cases k with
    | zero => obtain rfl : a = s := by simpa using h
              exact ⟨rfl, rfl, rfl⟩
    | succ k =>
      have := ih k (by simpa using h)
      have e : sentCells (a :: r) = .int .i64 a.seq :: .int .i64 a.count :: .int .i64 a.base :: sentCells r := rfl
      rw [e, show (k + 1) * 3 = k * 3 + 3 by omega, show k * 3 + 3 + 1 = k * 3 + 1 + 3 by omega, show k * 3 + 3 + 2 = k * 3 + 2 + 3 by omega]
      simpa using this
theorem sentCells_append (l r : List Sent) : sentCells (l ++ r) = sentCells l ++ sentCells r := by simp [sentCells]
def sentAt (l : List Sent) (j : Nat) : Value := (sentCells l).getD j undef
theorem sentAt_at {l : List Sent} {k : Nat} {s : Sent} (h : l[k]? = some s) : sentAt l (k * 3) = .int .i64 s.seq ∧ sentAt l (k * 3 + 1) = .int .i64 s.count ∧ sentAt l (k * 3 + 2) = .int .i64 s.base := by
  obtain ⟨h1, h2, h3⟩ := sentCells_at l k s h
  simp [sentAt, List.getD, h1, h2, h3]
/-- The cells of element k. -/
theorem At.sent {w : World} {A : Option Addr} {l : List Sent} (h : At w A (l.length * 3) (sentAt l)) {k : Nat} {s : Sent} (hk : l[k]? = some s) :
    ∃ b off, A = some ⟨b, off, none⟩ ∧ b < w.heap.size ∧ w.cell? ⟨b, off + k * 3, none⟩ = some (.int .i64 s.seq) ∧ w.cell? ⟨b, off + k * 3 + 1, none⟩ = some (.int .i64 s.count) ∧ w.cell? ⟨b, off + k * 3 + 2, none⟩ = some (.int .i64 s.base) := by
  have hlt : k < l.length := (List.getElem?_eq_some_iff.1 hk).1
  obtain ⟨b, off, h1, h2, h3⟩ := h (by omega)
  obtain ⟨q1, q2, q3⟩ := sentAt_at hk
  refine ⟨b, off, h1, h2, ?_, ?_, ?_⟩
  · rw [h3 _ (by omega), q1]
  · rw [Nat.add_assoc, h3 _ (by omega), q2]
  · rw [Nat.add_assoc, h3 _ (by omega), q3]

/-- A row's value. -/
def rowVal (r : PRow) (v : Value) : Value := .agg #[.int .i64 r.epoch, v]
/-- A row is as rows are. -/
structure PRow.fit (r : PRow) : Prop where
  epoch : intOk r.epoch
  one : 0 < r.last.length
  five : r.last.length ≤ 5
  each : ∀ s ∈ r.last, s.fit

/-- Where the rows lie: each in a block of its own. -/
structure RowsAt (w : World) (gv : Int → Option Value) (g : Int → Option PRow) (Bs : Nat → Prop) : Prop where
  none' : ∀ x, intOk x → (gv x = none ↔ g x = none)
  row : ∀ x r, intOk x → g x = some r → r.fit ∧ ∃ v, gv x = some (rowVal r v) ∧ w.ownsRow 0 143 3 v r.last.length (sentCells r.last) ∧ ∀ k, v.ownBlock = some k → Bs k
  apart : ∀ x y r r' v v', intOk x → intOk y → x ≠ y → gv x = some (rowVal r v) → gv y = some (rowVal r' v') → ∀ k, v.ownBlock = some k → v'.ownBlock ≠ some k

/-- At t lies a table of N rows; Bs holds its blocks. -/
def PTab (w : World) (t N : Nat) (g : Int → Option PRow) (Bs : Nat → Prop) : Prop :=
  ∃ b gv, Blk w t 136 #[.map (some b)] ∧ GM intKey w b N gv ∧ RowsAt w gv g Bs ∧ Bs t ∧ Bs b

theorem RowsAt.chg {w w' : World} {gv : Int → Option Value} {g : Int → Option PRow} {Bs P : Nat → Prop} (h : RowsAt w gv g Bs) (hc : Chg w w' P) (hp : ∀ k, k < w.heap.size → P k → ¬ Bs k) : RowsAt w' gv g Bs := by
  refine ⟨h.none', fun x r hx hr => ?_, h.apart⟩
  obtain ⟨h1, v, h2, h3, h4⟩ := h.row x r hx hr
  refine ⟨h1, v, h2, ?_, h4⟩
  refine hc.own h3 fun k hk hpk => ?_
  exact hp k (h3.lt k hk).2 hpk (h4 k hk)
theorem PTab.chg {w w' : World} {t N : Nat} {g : Int → Option PRow} {Bs P : Nat → Prop} (h : PTab w t N g Bs) (hc : Chg w w' P) (hp : ∀ k, k < w.heap.size → P k → ¬ Bs k) : PTab w' t N g Bs := by
  obtain ⟨b, gv, h1, h2, h3, h4, h5⟩ := h
  exact ⟨b, gv, hc.blk h1 fun q => hp t h1.lt q h4, h2.chg hc fun q => hp b h2.lt q h5, h3.chg hc hp, h4, h5⟩
theorem PTab.mono {w : World} {t N : Nat} {g : Int → Option PRow} {Bs Bs' : Nat → Prop} (h : PTab w t N g Bs) (hb : ∀ k, Bs k → Bs' k) : PTab w t N g Bs' := by
  obtain ⟨b, gv, h1, h2, h3, h4, h5⟩ := h
  refine ⟨b, gv, h1, h2, ⟨h3.none', fun x r hx hr => ?_, h3.apart⟩, hb t h4, hb b h5⟩
  obtain ⟨q1, v, q2, q3, q4⟩ := h3.row x r hx hr
  exact ⟨q1, v, q2, q3, fun k hk => hb k (q4 k hk)⟩
theorem PTab.below {w w' : World} {t N : Nat} {g : Int → Option PRow} {Bs : Nat → Prop} (h : PTab w t N g Bs) (hc : Below w.heap.size w w') : PTab w' t N g Bs := h.chg (chg_of (P := fun _ => False) hc) fun _ _ q => q.elim
theorem PTab.lt {w : World} {t N : Nat} {g : Int → Option PRow} {Bs : Nat → Prop} (h : PTab w t N g Bs) : t < w.heap.size := by
  obtain ⟨b, gv, h1, _⟩ := h
  exact h1.lt
theorem PTab.drew {w : World} {t N : Nat} {g : Int → Option PRow} {Bs : Nat → Prop} (h : PTab w t N g Bs) (q : Nat) : PTab (w.drewN q) t N g Bs := h.chg (P := fun _ => False) ((Chg.refl _ _).drewN q) fun _ _ q => q.elim

/-- A table, a nil one too: p is its pointer. -/
def PTabN (w : World) (p : Option Addr) (N : Nat) (g : Int → Option PRow) (Bs : Nat → Prop) : Prop :=
  match p with
  | none => N = 0 ∧ ∀ x, g x = none
  | some a => ∃ t, a = ⟨t, 0, none⟩ ∧ PTab w t N g Bs
/-- What 'all' gives. -/
def PMap (w : World) (mb : Option Nat) (N : Nat) (g : Int → Option PRow) (Bs : Nat → Prop) : Prop := ∃ gv, OMap intKey w mb N gv ∧ RowsAt w gv g Bs
theorem PTabN.map {w : World} {p : Option Addr} {N : Nat} {g : Int → Option PRow} {Bs : Nat → Prop} (h : PTabN w p N g Bs) : ∃ mb, PMap w mb N g Bs ∧ (p = none ∧ mb = none ∨ ∃ t, p = some ⟨t, 0, none⟩ ∧ Blk w t 136 #[.map mb]) := by
  cases p with
  | none => exact ⟨none, ⟨fun _ => none, ⟨h.1, fun _ => rfl⟩, ⟨fun x _ => (by simp [h.2 x]), fun x r _ hr => absurd (hr.symm.trans (h.2 x)) (by simp), fun x y r r' v v' _ _ _ q => nomatch q⟩⟩, .inl ⟨rfl, rfl⟩⟩
  | some a =>
    obtain ⟨t, rfl, b, gv, h1, h2, h3, -, -⟩ := h
    exact ⟨some b, ⟨gv, h2, h3⟩, .inr ⟨t, rfl, h1⟩⟩

theorem prod.all_any (p : Option Addr) (mb : Option Nat) (w : World) (h : p = none ∧ mb = none ∨ ∃ t, p = some ⟨t, 0, none⟩ ∧ Blk w t 136 #[.map mb]) :
    Calls Try.prog 81 #[.pointer p] w fun e w' => e = .returned (.map mb) ∧ w = w' := by
  rcases h with ⟨rfl, rfl⟩ | ⟨t, rfl, hb⟩
  · go_enter Try.func81, Try.ntmps81
    go_wp2
    go_ret
    exact ⟨rfl, rfl⟩
  · have hc := hb.cell 0 rfl
    clear hb
    go_enter Try.func81, Try.ntmps81
    go_wp2
    go_ret
    exact ⟨rfl, rfl⟩

theorem prod.next_any (ep : Int) (A : Option Addr) (c : Nat) (l : List Sent) (x : Sent) (w : World) (hl : l.getLast? = some x) (hat : At w A (l.length * 3) (sentAt l)) (hf : x.fit) (h5 : l.length ≤ 1000000) :
    Calls Try.prog 82 #[.agg #[.int .i64 ep, .slice A l.length c]] w fun e w' => e = .returned (.int .i64 x.next) ∧ Below w.heap.size w w' := by
  have hne : 0 < l.length := by
    cases l with
    | nil => simp at hl
    | cons _ _ => simp
  obtain ⟨k, hk⟩ : ∃ k, l.length = k + 1 := ⟨l.length - 1, by omega⟩
  rw [List.getLast?_eq_getElem?, show l.length - 1 = k by omega] at hl
  obtain ⟨b, off, rfl, hb, h0, h1, h2⟩ := hat.sent hl
  obtain ⟨f1, f2, f3, f4, f5⟩ := hf
  have e1 : (((k + 1 : Nat) : Int) - 1) = (k : Int) := by omega
  rw [hk]
  unfold Sent.next
  clear hat hl hne
  have hk5 : k < 1000000 := by omega
  clear hk
  obtain ⟨s, n, bb⟩ := x
  dsimp only at *
  go_enter Try.func82, Try.ntmps82
  go_wp2
  go_ret
  refine ⟨rfl, ?_⟩
  go_grown
end Go.Proofs.Ytgkocnnkknodhaa

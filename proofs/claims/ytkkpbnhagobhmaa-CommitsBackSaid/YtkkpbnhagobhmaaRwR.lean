/- Rows of records laid since: what they lean on. No function of the program is named. -/
import Derived.Test.YtkkpbnhagobhmaaEch
import Derived.Test.YtkkpbnhagobhmaaBats
import Derived.Test.YtkkpbnhagobhmaaConv
namespace Go.Proofs.Ytkkpbnhagobhmaa
open Go.RowKit

/-- A key or a value in a block laid since, which is not the row's. -/
def KeyR (w : World) (B : Nat) (v kv : Value) (L : List Nat) : Prop := BytesV w kv L ∧ ∀ g, kv.ownBlock = some g → B ≤ g ∧ g < w.heap.size ∧ v.ownBlock ≠ some g
def CellsR (w : World) (B : Nat) (v : Value) (cs : List Value) (r : Rec) : Prop :=
  ∃ kv vv, cs = [.int .i64 r.off, .int .i64 r.time, .bool r.hasKey, kv, .bool r.hasVal, vv] ∧ KeyR w B v kv r.key ∧ KeyR w B v vv r.val ∧ i64ok r.off ∧ i64ok r.time
/-- A row of records, all of it laid since B. -/
def RowR (w : World) (B : Nat) (v : Value) (rs : List Rec) : Prop :=
  ∃ xs, w.ownsRow B 37 6 v rs.length xs ∧ ∀ (i : Nat) (r : Rec), rs[i]? = some r → CellsR w B v ((List.range 6).map fun j => xs.getD (i * 6 + j) undef) r

theorem KeyR.chg {w w' : World} {B : Nat} {v kv : Value} {L : List Nat} {P : Nat → Prop} (h : KeyR w B v kv L) (hc : Chg w w' P) (hp : ∀ g, kv.ownBlock = some g → g < w.heap.size → ¬ P g) : KeyR w' B v kv L := by
  obtain ⟨⟨A, c, rfl, h1, h2, h3, h4⟩, h5⟩ := h
  refine ⟨⟨A, c, rfl, hc.at' h1 fun h0 b off hb hh => ?_, h2, h3, h4⟩, fun g hg => ⟨(h5 g hg).1, Nat.lt_of_lt_of_le (h5 g hg).2.1 hc.size, (h5 g hg).2.2⟩⟩
  obtain ⟨b', off', e1, e2, -⟩ := h1 h0
  rw [hb] at e1
  obtain ⟨rfl, rfl⟩ : b = b' ∧ off = off' := by simpa using e1
  exact hp b (by rw [hb]; rfl) e2 hh
theorem RowR.chg {w w' : World} {B : Nat} {v : Value} {rs : List Rec} {P : Nat → Prop} (h : RowR w B v rs) (hc : Chg w w' P) (hp : ∀ g, B ≤ g → g < w.heap.size → ¬ P g) : RowR w' B v rs := by
  obtain ⟨xs, h1, h2⟩ := h
  refine ⟨xs, hc.own h1 fun k hk => hp k (h1.lt k hk).1 (h1.lt k hk).2, fun i r hr => ?_⟩
  obtain ⟨kv, vv, e, k1, k2, k3⟩ := h2 i r hr
  exact ⟨kv, vv, e, k1.chg hc fun g hg hl => hp g (k1.2 g hg).1 hl, k2.chg hc fun g hg hl => hp g (k2.2 g hg).1 hl, k3⟩
theorem RowR.below {w w' : World} {B : Nat} {v : Value} {rs : List Rec} (h : RowR w B v rs) (hb : Below w.heap.size w w') : RowR w' B v rs :=
  h.chg (chg_of (P := fun _ => False) hb) fun _ _ _ q => q
theorem RowR.nil (w : World) (B : Nat) : RowR w B (.slice none 0 0) [] := ⟨[], World.ownsRow_nil _ _ _ _, fun i r h => by cases h⟩
theorem RowR.recsV {w : World} {B : Nat} {v : Value} {rs : List Rec} (h : RowR w B v rs) : ∃ A c, v = .slice A rs.length c ∧ RecsV w (.slice A rs.length c) rs := by
  obtain ⟨xs, h1, h2⟩ := h
  obtain ⟨A, c, rfl, hc, hat⟩ := own_at h1
  refine ⟨A, c, rfl, A, c, _, rfl, hc, own_cap h1, hat, fun i r hr => ?_⟩
  obtain ⟨kv, vv, e, k1, k2, k3, k4⟩ := h2 i r hr
  exact ⟨kv, vv, e, k1.1, k2.1, k3, k4⟩
theorem RowR.up {w : World} {B B' : Nat} {v : Value} {rs : List Rec} (h : RowR w B v rs) (hb : B' ≤ B) : RowR w B' v rs := by
  obtain ⟨xs, h1, h2⟩ := h
  refine ⟨xs, ownsRow_base h1 hb, fun i r hr => ?_⟩
  obtain ⟨kv, vv, e, k1, k2, k3⟩ := h2 i r hr
  exact ⟨kv, vv, e, ⟨k1.1, fun g hg => ⟨Nat.le_trans hb (k1.2 g hg).1, (k1.2 g hg).2⟩⟩, ⟨k2.1, fun g hg => ⟨Nat.le_trans hb (k2.2 g hg).1, (k2.2 g hg).2⟩⟩, k3⟩

/-- One record more. -/
theorem RowR.append {w w' : World} {B : Nat} {v v' : Value} {rs : List Rec} {xs : List Value} {r : Rec} {kv vv : Value}
    (h2 : ∀ (i : Nat) (r : Rec), rs[i]? = some r → CellsR w B v ((List.range 6).map fun j => xs.getD (i * 6 + j) undef) r) (hl : xs.length = rs.length * 6)
    (hk : KeyR w B v kv r.key) (hv : KeyR w B v vv r.val) (ho : i64ok r.off) (ht : i64ok r.time)
    (hown : w'.ownsRow B 37 6 v' (rs.length + 1) (xs ++ [.int .i64 r.off, .int .i64 r.time, .bool r.hasKey, kv, .bool r.hasVal, vv])) (hg : w.grownBy w' v.ownBlock) (hlies : Lies w v v') : RowR w' B v' (rs ++ [r]) := by
  have hkey : ∀ {u : Value} {L : List Nat}, KeyR w B v u L → KeyR w' B v' u L := by
    intro u L q
    obtain ⟨⟨A, c, rfl, q1, q2, q3, q4⟩, q5⟩ := q
    refine ⟨⟨A, c, rfl, (Chg.grown hg).at' q1 fun _ b off e hh => (q5 b (by rw [e]; rfl)).2.2 hh, q2, q3, q4⟩, fun g hgg => ⟨(q5 g hgg).1, Nat.lt_of_lt_of_le (q5 g hgg).2.1 hg.size, ?_⟩⟩
    rcases hlies with e | e
    · rw [e]; exact (q5 g hgg).2.2
    · rw [e]
      intro hh
      have h1 : w.heap.size = g := by simpa using hh
      have := (q5 g hgg).2.1
      omega
  refine ⟨_, by rw [List.length_append]; exact hown, fun i x hx => ?_⟩
  by_cases hi : i < rs.length
  · rw [List.getElem?_append_left hi] at hx
    obtain ⟨k1, k2, e, g1, g2, g3⟩ := h2 i x hx
    refine ⟨k1, k2, ?_, hkey g1, hkey g2, g3⟩
    rw [← e]
    refine List.map_congr_left fun j hj => ?_
    have hj : j < 6 := by simpa using hj
    simp only [List.getD]
    rw [List.getElem?_append_left (by omega)]
  · have hi2 : i = rs.length := by
      have := (List.getElem?_eq_some_iff.1 hx).1
      rw [List.length_append] at this
      simp at this
      omega
    subst hi2
    obtain rfl : r = x := by simpa using hx
    refine ⟨kv, vv, ?_, hkey hk, hkey hv, ho, ht⟩
    simp only [List.range, List.range.loop, List.map_cons, List.map_nil, List.getD]
    rw [List.getElem?_append_right (by omega), List.getElem?_append_right (by omega), List.getElem?_append_right (by omega), List.getElem?_append_right (by omega), List.getElem?_append_right (by omega), List.getElem?_append_right (by omega)]
    simp [hl]

/-- A row of records leans on blocks laid since B0. -/
theorem RowR.dep {V : World} {B0 : Nat} {v : Value} {rs : List Rec} (h : RowR V B0 v rs) : Dep (fun k => B0 ≤ k ∧ k < V.heap.size) V (fun W => RecsV W v rs) := by
  obtain ⟨xs, h1, h2⟩ := h
  refine ⟨fun k => (B0 ≤ k ∧ k < V.heap.size) ∧ CellsB V k, fun k hk => hk, fun W' hv hs => ?_⟩
  have hat : ∀ {A : Option Addr} {n : Nat} {f : Nat → Value}, At V A n f → (0 < n → ∀ b off, A = some ⟨b, off, none⟩ → B0 ≤ b ∧ b < V.heap.size) → At W' A n f := fun {A n f} ha hz hn => by
    obtain ⟨b, off, hA, hb, hc⟩ := ha hn
    exact ⟨b, off, hA, Nat.lt_of_lt_of_le hb hs, fun j hj => (World.cell?_of_block (hv b ⟨hz hn b off hA, .of_cell (hc 0 hn)⟩)).trans (hc j hj)⟩
  obtain ⟨A, c, rfl, hc, ha⟩ := own_at h1
  refine ⟨A, c, _, rfl, hc, own_cap h1, hat ha fun _ b off e => h1.lt b (by rw [e]; rfl), fun i r hr => ?_⟩
  obtain ⟨kv, vv, e, ⟨⟨A1, c1, rfl, k1, k2, k3, k4⟩, k5⟩, ⟨⟨A2, c2, rfl, m1, m2, m3, m4⟩, m5⟩, q1, q2⟩ := h2 i r hr
  exact ⟨_, _, e, ⟨A1, c1, rfl, hat k1 fun _ b off e => by have := k5 b (by rw [e]; rfl); omega, k2, k3, k4⟩, ⟨A2, c2, rfl, hat m1 fun _ b off e => by have := m5 b (by rw [e]; rfl); omega, m2, m3, m4⟩, q1, q2⟩

end Go.Proofs.Ytkkpbnhagobhmaa

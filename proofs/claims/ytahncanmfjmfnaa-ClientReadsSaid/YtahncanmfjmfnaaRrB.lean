/- The reference of chapter 5: a record is read. -/
import Derived.Test.YtahncanmfjmfnaaRrA
namespace Go.Proofs.Ytahncanmfjmfnaa
open Go.RowKit

/-- What the reference's readRecord reads. -/
def rr.rec (first base : Int) (L : List Nat) : Option Rec :=
  if (dec.num L).2.2 = false then none else
  if (dec.num (dec.num L).2.1).2.2 = false then none else
  if (dec.num L).1 < -1125899906842624 ∨ 1125899906842624 < (dec.num L).1 ∨ (dec.num (dec.num L).2.1).1 < 0 ∨ 4611686018427387904 < (dec.num (dec.num L).2.1).1 then none else
  match dec.field (dec.num (dec.num L).2.1).2.1 with
  | none => none
  | some (hk, K, R1) =>
    match dec.field R1 with
    | none => none
    | some (hv, V, R2) => if 0 < R2.length then none else some ⟨wrap64 (base + (dec.num (dec.num L).2.1).1), wrap64 (first + (dec.num L).1), hk, K, hv, V⟩
section
variable {first base t o : Int} {L R1 R2 R4 R5 K V : List Nat} {hk hv : Bool}
theorem rr.rec1 (h : (dec.num L).2.2 = false) : rr.rec first base L = none := by
  unfold rr.rec
  rw [if_pos h]
theorem rr.rec2 (d1 : dec.num L = (t, R1, true)) (h : (dec.num R1).2.2 = false) : rr.rec first base L = none := by
  unfold rr.rec
  simp only [d1]
  rw [if_neg (by simp), if_pos h]
theorem rr.rec3 (d1 : dec.num L = (t, R1, true)) (d2 : dec.num R1 = (o, R2, true)) (h : t < -1125899906842624 ∨ 1125899906842624 < t ∨ o < 0 ∨ 4611686018427387904 < o) : rr.rec first base L = none := by
  unfold rr.rec
  simp only [d1, d2]
  rw [if_neg (by simp), if_neg (by simp), if_pos h]
theorem rr.rec4 (d1 : dec.num L = (t, R1, true)) (d2 : dec.num R1 = (o, R2, true)) (h : ¬ (t < -1125899906842624 ∨ 1125899906842624 < t ∨ o < 0 ∨ 4611686018427387904 < o)) (f1 : dec.field R2 = none) : rr.rec first base L = none := by
  unfold rr.rec
  simp only [d1, d2, f1]
  rw [if_neg (by simp), if_neg (by simp), if_neg h]
theorem rr.rec5 (d1 : dec.num L = (t, R1, true)) (d2 : dec.num R1 = (o, R2, true)) (h : ¬ (t < -1125899906842624 ∨ 1125899906842624 < t ∨ o < 0 ∨ 4611686018427387904 < o)) (f1 : dec.field R2 = some (hk, K, R4)) (f2 : dec.field R4 = none) : rr.rec first base L = none := by
  unfold rr.rec
  simp only [d1, d2, f1, f2]
  rw [if_neg (by simp), if_neg (by simp), if_neg h]
theorem rr.rec6 (d1 : dec.num L = (t, R1, true)) (d2 : dec.num R1 = (o, R2, true)) (h : ¬ (t < -1125899906842624 ∨ 1125899906842624 < t ∨ o < 0 ∨ 4611686018427387904 < o)) (f1 : dec.field R2 = some (hk, K, R4)) (f2 : dec.field R4 = some (hv, V, R5)) :
    rr.rec first base L = if 0 < R5.length then none else some ⟨wrap64 (base + o), wrap64 (first + t), hk, K, hv, V⟩ := by
  unfold rr.rec
  simp only [d1, d2, f1, f2]
  rw [if_neg (by simp), if_neg (by simp), if_neg h]
end
theorem dec.field_no {L R : List Nat} {N : Int} {K : Bool} (hd : dec.num L = (N, R, K)) (h : K = false ∨ N < -1 ∨ (R.length : Int) < N) : dec.field L = none := by
  unfold dec.field
  simp only [hd]
  rw [if_pos h]
theorem dec.field_nil {L R : List Nat} (hd : dec.num L = (-1, R, true)) : dec.field L = some (false, [], R) := by
  unfold dec.field
  simp only [hd]
  rw [if_neg (by simp), if_pos trivial]
theorem dec.field_yes {L R : List Nat} {z : Nat} (hd : dec.num L = ((z : Int), R, true)) (hz : z ≤ R.length) : dec.field L = some (true, R.take z, R.drop z) := by
  unfold dec.field
  simp only [hd, Int.toNat_natCast]
  rw [if_neg (by simp; omega), if_neg (by omega)]

theorem ref.get_dec (A : Option Addr) (c m : Nat) (L : List Nat) (w : World) (hm : L.length = m) (hat : At w A m (byteAt L)) (hb : ∀ x ∈ L, x < 256) (hl : m ≤ 1000000) :
    Calls Try.prog 70 #[.slice A m c] w fun e w' => (∃ N R K, ∃ k : Nat, dec.num L = (N, R, K) ∧ e = .returned (.tuple #[.int .i64 N, .int .i64 (k : Int)]) ∧ ((k = 0 ∧ K = false) ∨ (1 ≤ k ∧ k ≤ m ∧ K = true ∧ R = L.drop k))) ∧ w = w' := by
  subst hm
  refine (num.refget_any A L.length c (fun j => L.getD j 0) w (by omega) hat (fun j hj => getD_all hb j hj)).mono ?_
  rintro e w' ⟨rfl, rfl⟩
  rw [show num.get (fun j => L.getD j 0) L.length = num.getL L from rfl]
  refine ⟨?_, rfl⟩
  unfold dec.num
  cases hg : num.getL L with
  | none => exact ⟨0, L, false, 0, rfl, rfl, .inl ⟨rfl, rfl⟩⟩
  | some p =>
    obtain ⟨u, k⟩ := p
    obtain ⟨h1, h2⟩ := num.getL_le hg
    exact ⟨num.zag u, L.drop k, true, k, rfl, rfl, .inr ⟨h2, h1, rfl, rfl⟩⟩

/-- Bytes that lie in blocks laid since B. -/
def Fresh (w : World) (B : Nat) (v : Value) (K : List Nat) : Prop := BytesV w v K ∧ ∀ g, v.ownBlock = some g → B ≤ g ∧ g < w.heap.size
theorem Fresh.nil (w : World) (B : Nat) : Fresh w B (.slice none 0 0) [] := ⟨⟨none, 0, rfl, At.none0 rfl, Nat.le_refl _, by unfold maxLen; omega, fun x h => by cases h⟩, fun g h => by cases h⟩
theorem Fresh.chg {w w' : World} {B : Nat} {kv : Value} {L : List Nat} {P : Nat → Prop} (h : Fresh w B kv L) (hc : Chg w w' P) (hp : ∀ g, B ≤ g → g < w.heap.size → ¬ P g) : Fresh w' B kv L := by
  obtain ⟨⟨A, c, rfl, h1, h2, h3, h4⟩, h5⟩ := h
  refine ⟨⟨A, c, rfl, hc.at' h1 fun h0 b off hb hh => ?_, h2, h3, h4⟩, fun g hg => ⟨(h5 g hg).1, Nat.lt_of_lt_of_le (h5 g hg).2 hc.size⟩⟩
  obtain ⟨b', off', e1, e2, -⟩ := h1 h0
  rw [hb] at e1
  obtain ⟨rfl, rfl⟩ : b = b' ∧ off = off' := by simpa using e1
  exact hp b (h5 b (by rw [hb]; rfl)).1 e2 hh
theorem Fresh.below {w w' : World} {B : Nat} {kv : Value} {L : List Nat} (h : Fresh w B kv L) (hb : Below w.heap.size w w') : Fresh w' B kv L :=
  h.chg (chg_of (P := fun _ => False) hb) fun _ _ _ q => q
theorem Fresh.up {w : World} {B B' : Nat} {kv : Value} {L : List Nat} (h : Fresh w B kv L) (hb : B' ≤ B) : Fresh w B' kv L := ⟨h.1, fun g hg => ⟨Nat.le_trans hb (h.2 g hg).1, (h.2 g hg).2⟩⟩
theorem Fresh.acc {w3 w : World} {v : Value} {L : List Nat} {B : Nat} (h : Acc w3 v L w) (hB : B ≤ w3.heap.size) (hb : ∀ x ∈ L, x < 256) : Fresh w B v L := by
  obtain ⟨A, c, rfl, h1, h2⟩ := h.at'
  exact ⟨⟨A, c, rfl, h2, h1, own_cap h.1, hb⟩, fun g hg => ⟨Nat.le_trans hB (h.1.lt g hg).1, (h.1.lt g hg).2⟩⟩
theorem bat.recInfo6 : (Try.prog.info? 44).map (·.size) = some 6 := by kernel_rfl
end Go.Proofs.Ytahncanmfjmfnaa

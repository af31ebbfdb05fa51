/- Contract of wire.Reader's Fixed, whatever is left. -/
import Derived.Test.YtkkpbnhagobhmaaRdA
import Derived.Laws.BitsAllLaws
import Derived.Laws.BitsLemmas
namespace Go.Proofs.Ytkkpbnhagobhmaa
open Go.RowKit

/-- The number that bytes are, the greatest first. -/
def wire.valF (n : Nat) (L : List Nat) : Nat := L.foldl (fun n x => n * 256 + x) n
def wire.val (L : List Nat) : Nat := wire.valF 0 L
theorem wire.val_snoc (L : List Nat) (x : Nat) : wire.val (L ++ [x]) = wire.val L * 256 + x := by simp [wire.val, wire.valF]
theorem wire.valF_lt : ∀ (L : List Nat) (n : Nat), (∀ x ∈ L, x < 256) → wire.valF n L + 1 ≤ (n + 1) * 256 ^ L.length := by
  intro L
  induction L with
  | nil => intro n _; simp [wire.valF]
  | cons x L ih =>
    intro n h
    have h1 := ih (n * 256 + x) fun y hy => h y (by simp [hy])
    have h2 := h x (by simp)
    have h3 : (n * 256 + x + 1) * 256 ^ L.length ≤ ((n + 1) * 256) * 256 ^ L.length := Nat.mul_le_mul_right _ (by omega)
    rw [List.length_cons, Nat.pow_succ, Nat.mul_comm (256 ^ L.length) 256, ← Nat.mul_assoc]
    exact Nat.le_trans h1 h3
theorem wire.val_lt (L : List Nat) (h : ∀ x ∈ L, x < 256) : wire.val L < 256 ^ L.length := by
  have := wire.valF_lt L 0 h
  unfold wire.val
  omega
theorem wire.or8 (n x : Nat) (hn : n < 36028797018963968) (hx : x < 256) : bits .or .i64 ((n : Int) * 256) (x : Int) = ((n * 256 + x : Nat) : Int) := by
  have e : (n : Int) * 256 = ((n * 256 : Nat) : Int) := by omega
  have h1 : (BitVec.ofInt 64 ((n * 256 : Nat) : Int)).toNat = n * 256 := by
    rw [BitVec.ofInt_natCast, BitVec.toNat_ofNat]; exact Nat.mod_eq_of_lt (by omega)
  have h2 : (BitVec.ofInt 64 (x : Int)).toNat = x := by
    rw [BitVec.ofInt_natCast, BitVec.toNat_ofNat]; exact Nat.mod_eq_of_lt (by omega)
  have h3 : n * 256 ||| x = n * 256 + x := by
    have := Nat.two_pow_add_eq_or_of_lt (i := 8) (b := x) hx n
    rw [show (2 : Nat) ^ 8 = 256 from rfl, Nat.mul_comm] at this
    exact this.symm
  rw [e]
  show IntKind.i64.wrap ((BitVec.ofInt 64 ((n * 256 : Nat) : Int) ||| BitVec.ofInt 64 (x : Int)).toNat : Int) = _
  rw [BitVec.toNat_or, h1, h2, h3, IntKind.wrap_i64]
  omega

/-- What Fixed answers, what is left, the error. -/
def rd.fbad (L : List Nat) (size : Int) : Prop := size < 1 ∨ 8 < size ∨ (L.length : Int) < size ∨ (size = 8 ∧ 128 ≤ L.getD 0 0)
instance (L : List Nat) (size : Int) : Decidable (rd.fbad L size) := by unfold rd.fbad; infer_instance
def rd.fixed (L : List Nat) (e size : Int) : Int × List Nat × Int :=
  if e ≠ 0 then (0, L, e) else if rd.fbad L size then (0, [], 2) else ((wire.val (L.take size.toNat) : Nat), L.drop size.toNat, 0)

/-- The rounds. -/
theorem wire.val_step (L : List Nat) (k : Nat) (h : k < L.length) : wire.val (L.take (k + 1)) = wire.val (L.take k) * 256 + L.getD k 0 := by
  rw [List.take_succ_eq_append_getElem h, wire.val_snoc]
  simp [List.getD, h]
theorem wire.val_bd (L : List Nat) (hb : ∀ x ∈ L, x < 256) (hl : L.length ≤ 8) (h8 : L.length = 8 → L.getD 0 0 < 128) (k : Nat) (hk : k < L.length) : wire.val (L.take k) < 36028797018963968 := by
  have h1 := wire.val_lt (L.take k) fun x hx => hb x (List.mem_of_mem_take hx)
  rw [List.length_take] at h1
  by_cases h7 : k ≤ 6
  · have : 256 ^ (min k L.length) ≤ 256 ^ 6 := Nat.pow_le_pow_right (by omega) (by omega)
    omega
  · have hk7 : k = 7 := by omega
    subst hk7
    cases L with
    | nil => simp at hk
    | cons x L =>
      have h0 : x < 128 := h8 (by omega)
      have h2 := wire.valF_lt (L.take 6) x fun y hy => hb y (by simp [List.mem_of_mem_take hy])
      have h3 : wire.val ((x :: L).take 7) = wire.valF x (L.take 6) := by simp [wire.val, wire.valF]
      have h4 : (L.take 6).length = 6 := by rw [List.length_take]; simp at hk; omega
      rw [h4] at h2
      have h5 : (x + 1) * 256 ^ 6 ≤ 128 * 256 ^ 6 := Nat.mul_le_mul_right _ (by omega)
      rw [h3]
      omega

end Go.Proofs.Ytkkpbnhagobhmaa

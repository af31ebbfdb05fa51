/- The walk of the law WireBack: it answers true, whatever the input. -/
import Derived.Test.YtfblfgnnnbcplaaWireM
import Derived.Test.YtfblfgnnnbcplaaRdL
import Derived.Test.YtfblfgnnnbcplaaRdY
namespace Go.Proofs.Ytfblfgnnnbcplaa
open Go.RowKit

theorem wire.valF_be (n : Nat) : ∀ (k acc : Nat), wire.valF acc (wire.be n k) = acc * 256 ^ k + n % 256 ^ k
  | 0, acc => by simp [wire.be, wire.valF, Nat.mod_one]
  | k + 1, acc => by
    have ih := wire.valF_be n k (acc * 256 + n / 256 ^ k % 256)
    show wire.valF (acc * 256 + n / 256 ^ k % 256) (wire.be n k) = _
    rw [ih, Nat.add_mul, Nat.mul_assoc, Nat.pow_succ, Nat.mul_comm (256 ^ k) 256, Nat.add_assoc]
    congr 1
    rw [Nat.mul_comm 256 (256 ^ k), Nat.mod_mul, Nat.add_comm, Nat.mul_comm (256 ^ k)]
theorem wire.val_be (n k : Nat) (h : n < 256 ^ k) : wire.val (wire.be n k) = n := by
  unfold wire.val
  rw [wire.valF_be, Nat.mod_eq_of_lt h]
  omega
theorem rd.fixed_be (n size : Nat) (R : List Nat) (hfit : wire.fit n size = true) (hn : (n : Int) ≤ 9223372036854775807) : rd.fixed (wire.be n size ++ R) 0 size = ((n : Int), R, (0 : Int)) := by
  obtain ⟨f0, f1, f2⟩ := fit_nat hfit
  have hl := wire.be_len n size
  have hlt : n < 256 ^ size := by
    have e : (256 : Nat) ^ size = 2 ^ (8 * size) := by rw [show (256 : Nat) = 2 ^ 8 by rfl, ← Nat.pow_mul]
    unfold wire.fit at hfit
    simp only [Bool.and_eq_true, Bool.or_eq_true, decide_eq_true_eq] at hfit
    rcases hfit.2 with h8 | h
    · have : size = 8 := by omega
      subst this
      omega
    · rw [e]
      rw [Int.toNat_natCast] at h
      have h2 : ((n : Nat) : Int) < ((2 ^ (8 * size) : Nat) : Int) := by push_cast; exact h
      omega
  have hb : ¬ rd.fbad (wire.be n size ++ R) size := by
    unfold rd.fbad
    rintro (h | h | h | ⟨h, h2⟩)
    · omega
    · omega
    · rw [List.length_append, hl] at h; omega
    · have h8 : size = 8 := by omega
      subst h8
      have e : (wire.be n 8 ++ R).getD 0 0 = n / 256 ^ 7 % 256 := by simp [wire.be]
      rw [e] at h2
      omega
  unfold rd.fixed
  rw [if_neg (by simp), if_neg hb, Int.toNat_natCast]
  have e1 : (wire.be n size ++ R).take size = wire.be n size := by rw [List.take_left' hl]
  have e2 : (wire.be n size ++ R).drop size = R := by rw [List.drop_left' hl]
  rw [e1, e2, wire.val_be n size hlt]

/-- What an item's bytes are. -/
def itemBytes (x : Item) : List Nat :=
  if x.kind = 1 then wire.be x.n.toNat x.size.toNat
  else if x.kind = 2 then num.put x.n
  else if x.kind = 3 ∨ x.kind = 4 then num.put x.s.size ++ strNats x.s
  else []
theorem wrStep_ok (st : List Nat × Bool) (x : Item) (h : (wrStep st x).2 = false) : wrStep st x = (st.1 ++ itemBytes x, st.2) := by
  unfold wrStep itemBytes at *
  split at h
  · rename_i h1
    rw [if_pos h1, if_pos h1]
    split at h
    · rename_i h2; rw [if_pos h2]
    · cases h
  split at h
  · rename_i h1 h2
    rw [if_neg h1, if_pos h2, if_neg h1, if_pos h2]
  split at h
  · rename_i h1 h2 h3
    rw [if_neg h1, if_neg h2, if_pos h3, if_neg h1, if_neg h2, if_pos h3, List.append_assoc]
  · rename_i h1 h2 h3
    rw [if_neg h1, if_neg h2, if_neg h3, if_neg h1, if_neg h2, if_neg h3]
    simp
theorem wrAll_fit (xs : List Item) (k : Nat) (x : Item) (hx : xs[k]? = some x) (hok : (wrAll xs).2 = false) (h1 : x.kind = 1) : wire.fit x.n x.size = true := by
  cases hf : wire.fit x.n x.size
  · have := wrAll_bad xs (k + 1) (by rw [wrAll_succ xs k x hx]; unfold wrStep; rw [if_pos h1, if_neg (by rw [hf]; simp)])
    rw [hok] at this
    cases this
  · rfl
/-- What is left to be read behind k items. -/
def leftOf (xs : List Item) (k : Nat) : List Nat := ((xs.drop k).map itemBytes).flatten
theorem leftOf_succ (xs : List Item) (k : Nat) (x : Item) (hx : xs[k]? = some x) : leftOf xs k = itemBytes x ++ leftOf xs (k + 1) := by
  have hk : k < xs.length := by
    rcases Nat.lt_or_ge k xs.length with h' | h'
    · exact h'
    · rw [List.getElem?_eq_none h'] at hx; cases hx
  have e : xs[k] = x := by rw [List.getElem?_eq_getElem hk] at hx; exact Option.some.inj hx
  unfold leftOf
  rw [List.drop_eq_getElem_cons hk, e]
  simp
theorem wrAll_left (xs : List Item) (hok : (wrAll xs).2 = false) : (wrAll xs).1 = leftOf xs 0 := by
  have h : ∀ k, k ≤ xs.length → (wrAll xs).1 = (wrAll (xs.take k)).1 ++ leftOf xs k := by
    intro k hk
    generalize hm : xs.length - k = m
    induction m generalizing k with
    | zero =>
      have : k = xs.length := by omega
      subst this
      simp [leftOf]
    | succ m ih =>
      have hlt : k < xs.length := by omega
      have hx : xs[k]? = some xs[k] := List.getElem?_eq_getElem hlt
      rw [ih (k + 1) (by omega) (by omega), leftOf_succ xs k _ hx, wrAll_succ xs k _ hx]
      have hb : (wrStep (wrAll (xs.take k)) xs[k]).2 = false := by
        cases hq : (wrStep (wrAll (xs.take k)) xs[k]).2
        · rfl
        · have := wrAll_bad xs (k + 1) (by rw [wrAll_succ xs k _ hx]; exact hq)
          rw [hok] at this
          cases this
      rw [wrStep_ok _ _ hb, List.append_assoc]
  have := h 0 (Nat.zero_le _)
  simpa [wrAll] using this
end Go.Proofs.Ytfblfgnnnbcplaa

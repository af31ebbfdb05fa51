/- batch: contracts of Check and Size. -/
import Derived.Test.YtkkpbnhagobhmaaPlanE
import Derived.Test.YtkkpbnhagobhmaaPlanC
import Derived.Test.YtkkpbnhagobhmaaBats
import Derived.Test.YtkkpbnhagobhmaaNumP
namespace Go.Proofs.Ytkkpbnhagobhmaa
open Go.RowKit

/-- May its head be? -/
def Bat.may (b : Bat) : Prop := 0 ≤ b.base ∧ b.base ≤ 4611686018427387904 ∧ b.base ≤ b.last ∧ b.last ≤ 4611686018427387904 ∧ 0 ≤ b.prod ∧ b.prod ≤ 1099511627776 ∧ 0 ≤ b.epoch ∧ b.epoch ≤ 32767 ∧ 0 ≤ b.seq ∧ b.seq ≤ 2147483647 ∧ (b.prod ≠ 0 ∨ (b.epoch = 0 ∧ b.seq = 0))
instance (b : Bat) : Decidable b.may := by unfold Bat.may; infer_instance
/-- A batch's value, its records at A. -/
def Bat.hval (b : Bat) (A : Option Addr) (n c : Nat) : Value := .agg #[.int .i64 b.base, .int .i64 b.last, .int .i64 b.prod, .int .i64 b.epoch, .int .i64 b.seq, .slice A n c]
/-- A record's value, its key and its value at Ak, Av. -/
def Rec.hval (r : Rec) (Ak : Option Addr) (ck : Nat) (Av : Option Addr) (cv : Nat) : Value := .agg #[.int .i64 r.off, .int .i64 r.time, .bool r.hasKey, .slice Ak r.key.length ck, .bool r.hasVal, .slice Av r.val.length cv]

/-- May a record be? -/
def Rec.chk (r : Rec) : Int :=
  if r.time < 0 ∨ 1125899906842624 < r.time then 1 else
  if (r.hasKey = false ∧ 0 < r.key.length) ∨ (r.hasVal = false ∧ 0 < r.val.length) then 1 else
  if 200 < r.key.length ∨ 2000 < r.val.length then 3 else 0

def bat.len (has : Bool) (n : Nat) : Int := if has then n else -1
def num.widI (n : Int) : Nat := num.wid (num.zig n).toNat
theorem num.widI_le (n : Int) : num.widI n ≤ 10 := (num.wd_le 9 _).2

/-- How long a record's body is. -/
def Rec.body (r : Rec) (first base : Int) : Int :=
  num.widI (r.time - first) + num.widI (r.off - base) + num.widI (bat.len r.hasKey r.key.length) + r.key.length + num.widI (bat.len r.hasVal r.val.length) + r.val.length

def Bat.first (rs : List Rec) : Int := match rs with | [] => 0 | r :: _ => r.time
/-- The greatest time of the first k. -/
def Bat.mostTo (rs : List Rec) (k : Nat) : Int := (rs.take k).foldl (fun m r => max m r.time) (Bat.first rs)
def Bat.mostT (rs : List Rec) : Int := Bat.mostTo rs rs.length
theorem Bat.mostTo_succ (rs : List Rec) (k : Nat) (r : Rec) (h : rs[k]? = some r) : Bat.mostTo rs (k + 1) = max (Bat.mostTo rs k) r.time := by
  obtain ⟨hk, rfl⟩ := List.getElem?_eq_some_iff.1 h
  unfold Bat.mostTo
  rw [List.take_succ_eq_append_getElem hk, List.foldl_append]
  rfl
theorem Bat.first_zero (rs : List Rec) (r : Rec) (h : rs[0]? = some r) : Bat.first rs = r.time := by
  cases rs with
  | nil => simp at h
  | cons a l => obtain rfl : a = r := by simpa using h
                rfl

/-- How long a batch is whose records are these. -/
def Bat.sum (first base : Int) (rs : List Rec) : Int := (rs.map fun r => ((num.widI (r.body first base) : Nat) : Int) + r.body first base).sum
def Bat.size (b : Bat) : Int := 50 + Bat.sum (Bat.first b.recs) b.base b.recs
/-- A record that may be, in a batch that may. -/
def Rec.ok (r : Rec) : Prop := 0 ≤ r.time ∧ r.time ≤ 1125899906842624 ∧ 0 ≤ r.off ∧ r.off ≤ 4611686018427387904 ∧ r.key.length ≤ 200 ∧ r.val.length ≤ 2000
theorem Rec.body_le {r : Rec} (h : r.ok) (first base : Int) : 0 ≤ r.body first base ∧ r.body first base ≤ 2240 := by
  have z1 := num.widI_le (r.time - first)
  have z2 := num.widI_le (r.off - base)
  have z3 := num.widI_le (bat.len r.hasKey r.key.length)
  have z4 := num.widI_le (bat.len r.hasVal r.val.length)
  obtain ⟨-, -, -, -, h5, h6⟩ := h
  unfold Rec.body
  omega
theorem Bat.sum_le (first base : Int) (rs : List Rec) (h : ∀ r ∈ rs, r.ok) : 0 ≤ Bat.sum first base rs ∧ Bat.sum first base rs ≤ 2250 * rs.length := by
  unfold Bat.sum
  induction rs with
  | nil => simp
  | cons r rs ih =>
    have := ih fun x hx => h x (List.mem_cons_of_mem _ hx)
    have h1 := Rec.body_le (h r (List.mem_cons_self ..)) first base
    have h2 := num.widI_le (r.body first base)
    simp only [List.map_cons, List.sum_cons, List.length_cons]
    omega
theorem Bat.sum_succ (first base : Int) (rs : List Rec) (k : Nat) (r : Rec) (h : rs[k]? = some r) : Bat.sum first base (rs.take (k + 1)) = Bat.sum first base (rs.take k) + (num.widI (r.body first base) + r.body first base) := by
  obtain ⟨hk, rfl⟩ := List.getElem?_eq_some_iff.1 h
  unfold Bat.sum
  rw [List.take_succ_eq_append_getElem hk, List.map_append, List.sum_append]
  simp

/-- The records' first error, behind an offset. -/
def bat.chks (last : Int) : Int → List Rec → Int
  | _, [] => 0
  | ahead, r :: rs => if r.off ≤ ahead ∨ last < r.off then 1 else if r.chk ≠ 0 then r.chk else bat.chks last r.off rs
theorem bat.chks_nil (last a : Int) : bat.chks last a [] = 0 := rfl
theorem bat.chks_cons (last a : Int) (r : Rec) (rs : List Rec) : bat.chks last a (r :: rs) = if r.off ≤ a ∨ last < r.off then 1 else if r.chk ≠ 0 then r.chk else bat.chks last r.off rs := rfl
/-- May a batch be? -/
def Bat.check (b : Bat) : Int :=
  if ¬ b.may then 1 else if 100 < b.recs.length then 3 else if bat.chks b.last (b.base - 1) b.recs ≠ 0 then bat.chks b.last (b.base - 1) b.recs else if 65536 < b.size then 3 else 0
theorem Rec.chk_ok {r : Rec} (h : r.chk = 0) : 0 ≤ r.time ∧ r.time ≤ 1125899906842624 ∧ r.key.length ≤ 200 ∧ r.val.length ≤ 2000 := by
  unfold Rec.chk at h
  split at h
  · cases h
  · split at h
    · cases h
    · split at h
      · cases h
      · rename_i h1 _ h3
        omega
theorem bat.chks_ok {last : Int} (hl : last ≤ 4611686018427387904) : ∀ (rs : List Rec) (ahead : Int), -1 ≤ ahead → bat.chks last ahead rs = 0 → ∀ r ∈ rs, r.ok := by
  intro rs
  induction rs with
  | nil => intro _ _ _ r hr; cases hr
  | cons x xs ih =>
    intro ahead ha h r hr
    unfold bat.chks at h
    split at h
    · cases h
    · rename_i h1
      split at h
      · rename_i h2; exact absurd h h2
      · rename_i h2
        have h3 := Rec.chk_ok (r := x) (by omega)
        rcases List.mem_cons.1 hr with rfl | hr
        · exact ⟨h3.1, h3.2.1, by omega, by omega, h3.2.2.1, h3.2.2.2⟩
        · exact ih x.off (by omega) h r hr

theorem Bat.check_ok {b : Bat} (h : b.check = 0) : b.may ∧ b.recs.length ≤ 100 ∧ (∀ r ∈ b.recs, r.ok) ∧ b.size ≤ 65536 := by
  unfold Bat.check at h
  by_cases hm : b.may
  · rw [if_neg (fun h => h hm)] at h
    split at h
    · cases h
    · split at h
      · rename_i h2; exact absurd h h2
      · rename_i h1 h2
        split at h
        · cases h
        · exact ⟨hm, by omega, bat.chks_ok hm.2.2.2.1 b.recs (b.base - 1) (by have := hm.1; omega) (by omega), by omega⟩
  · rw [if_pos hm] at h
    cases h

/-- What Size tells. -/
def Bat.sizeof (b : Bat) : Int := if b.check = 0 then b.size else 0
end Go.Proofs.Ytkkpbnhagobhmaa

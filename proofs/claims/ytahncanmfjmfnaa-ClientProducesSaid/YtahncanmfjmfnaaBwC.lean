/- The reference of chapter 5: checkRecord, Check, Encode, Times. -/
import Derived.Test.YtahncanmfjmfnaaBwB
namespace Go.Proofs.Ytahncanmfjmfnaa
open Go.RowKit

/-- What the reference's checkRecord answers. -/
def Rec.rchk (r : Rec) (base last ahead : Int) : Int := if r.off < base ∨ last < r.off ∨ r.off ≤ ahead then 1 else r.chk

theorem ref.rchk_of {base last ah arf : Int} (h : ∀ o : Int, (o < base ∨ o ≤ arf) ↔ o ≤ ah) (r : Rec) : r.rchk base last arf = if r.off ≤ ah ∨ last < r.off then 1 else r.chk := by
  have h1 := h r.off
  unfold Rec.rchk
  by_cases h2 : r.off ≤ ah ∨ last < r.off
  · rw [if_pos h2, if_pos (by omega)]
  · rw [if_neg h2, if_neg (by omega)]
theorem Rec.chk_flags {r : Rec} (h : r.chk = 0) : (r.hasKey = false → r.key = []) ∧ (r.hasVal = false → r.val = []) := by
  unfold Rec.chk at h
  split at h
  · cases h
  · split at h
    · cases h
    · rename_i h1 h2
      refine ⟨fun hf => ?_, fun hf => ?_⟩
      · exact List.length_eq_zero_iff.1 (by by_cases hl : 0 < r.key.length; exact absurd (Or.inl ⟨hf, hl⟩) h2; omega)
      · exact List.length_eq_zero_iff.1 (by by_cases hl : 0 < r.val.length; exact absurd (Or.inr ⟨hf, hl⟩) h2; omega)
theorem bat.chks_flags {last : Int} : ∀ (rs : List Rec) (ahead : Int), bat.chks last ahead rs = 0 → ∀ r ∈ rs, (r.hasKey = false → r.key = []) ∧ (r.hasVal = false → r.val = []) := by
  intro rs
  induction rs with
  | nil => intro _ _ r hr; cases hr
  | cons x xs ih =>
    intro ahead h r hr
    unfold bat.chks at h
    split at h
    · cases h
    · split at h
      · rename_i h2; exact absurd h h2
      · rename_i h2
        rcases List.mem_cons.1 hr with rfl | hr
        · exact Rec.chk_flags (by omega)
        · exact ih x.off h r hr
theorem Bat.flags_of {b : Bat} (h : b.check = 0) : b.flags := by
  unfold Bat.check at h
  by_cases hm : b.may
  · rw [if_neg (fun h => h hm)] at h
    split at h
    · cases h
    · split at h
      · rename_i h2; exact absurd h h2
      · rename_i h2
        exact bat.chks_flags (last := b.last) b.recs (b.base - 1) (by omega)
  · rw [if_pos hm] at h
    cases h
theorem Bat.flat_len (first base : Int) (rs : List Rec) (h : ∀ r ∈ rs, (r.hasKey = false → r.key = []) ∧ (r.hasVal = false → r.val = [])) : (((rs.map (Rec.bytes first base)).flatten).length : Int) = Bat.sum first base rs := by
  unfold Bat.sum
  induction rs with
  | nil => rfl
  | cons r rs ih =>
    have h1 := ih fun x hx => h x (List.mem_cons_of_mem _ hx)
    obtain ⟨h2, h3⟩ := h r (List.mem_cons_self ..)
    have h4 := Rec.rest_len r first base h2 h3
    have h5 : (r.bytes first base).length = num.widI (r.body first base) + (r.rest first base).length := by
      rw [← Rec.rest_bytes r first base h2 h3, List.length_append, Rec.rest_len r first base h2 h3, num.put_len]
      rfl
    simp only [List.map_cons, List.flatten_cons, List.length_append, List.sum_cons]
    omega
theorem Bat.bytes_len (b : Bat) (h : b.flags) : (b.bytes.length : Int) = b.size := by
  have h1 := Bat.flat_len (Bat.first b.recs) b.base b.recs h
  have h2 := Bat.head_len b
  have h3 : b.summed.length = 34 + ((b.recs.map (Rec.bytes (Bat.first b.recs) b.base)).flatten).length := by
    unfold Bat.summed Bat.body
    rw [List.length_append, h2, List.take_length]
  have h4 : b.front.length = 16 := by unfold Bat.front; simp only [List.length_append, wire.be_len]
  unfold Bat.bytes Bat.size
  rw [List.length_append, h4, h3]
  omega

set_option maxRecDepth 20000 in
set_option maxHeartbeats 2000000 in
theorem ref.record_any (r : Rec) (b : Bat) (Ak : Option Addr) (ck : Nat) (Av : Option Addr) (cv : Nat) (A : Option Addr) (c : Nat) (ahead : Int) (w : World) :
    Calls Try.prog 49 #[r.hval Ak ck Av cv, b.hval A b.recs.length c, .int .i64 ahead] w fun e w' => e = .returned (.int .i64 (r.rchk b.base b.last ahead)) ∧ Below w.heap.size w w' := by
  have hpost : ∀ (x : Int), x = r.rchk b.base b.last ahead → Ending.returned (.int .i64 x) = Ending.returned (.int .i64 (r.rchk b.base b.last ahead)) := fun x h => by rw [h]
  have HPOST := Lib.hid hpost; clear hpost
  have hchk : r.rchk b.base b.last ahead = if r.off < b.base ∨ b.last < r.off ∨ r.off ≤ ahead then 1 else if r.time < 0 ∨ 1125899906842624 < r.time then 1 else if (r.hasKey = false ∧ 0 < r.key.length) ∨ (r.hasVal = false ∧ 0 < r.val.length) then 1 else if 200 < r.key.length ∨ 2000 < r.val.length then 3 else 0 := rfl
  have HC := Lib.hid hchk; clear hchk
  obtain ⟨x0, x1, hk, kk, hv, vv⟩ := r
  unfold Rec.hval Bat.hval
  dsimp only at *
  generalize kk.length = kn at *
  generalize vv.length = vn at *
  generalize b.recs.length = bn at *
  generalize b.base = b0 at *
  generalize b.last = b1 at *
  generalize b.prod = b2 at *
  generalize b.epoch = b3 at *
  generalize b.seq = b4 at *
  cases hk <;> cases hv
  all_goals
    go_enter Try.func49, Try.ntmps49
    go_wp2
    all_goals
      go_ret
      refine ⟨HPOST.out _ ?_, ?_⟩
      · rw [HC.out]
        simp
        try (repeat' split) <;> omega
      · go_grown
end Go.Proofs.Ytahncanmfjmfnaa

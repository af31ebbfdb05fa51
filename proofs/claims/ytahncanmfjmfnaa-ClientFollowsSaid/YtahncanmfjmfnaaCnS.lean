/- client: where a reader stands behind a batch (pure). -/
import Derived.Test.YtahncanmfjmfnaaCnR
namespace Go.Proofs.Ytahncanmfjmfnaa
open Go.RowKit

/-- Behind the last of some records. -/
def cn.behind : Int → List Rec → Int
  | nx, [] => nx
  | _, r :: rs => cn.behind (r.off + 1) rs
theorem cn.chks_step {last ahead : Int} {r : Rec} {rs : List Rec} (h : bat.chks last ahead (r :: rs) = 0) : ahead < r.off ∧ bat.chks last r.off rs = 0 := by
  rw [bat.chks_cons] at h
  split at h
  · cases h
  · split at h
    · rename_i h1 h2; exact absurd h h2
    · rename_i h1 _; exact ⟨by omega, h⟩
theorem cn.next_rise : ∀ (rs : List Rec) (last ahead nx : Int), bat.chks last ahead rs = 0 → nx ≤ ahead + 1 → cn.next nx rs = some (cn.behind nx rs)
  | [], _, _, _, _, _ => rfl
  | r :: rs, last, ahead, nx, h, hn => by
    obtain ⟨h1, h2⟩ := cn.chks_step h
    unfold cn.next cn.behind
    rw [if_neg (by omega)]
    exact cn.next_rise rs last r.off (r.off + 1) h2 (by omega)
theorem cn.chks_of {x : Bat} (hc : x.check = 0) : bat.chks x.last (x.base - 1) x.recs = 0 := by
  unfold Bat.check at hc
  split at hc
  · cases hc
  · split at hc
    · cases hc
    · split at hc
      · rename_i h; exact absurd hc h
      · rename_i h; exact Decidable.not_not.1 h
theorem cn.next_bad {x : Bat} {r : Rec} {rs : List Rec} (hx : x.recs = r :: rs) (nx : Int) (h : r.off < nx) : cn.next nx x.recs = none := by
  rw [hx]
  unfold cn.next
  rw [if_pos h]
theorem cn.next_ok {x : Bat} (hc : x.check = 0) {r : Rec} {rs : List Rec} (hx : x.recs = r :: rs) (nx : Int) (h : ¬ r.off < nx) : cn.next nx x.recs = some (cn.behind (r.off + 1) rs) := by
  have h1 := cn.chks_of hc
  rw [hx] at h1 ⊢
  unfold cn.next
  rw [if_neg h]
  exact cn.next_rise rs x.last r.off (r.off + 1) (cn.chks_step h1).2 (Int.le_refl _)
theorem cn.behind_last : ∀ (rs : List Rec) (nx : Int) (r : Rec), ∃ z, (r :: rs)[rs.length]? = some z ∧ cn.behind nx (r :: rs) = z.off + 1
  | [], _, r => ⟨r, rfl, rfl⟩
  | s :: rs, _, r => by
    obtain ⟨z, h1, h2⟩ := cn.behind_last rs (r.off + 1) s
    exact ⟨z, by simpa using h1, h2⟩
end Go.Proofs.Ytahncanmfjmfnaa

/- What one offer behind the other leaves is what the search over batches says (no program). -/
import Derived.Test.YtnlfdhoabbbheaaKcA
namespace Go.Proofs.Ytnlfdhoabbbheaa
open Go.RowKit Go.Maps

/-- Some of a batch's records are offered. -/
def bd.Mid (f M : Int) (N : Nat) (g : ByteArray → Option Int) (rs : List Rec) (j N2 : Nat) (g2 : ByteArray → Option Int) : Prop :=
  ∃ (F : Nat) (h : ByteArray → Option Int), kb.scan f M N g 0 (fun _ => none) rs = kb.scan f M N g F h (rs.drop j) ∧ kb.offers f M N g rs = kb.offers f M N2 g2 (rs.drop j) ∧
    N2 = N + F ∧ (N2 : Int) ≤ M ∧ ∀ s, (g2 s).isSome = ((g s).isSome || (h s).isSome)
section
variable {f M : Int} {N : Nat} {g : ByteArray → Option Int} {rs : List Rec} {j N2 : Nat} {g2 : ByteArray → Option Int} {r : Rec}
theorem bd.Mid.zero (h : (N : Int) ≤ M) : bd.Mid f M N g rs 0 N g := ⟨0, fun _ => none, rfl, rfl, rfl, h, fun s => by simp⟩
theorem bd.Mid.done (h : bd.Mid f M N g rs j N2 g2) (hj : j = rs.length) : kb.scan f M N g 0 (fun _ => none) rs = true ∧ kb.offers f M N g rs = (N2, g2) := by
  obtain ⟨F, h', h1, h2, -⟩ := h
  rw [h1, h2, hj, List.drop_length]
  exact ⟨rfl, rfl⟩
theorem bd.Mid.le (h : bd.Mid f M N g rs j N2 g2) : (N2 : Int) ≤ M := by
  obtain ⟨F, h', -, -, -, h4, -⟩ := h
  exact h4
theorem bd.Mid.skip (h : bd.Mid f M N g rs j N2 g2) (hr : rs[j]? = some r) (hu : kb.use f r = false) : bd.Mid f M N g rs (j + 1) N2 g2 := by
  obtain ⟨F, h', h1, h2, h3⟩ := h
  rw [kb.scan_drop hr, if_pos hu] at h1
  rw [kb.offers_drop hr, if_neg (by rw [hu]; simp)] at h2
  exact ⟨F, h', h1, h2, h3⟩
theorem bd.put_some (N2 : Nat) (M : Int) (g2 : ByteArray → Option Int) (s u : ByteArray) (o : Int) (hc : key.can N2 M g2 s = true) : (key.put N2 M g2 s o u).isSome = (decide (u = s) || (g2 u).isSome) := by
  unfold key.can at hc
  rw [Bool.or_eq_true, decide_eq_true_eq] at hc
  rw [kc.put_eq hc, kc.kmax_some]
theorem bd.Mid.can (h : bd.Mid f M N g rs j N2 g2) (hr : rs[j]? = some r) (hu : kb.use f r = true) (hc : key.can N2 M g2 (strOf r.key) = true) : bd.Mid f M N g rs (j + 1) (key.cnt N2 M g2 (strOf r.key)) (key.put N2 M g2 (strOf r.key) r.off) := by
  obtain ⟨F, h', h1, h2, h3, h4, h5⟩ := h
  rw [kb.scan_drop hr, if_neg (by rw [hu]; simp)] at h1
  rw [kb.offers_drop hr, if_pos hu] at h2
  have hcc := hc
  unfold key.can at hcc
  rw [Bool.or_eq_true, decide_eq_true_eq] at hcc
  have hle := kb.cnt_le (s := strOf r.key) (g := g2) h4
  have hps := fun u => bd.put_some N2 M g2 (strOf r.key) u r.off hc
  by_cases hg : (g (strOf r.key)).isSome = true
  · rw [if_pos hg, if_neg (by omega)] at h1
    have h2s : (g2 (strOf r.key)).isSome = true := by rw [h5, hg]; rfl
    have e1 : key.cnt N2 M g2 (strOf r.key) = N2 := by unfold key.cnt; rw [if_pos h2s]
    refine ⟨F, h', h1, h2, by rw [e1]; exact h3, hle, fun s => ?_⟩
    rw [hps, h5]
    by_cases e : s = strOf r.key
    · rw [e, hg]; simp
    · rw [decide_eq_false e]; rfl
  · rw [if_neg hg] at h1
    have hgf : (g (strOf r.key)).isSome = false := by simpa using hg
    by_cases hh : (h' (strOf r.key)).isSome = true
    · have e0 : kb.more F h' (strOf r.key) = F := by unfold kb.more; rw [if_pos hh]
      rw [e0, if_neg (by omega)] at h1
      have h2s : (g2 (strOf r.key)).isSome = true := by rw [h5, hgf, hh]; rfl
      have e1 : key.cnt N2 M g2 (strOf r.key) = N2 := by unfold key.cnt; rw [if_pos h2s]
      refine ⟨F, _, h1, h2, by rw [e1]; exact h3, hle, fun s => ?_⟩
      rw [hps, h5, kc.upd_some]
      by_cases e : s = strOf r.key
      · rw [e, decide_eq_true rfl, hgf]; rfl
      · rw [decide_eq_false e]; rfl
    · have e0 : kb.more F h' (strOf r.key) = F + 1 := by unfold kb.more; rw [if_neg hh]
      have hhf : (h' (strOf r.key)).isSome = false := by simpa using hh
      have h2s : (g2 (strOf r.key)).isSome = false := by rw [h5, hgf, hhf]; rfl
      have hlt : (N2 : Int) < M := by
        rcases hcc with h | h
        · rw [h2s] at h; cases h
        · exact h
      rw [e0, if_neg (by omega)] at h1
      have e1 : key.cnt N2 M g2 (strOf r.key) = N2 + 1 := by unfold key.cnt; rw [if_neg (by rw [h2s]; simp), if_pos hlt]
      refine ⟨F + 1, _, h1, h2, by rw [e1]; omega, hle, fun s => ?_⟩
      rw [hps, h5, kc.upd_some]
      by_cases e : s = strOf r.key
      · rw [e, decide_eq_true rfl, hgf]; rfl
      · rw [decide_eq_false e]; rfl
theorem bd.Mid.no (h : bd.Mid f M N g rs j N2 g2) (hr : rs[j]? = some r) (hu : kb.use f r = true) (hc : key.can N2 M g2 (strOf r.key) = false) : kb.scan f M N g 0 (fun _ => none) rs = false := by
  obtain ⟨F, h', h1, h2, h3, h4, h5⟩ := h
  rw [kb.scan_drop hr, if_neg (by rw [hu]; simp)] at h1
  unfold key.can at hc
  rw [Bool.or_eq_false_iff, decide_eq_false_iff_not] at hc
  obtain ⟨hc1, hc2⟩ := hc
  rw [h5, Bool.or_eq_false_iff] at hc1
  have e0 : kb.more F h' (strOf r.key) = F + 1 := by unfold kb.more; rw [if_neg (by rw [hc1.2]; simp)]
  rw [h1, if_neg (by rw [hc1.1]; simp), e0, if_pos (by omega)]
end
end Go.Proofs.Ytnlfdhoabbbheaa

/- The walk of the law NumAsks: it answers true, whatever the input. -/
import Derived.Test.YtfblfgnnnbcplaaNumAskA
import Derived.Test.YtfblfgnnnbcplaaNumAskB
namespace Go.Proofs.Ytfblfgnnnbcplaa
open Go.RowKit

set_option maxRecDepth 20000 in
set_option maxHeartbeats 1000000 in
theorem num.lawAsks (n u : Int) (X : Option Addr) (m c : Nat) (z : List Int) (w : World) (hz : z.length = m ∧ m ≤ c ∧ c ≤ maxLen) (hat : At w X m (fun j => .int .u8 (z.getD j 0))) (hwf : ∀ x ∈ z, (Lit.int .u8 x).wf = true)
    (hn : -9223372036854775808 ≤ n ∧ n ≤ 9223372036854775807) (hu : 0 ≤ u ∧ u ≤ 18446744073709551615) :
    Calls Try.prog 3 #[.int .i64 n, .int .u64 u, .slice X m c] w fun e w' => e = .returned (.bool true) ∧ Below w.heap.size w w' := by
  obtain ⟨hz, hmc, hcm⟩ := hz
  unfold maxLen at hcm
  obtain ⟨n1, n2⟩ := hn
  obtain ⟨u1, u2⟩ := hu
  by_cases hbig : 1000 < m
  · have hb' : (1000 : Int) < m := by omega
    go_enter Try.func3, Try.ntmps3
    go_wp2_with (go_at_call 9; refine (num.awake_any _).mono ?_; rintro e w' ⟨rfl, hb⟩)
    go_ret
    exact ⟨rfl, hb⟩
  · have hb' : ¬ (1000 : Int) < m := by omega
    obtain ⟨hatz, hzb⟩ := ints_bytes hat hz hwf
    cases hg : num.get (fun j => (z.map Int.toNat).getD j 0) m with
    | none => exact num.asksB n u X m c (z.map Int.toNat) w hatz hzb hb' n1 n2 u1 u2 0 0 (by rw [hg]; rfl) (by rw [hg]; rfl) rfl
    | some p =>
      obtain ⟨a, b⟩ := p
      have := num.gt_pos _ _ a b _ _ _ hg
      exact num.asksA n u X m c (z.map Int.toNat) w hatz hzb hb' n1 n2 u1 u2 (num.zag a) b (by rw [hg]; rfl) (by rw [hg]; rfl) (by omega)
end Go.Proofs.Ytfblfgnnnbcplaa

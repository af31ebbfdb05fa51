/- Contract of cordwainalike.Ints over two lists that are the same. -/
import Derived.Test.YtbbekgliaedigaaKit
import Derived.Test.YtbbekgliaedigaaProg
namespace Go.Proofs.Ytbbekgliaedigaa
open Go.RowKit

def QuietTrue (w : World) (e : Ending) (w' : World) : Prop := e = .returned (.bool true) ∧ ∃ q, w' = w.drewN q

set_option maxHeartbeats 800000 in
theorem alike.ints_same (A B : Option Addr) (n c d : Nat) (f : Nat → Int) (w : World) (hn : n ≤ 9223372036854775807) (ha : At w A n (fun j => .int .i64 (f j))) (hb : At w B n (fun j => .int .i64 (f j))) :
    Calls Try.prog 62 #[.slice A n c, .slice B n d] w (QuietTrue w) := by
  have HA := Lib.hid ha; clear ha
  have HB := Lib.hid hb; clear hb
  go_enter Try.func62, Try.ntmps62
  go_wp2
  go_loopw [5] (fun i wr => ∃ (k q : Nat), k ≤ n ∧ i = .int .i64 (k : Int) ∧ wr = w.drewN q) (fun i _ => n - (intOf i).toNat)
  case atStart => exact ⟨0, 0, by omega, rfl, rfl⟩
  case round =>
    obtain ⟨k, q, hk, rfl, rfl⟩ := hrel
    by_cases hlt : k < n
    · obtain ⟨b, off, rfl, hbb, hc⟩ := HA.out (by omega)
      obtain ⟨b2, off2, rfl, hbb2, hc2⟩ := HB.out (by omega)
      have hc1 : (w.drewN q).cell? ⟨b, off + k, none⟩ = some (.int .i64 (f k)) := hc k hlt
      have hc3 : (w.drewN q).cell? ⟨b2, off2 + k, none⟩ = some (.int .i64 (f k)) := hc2 k hlt
      clear hc hc2
      generalize f k = z at hc1 hc3
      generalize hwq : w.drewN q = wq at hc1 hc3
      have HQ := Lib.hid hwq; clear hwq
      have hlt' : (k : Int) < n := by omega
      have hk0 : (0 : Int) ≤ k := by omega
      go_wp2
      go_quiet (fail)
      go_wp2
      go_roundw
      case rel => exact ⟨k + 1, q + nq, by omega, by go_num, by rw [← HQ.out, World.drewN_drewN]⟩
      case measure => simp [intOf]; omega
    · obtain rfl : k = n := by omega
      go_wp2
      go_ret
      exact ⟨rfl, q, rfl⟩
end Go.Proofs.Ytbbekgliaedigaa

/- proto: the law ProtoKinds: what it makes (chapter 20). -/
import Derived.BigQuiet
import Derived.Deep.CutRange
import Derived.Test.YtimcpbbcealkiaaPqT
import Derived.Test.YtimcpbbcealkiaaPqM
import Derived.Test.YtimcpbbcealkiaaPqN
import Derived.Test.YtimcpbbcealkiaaPqP
import Derived.Test.YtimcpbbcealkiaaPqI
import Derived.Test.YtimcpbbcealkiaaPqJ
import Derived.Test.YtimcpbbcealkiaaConv
namespace Go.Proofs.Ytimcpbbcealkiaa
open Go.RowKit

theorem pk.makeB (n : Nat) (hn : n ≤ 200000) : ∃ Z : Array Value, (∀ wx : World, (Instr.makeSlice 23 (.int .i64 (n : Int)) (.int .i64 (n : Int))).run Try.prog wx = .ok (.slice (some ⟨wx.heap.size, 0, none⟩) n n) (wx.alloc (.cells Z 5))) ∧ (∀ (wx : World) (b : Nat), Blk wx b 5 Z → BytesV wx (.slice (some ⟨b, 0, none⟩) n n) (List.replicate n 0)) := by
  obtain ⟨iu, hu, hu0, hu1, hu2⟩ := info_parts infoByte
  refine ⟨madeCells (Value.int .u8 0).cells (n * 1), fun wx => ?_, fun wx b hb => ⟨some ⟨b, 0, none⟩, n, by rw [List.length_replicate], ?_, by rw [List.length_replicate]; exact Nat.le_refl _, by unfold maxLen; omega, fun x hx => by rw [List.eq_of_mem_replicate hx]; decide⟩⟩
  · have hr := run_make (P := Try.prog) wx 23 5 iu (.int .u8 0) Try.underlying23 hu hu0 .i64 .i64 (n : Int) (n : Int) (by omega) (Int.le_refl _) (by rw [hu2]; omega) (by omega)
    rw [hu1, Int.toNat_natCast] at hr
    exact hr
  · rw [List.length_replicate]
    refine fun h0 => ⟨b, 0, rfl, hb.lt, fun j hj => ?_⟩
    rw [Nat.zero_add]
    refine hb.cell j ?_
    unfold madeCells byteAt
    simp [Value.cells, hj, List.getD, Nat.mod_one]
theorem pk.infoStr : (Try.prog.info? 9).map (fun i => (i.zero, i.size, i.bytes)) = some (some (.string (ByteArray.mk #[])), 1, 16) := by kernel_rfl
theorem pk.infoInt : (Try.prog.info? 3).map (fun i => (i.zero, i.size, i.bytes)) = some (some (.int .i64 0), 1, 8) := by kernel_rfl
theorem pk.makeS (n : Nat) (hn : n ≤ 200000) : ∃ Z : Array Value, (∀ wx : World, (Instr.makeSlice 22 (.int .i64 (n : Int)) (.int .i64 (n : Int))).run Try.prog wx = .ok (.slice (some ⟨wx.heap.size, 0, none⟩) n n) (wx.alloc (.cells Z 9))) ∧ (∀ (wx : World) (b : Nat), Blk wx b 9 Z → StrsV wx (.slice (some ⟨b, 0, none⟩) n n) (List.replicate n (ByteArray.mk #[]))) := by
  obtain ⟨iu, hu, hu0, hu1, hu2⟩ := info_parts pk.infoStr
  refine ⟨madeCells (Value.string (ByteArray.mk #[])).cells (n * 1), fun wx => ?_, fun wx b hb => ⟨some ⟨b, 0, none⟩, n, by rw [List.length_replicate], ?_, by rw [List.length_replicate]; exact Nat.le_refl _, by unfold maxLen; omega, fun x hx => by rw [List.eq_of_mem_replicate hx]; decide⟩⟩
  · have hr := run_make (P := Try.prog) wx 22 9 iu (.string (ByteArray.mk #[])) Try.underlying22 hu hu0 .i64 .i64 (n : Int) (n : Int) (by omega) (Int.le_refl _) (by rw [hu2]; omega) (by omega)
    rw [hu1, Int.toNat_natCast] at hr
    exact hr
  · rw [List.length_replicate]
    refine fun h0 => ⟨b, 0, rfl, hb.lt, fun j hj => ?_⟩
    rw [Nat.zero_add]
    refine hb.cell j ?_
    unfold madeCells
    simp [Value.cells, hj, List.getD, Nat.mod_one]
theorem pk.makeI : ∃ Z : Array Value, (∀ wx : World, (Instr.makeSlice 39 (.int .i64 1001) (.int .i64 1001)).run Try.prog wx = .ok (.slice (some ⟨wx.heap.size, 0, none⟩) 1001 1001) (wx.alloc (.cells Z 3))) := by
  obtain ⟨iu, hu, hu0, hu1, hu2⟩ := info_parts pk.infoInt
  refine ⟨madeCells (Value.int .i64 0).cells (1001 * 1), fun wx => ?_⟩
  have hr := run_make (P := Try.prog) wx 39 3 iu (.int .i64 0) Try.underlying39 hu hu0 .i64 .i64 1001 1001 (by omega) (Int.le_refl _) (by rw [hu2]; omega) (by omega)
  rw [hu1] at hr
  exact hr
/-- The request of the law. -/
def pk.req (kind : Int) (text names data : Nat) : PReq := ⟨kind, 0, ByteArray.mk #[], strOf (List.replicate text 0), 0, 0, 0, 0, ByteArray.mk #[], ByteArray.mk #[], 0, List.replicate names (ByteArray.mk #[]), List.replicate data 0⟩
theorem pk.size (n : Nat) : (strOf (List.replicate n 0)).size = n := by
  simp [strOf, strOfNums, ByteArray.size]
theorem pk.check (kind : Int) (text names data : Nat) : pq.check (pk.req kind text names data) = if kind < 1 ∨ 14 < kind then 16 else if 100 < text ∨ 30 < names ∨ 65536 < data then 3 else 0 := by
  have h1 : pq.long [(pk.req kind text names data).client, (pk.req kind text names data).topic, (pk.req kind text names data).group, (pk.req kind text names data).member] = decide (100 < text) := by
    unfold pq.long pk.req
    simp only [List.any_cons, List.any_nil, pk.size, show (ByteArray.mk #[]).size = 0 from rfl]
    simp
  have h2 : pq.long (pk.req kind text names data).names = false := by
    unfold pq.long pk.req
    rw [List.any_eq_false]
    intro x hx
    rw [List.eq_of_mem_replicate hx]
    simp [ByteArray.size]
  unfold pq.check
  rw [h1, h2]
  unfold pk.req
  simp only [List.length_replicate]
  by_cases a : kind < 1 ∨ 14 < kind
  · rw [if_pos a, if_pos a]
  · rw [if_neg a, if_neg a, if_neg (by omega)]
    simp
theorem pk.dec_big : pq.dec (List.replicate 131073 0) = (pq.noReq, 0, 3) := by
  have e : List.replicate 131073 0 = wire.be 0 2 ++ (wire.be 0 4 ++ List.replicate 131067 0) := by
    rw [show wire.be 0 2 = List.replicate 2 0 by decide, show wire.be 0 4 = List.replicate 4 0 by decide, List.replicate_append_replicate, List.replicate_append_replicate]
  have f1 := rd.fixed_be 0 2 (wire.be 0 4 ++ List.replicate 131067 0) (by unfold wire.fit; simp) (by omega)
  have f2 := rd.fixed_be 0 4 (List.replicate 131067 0) (by unfold wire.fit; simp) (by omega)
  rw [show ((2 : Nat) : Int) = 2 from rfl] at f1
  rw [show ((4 : Nat) : Int) = 4 from rfl] at f2
  unfold pq.dec
  rw [List.length_replicate, if_pos (by omega), e, f1]
  dsimp only
  rw [f2]
  simp
end Go.Proofs.Ytimcpbbcealkiaa

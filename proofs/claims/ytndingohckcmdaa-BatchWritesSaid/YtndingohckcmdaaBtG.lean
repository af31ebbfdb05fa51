/- batch: what the law package's awake asks (cordwainlaw5). -/
import Derived.Test.YtndingohckcmdaaBtF
import Derived.Test.YtndingohckcmdaaRdY
import Derived.Test.YtndingohckcmdaaRdK
import Derived.Test.YtndingohckcmdaaResC
namespace Go.Proofs.Ytndingohckcmdaa
open Go.RowKit

theorem bat.info6 : (Try.prog.info? 24).map (·.size) = some 6 := by kernel_rfl
theorem RecsV.none5 (w : World) : RecsV w (.slice none 0 0) [] :=
  ⟨none, 0, fun _ => undef, rfl, Nat.le_refl _, Nat.zero_le _, At.none0 rfl, fun i r h => by simp at h⟩
theorem Bat.bytes_len0 (b : Bat) (h : b.recs = []) : b.bytes.length = 50 := by
  have h1 := b.head_len
  unfold Bat.bytes Bat.front Bat.summed Bat.body
  rw [h]
  simp only [List.length_append, wire.be_len, h1, List.take_nil, List.map_nil, List.flatten_nil, List.length_nil]

set_option maxRecDepth 20000 in
set_option maxHeartbeats 1000000 in
theorem bat.first_nil (w : World) :
    Calls Try.prog 23 #[.slice none 0 0] w fun e w' => e = .returned (.tuple #[.agg #[.int .i64 0, .int .i64 0, .int .i64 0, .int .i64 0, .int .i64 0, .slice none 0 0], .int .i64 0, .int .i64 2]) ∧ Below w.heap.size w w' := by
  go_enter Try.func23, Try.ntmps23
  go_wp2_with fail
  obtain ⟨w1, hw1⟩ : ∃ w1, w1 = w.alloc (.cells #[.int .i64 0, .int .i64 0, .int .i64 0, .int .i64 0, .int .i64 0, .slice none 0 0] 24) := ⟨_, rfl⟩
  try rw [← hw1]
  have hbk : Blk w1 w.heap.size 24 #[.int .i64 0, .int .i64 0, .int .i64 0, .int .i64 0, .int .i64 0, .slice none 0 0] := by rw [hw1]; exact Blk.new _ _ _
  have hb1 : Below w.heap.size w w1 := by rw [hw1]; exact (Below.refl _ w).alloc (Nat.le_refl _) _
  clear hw1
  have HBK := Lib.hid hbk; clear hbk
  have HB1 := Lib.hid hb1; clear hb1
  refine (wire.borrow_at none 0 [] w1 (At.none0 rfl) (Nat.le_refl _) (Nat.zero_le _) (fun _ h => by cases h)).mono ?_
  rintro e w2 ⟨r, rfl, hr, hle, hb2⟩
  have hne : w.heap.size ≠ r := by have := HBK.out.lt; omega
  have hge : w.heap.size ≤ r := by have := HBK.out.lt; omega
  have HR := Lib.hid hr; clear hr
  have hk2 := (chg_of (P := fun _ => False) hb2).blk HBK.out id
  have HB2 := Lib.hid (HB1.out.trans (hb2.mono HB1.out.size)); clear hb2
  have c0 := hk2.cell 0 (v := .int .i64 0) rfl
  have f0 := hk2.frozen 0
  have HK2 := Lib.hid hk2; clear hk2
  go_wp2_with fail
  have hf1 := wire.rfixed_any r none 0 [] 0 8 w2 HR.out
  rw [show rd.fixed [] 0 8 = (0, [], 2) by decide] at hf1
  refine hf1.mono ?_
  clear hf1
  rintro e w3 ⟨rfl, ⟨A3, c3, hr3⟩, hc3⟩
  have hk3 := hc3.blk HK2.out hne
  have hb3 : Below w.heap.size w w3 := HB2.out.trans (hc3.below HB2.out.size fun k hk => by have hk : k = r := hk; omega)
  clear hc3 c0 f0
  have HR3 := Lib.hid hr3; clear hr3
  have HB3 := Lib.hid hb3; clear hb3
  have c0 := hk3.cell 0 (v := .int .i64 0) rfl
  have f0 := hk3.frozen 0
  have HK3 := Lib.hid hk3; clear hk3
  go_wp2_with fail
  obtain ⟨w4, hw4⟩ : ∃ w4, w4 = w3.setCell ⟨w.heap.size, 0, none⟩ (.int .i64 0) := ⟨_, rfl⟩
  rw [← hw4]
  have hch : Chg w3 w4 (fun k => k = w.heap.size) := by rw [hw4]; exact Chg.setCell w3 _ 0 _
  have hk4 : Blk w4 w.heap.size 24 #[.int .i64 0, .int .i64 0, .int .i64 0, .int .i64 0, .int .i64 0, .slice none 0 0] := by rw [hw4]; exact HK3.out.set 0 _
  have hr4 : Rd w4 r A3 c3 [] 2 := ⟨hch.blk HR3.out.blk fun h => hne h.symm, At.none0 rfl, HR3.out.len, HR3.out.cap, HR3.out.byte⟩
  have hb4 : Below w.heap.size w w4 := HB3.out.trans (hch.below HB3.out.size fun k hk => by have hk : k = w.heap.size := hk; omega)
  clear hw4 hch c0 f0
  have HK4 := Lib.hid hk4; clear hk4
  have HR4 := Lib.hid hr4; clear hr4
  have HB4 := Lib.hid hb4; clear hb4
  have hf1 := wire.rfixed_any r A3 c3 [] 2 4 w4 HR4.out
  rw [show rd.fixed [] 2 4 = (0, [], 2) by decide] at hf1
  refine hf1.mono ?_
  clear hf1
  rintro e w5 ⟨rfl, ⟨A5, cap5, hr5⟩, hc5⟩
  have hk5 := hc5.blk HK4.out hne
  have hb5 : Below w.heap.size w w5 := HB4.out.trans (hc5.below HB4.out.size fun k hk => by have hk : k = r := hk; omega)
  clear hc5
  have HR5 := Lib.hid hr5; clear hr5
  have HB5 := Lib.hid hb5; clear hb5
  have c0 : w5.cell? ⟨w.heap.size, 0, none⟩ = some (.int .i64 0) := hk5.cell 0 rfl
  have f0 : w5.frozen? ⟨w.heap.size, 0, none⟩ = false := hk5.frozen 0
  have c1 : w5.cell? ⟨w.heap.size, 1, none⟩ = some (.int .i64 0) := hk5.cell 1 rfl
  have f1 : w5.frozen? ⟨w.heap.size, 1, none⟩ = false := hk5.frozen 1
  have c2 : w5.cell? ⟨w.heap.size, 2, none⟩ = some (.int .i64 0) := hk5.cell 2 rfl
  have f2 : w5.frozen? ⟨w.heap.size, 2, none⟩ = false := hk5.frozen 2
  have c3 : w5.cell? ⟨w.heap.size, 3, none⟩ = some (.int .i64 0) := hk5.cell 3 rfl
  have f3 : w5.frozen? ⟨w.heap.size, 3, none⟩ = false := hk5.frozen 3
  have c4 : w5.cell? ⟨w.heap.size, 4, none⟩ = some (.int .i64 0) := hk5.cell 4 rfl
  have f4 : w5.frozen? ⟨w.heap.size, 4, none⟩ = false := hk5.frozen 4
  have c5 : w5.cell? ⟨w.heap.size, 5, none⟩ = some (.slice none 0 0) := hk5.cell 5 rfl
  have f5 : w5.frozen? ⟨w.heap.size, 5, none⟩ = false := hk5.frozen 5
  have HK5 := Lib.hid hk5; clear hk5
  go_wp2_with fail
  refine (wire.err_any r A5 cap5 [] 2 w5 HR5.out).mono ?_
  rintro e wx ⟨rfl, rfl⟩
  go_wp2_with fail
  have hk6 := ((((((HK5.out.set 0 (.int .i64 0)).set 1 (.int .i64 0)).set 2 (.int .i64 0)).set 3 (.int .i64 0)).set 4 (.int .i64 0)).set 5 (.slice none 0 0))
  refine bodyPost_ret (res_cell3 rfl _ _ _ _ _ rfl hk6 Try.underlying24 rfl bat.info6) rfl ?_
  exact ⟨rfl, (below_set (below_set (below_set (below_set (below_set (below_set ⟨HB5.out, HB5.out.size⟩ (Nat.le_refl _) 0 _) (Nat.le_refl _) 1 _) (Nat.le_refl _) 2 _) (Nat.le_refl _) 3 _) (Nat.le_refl _) 4 _) (Nat.le_refl _) 5 _).1⟩

set_option maxRecDepth 20000 in
set_option maxHeartbeats 1000000 in
theorem bat.decode_nil (w : World) :
    Calls Try.prog 21 #[.slice none 0 0] w fun e w' => e = .returned (.tuple #[.agg #[.int .i64 0, .int .i64 0, .int .i64 0, .int .i64 0, .int .i64 0, .slice none 0 0], .int .i64 2]) ∧ Below w.heap.size w w' := by
  have hf := fun wx => bat.first_nil wx
  have HF := Lib.hid hf; clear hf
  go_enter Try.func21, Try.ntmps21
  go_wp2_with fail
  have hbk : Blk (w.alloc (.cells #[.int .i64 0, .int .i64 0, .int .i64 0, .int .i64 0, .int .i64 0, .slice none 0 0] 24)) w.heap.size 24 #[.int .i64 0, .int .i64 0, .int .i64 0, .int .i64 0, .int .i64 0, .slice none 0 0] := Blk.new _ _ _
  have hb1 : Below w.heap.size w (w.alloc (.cells #[.int .i64 0, .int .i64 0, .int .i64 0, .int .i64 0, .int .i64 0, .slice none 0 0] 24)) := (Below.refl _ w).alloc (Nat.le_refl _) _
  refine (HF.out _).mono ?_
  rintro e w5 ⟨rfl, hb2⟩
  have hk5 := (chg_of (P := fun _ => False) hb2).blk hbk id
  have HB5 := Lib.hid (hb1.trans (hb2.mono hb1.size)); clear hb1 hb2 hbk
  have hlt := hk5.lt
  have HK5 := Lib.hid hk5; clear hk5
  have hk6 := (Chg.alloc w5 (.cells #[.int .i64 0, .int .i64 0, .int .i64 0, .int .i64 0, .int .i64 0, .slice none 0 0] 24) (fun _ => False)).blk HK5.out id
  have HK6 := Lib.hid hk6; clear hk6
  go_wp2_with (show Go.wpList _ _ _ (⟨_, .store _ (.tmp 2) (.tmp 21), _, _, _, _⟩ :: _) _ _; go_loud (refine wpList_store_row rfl 24 (.tmp 2) (.tmp 21) rfl w.heap.size #[.int .i64 0, .int .i64 0, .int .i64 0, .int .i64 0, .int .i64 0, .slice none 0 0] rfl rfl _ _ HK6.out bat.info6 rfl (by simp [Value.oneCell']) ?_))

  have hk7 := HK6.out.row #[.int .i64 0, .int .i64 0, .int .i64 0, .int .i64 0, .int .i64 0, .slice none 0 0]
  have hb6 := HB5.out.alloc HB5.out.size (.cells #[.int .i64 0, .int .i64 0, .int .i64 0, .int .i64 0, .int .i64 0, .slice none 0 0] 24)
  refine bodyPost_ret (res_cell2 rfl _ _ _ _ _ rfl hk7 Try.underlying24 rfl bat.info6) rfl ?_
  exact ⟨rfl, hb6.trans ((Chg.setRow _ _ _).below hb6.size fun k hk => by have hk : k = w.heap.size := hk; omega)⟩

set_option maxRecDepth 20000 in
set_option maxHeartbeats 1000000 in
theorem law5.awake (w : World) :
    Calls Try.prog 12 #[] w fun e w' => e = .returned (.bool true) ∧ Below w.heap.size w w' := by
  have henc := fun wx => bat.encode_any ⟨5, 5, 0, 0, 0, []⟩ none 0 wx (RecsV.none5 wx) (by decide)
  have hdec := fun wx => bat.decode_nil wx
  have hchk := fun wx => bat.check_any ⟨1, 0, 0, 0, 0, []⟩ none 0 wx (RecsV.none5 wx)
  rw [show Bat.check ⟨1, 0, 0, 0, 0, []⟩ = 1 by decide] at hchk
  rw [Bat.bytes_len0 _ rfl] at henc
  unfold Bat.hval at henc hchk
  have HENC := Lib.hid henc; clear henc
  have HDEC := Lib.hid hdec; clear hdec
  have HCHK := Lib.hid hchk; clear hchk
  go_enter Try.func12, Try.ntmps12
  go_wp2_with fail
  refine (HENC.out _).mono ?_
  rintro e w1 ⟨⟨v, rfl, hown⟩, hb1⟩
  obtain ⟨A, c, rfl, -, -, -⟩ := own_bytes hown
  clear hown
  have HB1 := Lib.hid hb1; clear hb1
  go_wp2_with fail
  refine (HDEC.out _).mono ?_
  rintro e w2 ⟨rfl, hb2⟩
  have HB2 := Lib.hid (HB1.out.trans (hb2.mono HB1.out.size)); clear hb2
  go_wp2_with fail
  refine (HCHK.out _).mono ?_
  rintro e w3 ⟨rfl, hb3⟩
  have h0 := HB2.out.alloc HB2.out.size (.cells #[.int .i64 0, .int .i64 0, .int .i64 0, .int .i64 0, .int .i64 0, .slice none 0 0] 24)
  have HB3 := Lib.hid (h0.trans (hb3.mono h0.size)); clear hb3 h0
  go_wp2
  go_ret
  exact ⟨rfl, HB3.out⟩
end Go.Proofs.Ytndingohckcmdaa

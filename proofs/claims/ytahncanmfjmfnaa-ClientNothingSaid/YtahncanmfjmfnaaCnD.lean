/- client: a reader asks. -/
import Derived.Test.YtahncanmfjmfnaaCnC
namespace Go.Proofs.Ytahncanmfjmfnaa
open Go.RowKit Go.Maps
set_option maxRecDepth 100000

def cn.fetch (corr : Int) (topic : ByteArray) (part offset most : Int) : Array Value := #[.int .i64 5, .int .i64 corr, .string (ByteArray.mk #[]), .string topic, .int .i64 part, .int .i64 offset, .int .i64 0, .int .i64 most, .string (ByteArray.mk #[]), .string (ByteArray.mk #[]), .int .i64 0, .slice none 0 0, .slice none 0 0]
set_option maxHeartbeats 4000000 in
theorem cn.ask_any (p : Nat) (topic : ByteArray) (part offset corr most : Int) (w : World) (h : RdrAt w p topic part offset corr) (hc : 0 ≤ corr ∧ corr ≤ 1000000000) :
    Calls Try.prog 19 #[.pointer (some ⟨p, 0, none⟩), .int .i64 most] w fun e w' => e = .returned (.agg (cn.fetch (corr + 1) topic part offset most)) ∧ RdrAt w' p topic part offset (corr + 1) ∧ Chg w w' (fun k => k = p) := by
  obtain ⟨g, hg⟩ : ∃ g, g = w.heap.size := ⟨_, rfl⟩
  obtain ⟨w1, hw1⟩ : ∃ w1, w1 = w.alloc (.cells cn.zero 35) := ⟨_, rfl⟩
  have hpl := h.lt
  have hk1 : Blk w1 p 93 #[.string topic, .int .i64 part, .int .i64 offset, .int .i64 corr] := by rw [hw1]; exact (Chg.alloc _ _ (fun _ => False)).blk h fun q => q
  have hz1 : Blk w1 g 35 cn.zero := by rw [hw1, hg]; exact Blk.new _ _ _
  have hc1 : Chg w w1 (fun _ => False) := by rw [hw1]; exact Chg.alloc _ _ _
  have c3 := hk1.cell 3 rfl
  have f3 := hk1.frozen 3
  have l3 := hk1.lt
  unfold cn.zero at hw1
  have H1 := Lib.hid (And.intro hk1 (And.intro hz1 (And.intro hc1 (And.intro hw1 hg)))); clear hk1 hz1 hc1 hg
  clear hw1
  go_enter Try.func19, Try.ntmps19
  go_upto_region 3 with fail
  rw [← H1.out.2.2.2.1, ← H1.out.2.2.2.2]
  go_upto_region 4 with fail
  clear c3 f3 l3
  obtain ⟨w2, hw2⟩ : ∃ w2, w2 = w1.setCell ⟨p, 3, none⟩ (.int .i64 (corr + 1)) := ⟨_, rfl⟩
  rw [← hw2]
  have hgp : ¬ p = g := by have := H1.out.2.2.2.2; omega
  have hk2 : Blk w2 p 93 #[.string topic, .int .i64 part, .int .i64 offset, .int .i64 (corr + 1)] := by rw [hw2]; exact H1.out.1.set 3 _
  have hc12 : Chg w1 w2 (fun k => k = p) := by rw [hw2]; exact Chg.setCell _ _ _ _
  have hz2 : Blk w2 g 35 cn.zero := hc12.blk H1.out.2.1 fun e => hgp e.symm
  have p0 : ∀ x : Later w2 (fun k => k = g), x.1.cell? ⟨p, 0, none⟩ = some (.string topic) := fun x => (x.2.blk hk2 hgp).cell 0 rfl
  have p1 : ∀ x : Later w2 (fun k => k = g), x.1.cell? ⟨p, 1, none⟩ = some (.int .i64 part) := fun x => (x.2.blk hk2 hgp).cell 1 rfl
  have p2 : ∀ x : Later w2 (fun k => k = g), x.1.cell? ⟨p, 2, none⟩ = some (.int .i64 offset) := fun x => (x.2.blk hk2 hgp).cell 2 rfl
  have p3 : ∀ x : Later w2 (fun k => k = g), x.1.cell? ⟨p, 3, none⟩ = some (.int .i64 (corr + 1)) := fun x => (x.2.blk hk2 hgp).cell 3 rfl
  have v2 : w2.drew.cell? ⟨p, 2, none⟩ = some (.int .i64 offset) := p2 ⟨w2.drew, (Chg.refl _ _).drew⟩
  have H2 := Lib.hid (And.intro hk2 (And.intro hc12 (And.intro hz2 hw2))); clear hk2 hc12 hz2 hw2
  have hS0 : later w2 (fun k => k = g) w2.drew := later_of ((Chg.refl _ _).drew)
  refine wp_plan (S := fun w0 => ∃ x : Later w2 (fun k => k = g), w0 = x.1) (by kernel_rfl) hS0 ?_
  intro hS' K5 hK5
  have HS := Lib.hid hS'; clear hS' hS0
  refine plan_group [true, true, true, true, true, true, true, true, true, true, true, true, true, true, true, false, true] [0, 1, 2, 3, 4, 5, 6, 7, 8, 9, 10, 11, 12, 13, 14, 16] 3 (by dsimp only [sel]) (by rfl) rfl (by kernel_rfl) (by kernel_rfl) HS.out ?_
  (repeat go_big_quiet_step (fail)); refine wpQuiet_nil ?_
  refine plan_one [false, false, false, false, false, false, false, false, false, false, false, false, false, false, false, true] 15 2 (by dsimp only [sel]) (by rfl) rfl (by kernel_rfl) ?_; intro K1 hK1; go_wp2_with fail
  refine ⟨by first | exact HS.out | exact fun _ => HS.out, ?_⟩
  refine plan_group [false, false, false, false, false, false, false, false, false, false, false, false, false, false, false, false, false, true] [17] 1 (by dsimp only [sel]) (by rfl) rfl (by kernel_rfl) (by kernel_rfl) HS.out ?_
  (repeat go_big_quiet_step (fail)); refine wpQuiet_nil ?_
  refine plan_one [false, false, false, false, false, false, false, false, false, false, false, false, false, false, false, false, false, false, true] 18 0 (by dsimp only [sel]) (by rfl) rfl (by kernel_rfl) ?_; intro K1 hK1
  have hz2' : Blk w2.drew g 35 cn.zero := H2.out.2.2.1
  go_wp2_with (refine wpList_store_row rfl 35 (.tmp 4) (.tmp 32) rfl g (cn.fetch (corr + 1) topic part offset most) rfl rfl 35 _ hz2' cn.infoReq rfl (by simp [cn.fetch, Value.oneCell']) ?_)
  obtain ⟨w3, hw3⟩ : ∃ w3, w3 = w2.drew.setRow g (cn.fetch (corr + 1) topic part offset most) := ⟨_, rfl⟩
  rw [← hw3]
  have hc3 : Chg w2 w3 (fun k => k = g) := by rw [hw3]; exact ((Chg.refl w2 (fun k => k = g)).drew).trans (cn.chg_row _ _ _) fun _ _ q => q
  have hz3 : Blk w3 g 35 (cn.fetch (corr + 1) topic part offset most) := by rw [hw3]; exact cn.blk_row hz2' _
  have hl3 : later w2 (fun k => k = g) w3 := later_of hc3
  refine ⟨by first | exact hl3 | exact fun _ => hl3, ?_⟩
  refine wp_plan_end (by kernel_rfl) ?_
  clear hw3 p0 p1 p2 p3 v2 hl3
  go_wp2_with fail
  refine bodyPost_ret (cn.res_cell1 rfl _ _ _ _ _ rfl hz3 Try.underlying35 rfl cn.infoReq) rfl ?_
  have hc13 : Chg w w2 (fun k => k = p) := (H1.out.2.2.1.mono fun _ _ q => q.elim).trans H2.out.2.1 fun _ _ q => q
  exact ⟨rfl, hc3.blk H2.out.1 hgp, hc13.trans hc3 fun k hk q => absurd hk (by rw [show k = g from q, H1.out.2.2.2.2]; exact Nat.lt_irrefl _)⟩
end Go.Proofs.Ytahncanmfjmfnaa

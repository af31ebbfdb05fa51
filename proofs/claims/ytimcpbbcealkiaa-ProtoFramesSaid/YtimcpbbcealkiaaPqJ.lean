/- proto: what the document fixes (chapter 20). -/
import Derived.BigQuiet
import Derived.Test.YtimcpbbcealkiaaPqR
import Derived.Test.YtimcpbbcealkiaaPqD
namespace Go.Proofs.Ytimcpbbcealkiaa
open Go.RowKit Go.Maps
set_option maxRecDepth 20000

def aw.req : PReq := ⟨3, 7, ByteArray.mk #[], ByteArray.mk #[], 0, 0, 0, 0, ByteArray.mk #[], ByteArray.mk #[], 0, [], []⟩
def aw.ask : List Nat := pq.bytes aw.req
theorem aw.check : pq.check aw.req = 0 := by decide +kernel
theorem aw.reqV (w : World) : ReqV w none 0 none 0 aw.req :=
  ⟨⟨by unfold pq.int aw.req; decide, by unfold aw.req maxLen; decide⟩, ⟨none, 0, rfl, At.none0 rfl, Nat.le_refl _, Nat.zero_le _, fun s h => by cases h⟩, ⟨none, 0, rfl, At.none0 rfl, Nat.le_refl _, Nat.zero_le _, fun s h => by cases h⟩⟩
theorem aw.dec0 : (pq.dec aw.ask).2.1 = 7 ∧ (pq.dec aw.ask).2.2 = 0 ∧ (pq.dec aw.ask).1.kind = 3 := by decide +kernel
theorem aw.dec1 : (pq.dec []).2.2 = 2 := by decide +kernel
theorem aw.dec2 : (pq.dec [0, 99, 0, 0, 0, 9, 1]).2.1 = 9 ∧ (pq.dec [0, 99, 0, 0, 0, 9, 1]).2.2 = 16 := by decide +kernel
theorem aw.len : aw.ask.length ≤ 1000 ∧ ∀ x ∈ aw.ask, x < 256 := by decide +kernel

set_option maxHeartbeats 8000000 in
theorem law20.awake (w : World) : Calls Try.prog 9 #[] w fun e w' => e = .returned (.bool true) ∧ Below w.heap.size w w' := by
  have henc := pq.encode_ok aw.req none 0 none 0 w (aw.reqV w) aw.check
  unfold PReq.cells at henc
  rw [show pq.bytes aw.req = aw.ask from rfl] at henc
  obtain ⟨n, hn⟩ : ∃ n, n = aw.ask.length := ⟨_, rfl⟩
  have hd0 : ∀ wx A c, wx.ownsRow w.heap.size 5 1 (.slice A n c) n (u8s aw.ask) → Calls Try.prog 12 #[.slice A n c] wx fun en w' => (∃ cs : Array Value, en = .returned (.tuple #[.agg cs, .int .i64 7, .int .i64 0]) ∧ (cs.size = 13 ∧ cs.all (fun v => v.oneCell') = true) ∧ cs[0]? = some (.int .i64 3)) ∧ Below wx.heap.size wx w' := fun wx A c h => by
    have hl := aw.len
    obtain ⟨A9, c9, e9, h1, -, h2⟩ := own_bytes h
    obtain ⟨rfl, rfl⟩ : A = A9 ∧ c = c9 := by injection e9 with e1 e2 e3; exact ⟨e1, e3⟩
    have := pq.decode_any A c aw.ask wx (by rw [← hn]; exact h2) (by rw [← hn]; exact h1) (own_cap h) hl.2 (by omega)
    rw [← hn] at this
    refine this.mono ?_
    rintro en w' ⟨⟨cs, rfl, q1, -, q2⟩, q3⟩
    obtain ⟨An, cn, Ad, cd, q4, -⟩ := q2 aw.dec0.2.1
    refine ⟨⟨cs, by rw [aw.dec0.1, aw.dec0.2.1], q1, ?_⟩, q3⟩
    rw [q4]
    unfold PReq.cells
    rw [aw.dec0.2.2]
    rfl
  have hd1 : ∀ wx, Calls Try.prog 12 #[.slice none 0 0] wx fun en w' => (∃ (cs : Array Value) (x : Int), en = .returned (.tuple #[.agg cs, .int .i64 x, .int .i64 2]) ∧ (cs.size = 13 ∧ cs.all (fun v => v.oneCell') = true)) ∧ Below wx.heap.size wx w' := fun wx => by
    refine (pq.decode_any none 0 [] wx (At.none0 rfl) (Nat.le_refl _) (Nat.zero_le _) (fun x h => by cases h) (by simp)).mono ?_
    rintro en w' ⟨⟨cs, rfl, q1, -⟩, q3⟩
    exact ⟨⟨cs, _, by rw [aw.dec1], q1⟩, q3⟩
  have hd2 : ∀ wx, Calls Try.prog 12 #[.slice (some ⟨wx.heap.size, 0, none⟩) 7 7] (wx.alloc (.cells #[.int .u8 0, .int .u8 99, .int .u8 0, .int .u8 0, .int .u8 0, .int .u8 9, .int .u8 1] 5)) fun en w' => (∃ cs : Array Value, en = .returned (.tuple #[.agg cs, .int .i64 9, .int .i64 16]) ∧ (cs.size = 13 ∧ cs.all (fun v => v.oneCell') = true)) ∧ Below wx.heap.size wx w' := fun wx => by
    have hat : At (wx.alloc (.cells #[.int .u8 0, .int .u8 99, .int .u8 0, .int .u8 0, .int .u8 0, .int .u8 9, .int .u8 1] 5)) (some ⟨wx.heap.size, 0, none⟩) 7 (byteAt [0, 99, 0, 0, 0, 9, 1]) :=
      (At.new wx #[.int .u8 0, .int .u8 99, .int .u8 0, .int .u8 0, .int .u8 0, .int .u8 9, .int .u8 1] 5 (fr := (0, 0)) (n := 7) rfl).congr fun j hj => by
        have hj' : j = 0 ∨ j = 1 ∨ j = 2 ∨ j = 3 ∨ j = 4 ∨ j = 5 ∨ j = 6 := by omega
        rcases hj' with rfl | rfl | rfl | rfl | rfl | rfl | rfl <;> rfl
    refine (pq.decode_any (some ⟨wx.heap.size, 0, none⟩) 7 [0, 99, 0, 0, 0, 9, 1] _ hat (Nat.le_refl _) (by unfold maxLen; omega) (by decide) (by decide)).mono ?_
    rintro en w' ⟨⟨cs, rfl, q1, -⟩, q3⟩
    exact ⟨⟨cs, by rw [aw.dec2.1, aw.dec2.2], q1⟩, ((Below.refl wx.heap.size wx).alloc (Nat.le_refl _) _).trans (q3.mono (by rw [World.size_alloc]; omega))⟩
  have hnl : n ≤ 1000 := by rw [hn]; exact aw.len.1
  have HD := Lib.hid (And.intro henc (And.intro hd0 (And.intro hd1 (And.intro hd2 hn)))); clear henc hd0 hd1 hd2 hn
  go_enter Try.func9, Try.ntmps9
  go_upto_region 2 with (go_at_call 10; refine HD.out.1.mono ?_; rintro en w1 ⟨⟨v, rfl, q1⟩, q2⟩; rw [← HD.out.2.2.2.2] at q1; obtain ⟨A1, c1, rfl, -, -⟩ := own_at q1; have H1 := Lib.hid (And.intro q1 q2); clear q1 q2)
  go_upto_region 3 with (first
    | (show Go.wpList _ _ _ (⟨_, .store _ (.tmp 3) (.tmp 20), _, _, _, _⟩ :: _) _ _; go_loud (refine wpList_store_row rfl 25 (.tmp 3) (.tmp 20) rfl w2.heap.size cs rfl rfl 25 pq.zero (Blk.new w2 25 pq.zero) (by rw [H2.out.1.1]; exact pq.infoReq) (by rw [H2.out.1.1]; rfl) H2.out.1.2 ?_))
    | (go_at_call 12; refine (HD.out.2.1 w1 A1 c1 H1.out.1).mono ?_; rintro en w2 ⟨⟨cs, rfl, q1, q2⟩, q3⟩; have H2 := Lib.hid (And.intro q1 (And.intro q2 q3)); clear q1 q2 q3))
  obtain ⟨b2, hb2⟩ : ∃ b, b = w2.heap.size := ⟨_, rfl⟩
  obtain ⟨v2, hv2⟩ : ∃ v, v = (w2.alloc (.cells #[.int .i64 0, .int .i64 0, .string (ByteArray.mk #[]), .string (ByteArray.mk #[]), .int .i64 0, .int .i64 0, .int .i64 0, .int .i64 0, .string (ByteArray.mk #[]), .string (ByteArray.mk #[]), .int .i64 0, .slice none 0 0, .slice none 0 0] 25)).setRow w2.heap.size cs := ⟨_, rfl⟩
  rw [← hv2, ← hb2]
  have hkv2 : Blk v2 b2 25 cs := by rw [hv2, hb2]; exact pq.blk_row (Blk.new w2 25 pq.zero) _
  have hcv2 : Below w2.heap.size w2 v2 := by
    rw [hv2]
    exact ((Chg.alloc w2 _ (fun _ => False)).trans (pq.chg_row _ _ _) fun k hk q => absurd hk (by rw [show k = w2.heap.size from q]; exact Nat.lt_irrefl _)).below (Nat.le_refl _) fun _ q => q.elim
  clear hv2 hb2
  have H3 := Lib.hid (And.intro hkv2 hcv2); clear hkv2 hcv2
  go_upto_region 4 with (first
    | (show Go.wpList _ _ _ (⟨_, .store _ (.tmp 6) (.tmp 25), _, _, _, _⟩ :: _) _ _; go_loud (refine wpList_store_row rfl 25 (.tmp 6) (.tmp 25) rfl w3.heap.size ds rfl rfl 25 pq.zero (Blk.new w3 25 pq.zero) (by rw [H4.out.1.1]; exact pq.infoReq) (by rw [H4.out.1.1]; rfl) H4.out.1.2 ?_))
    | (go_at_call 12; refine (HD.out.2.2.1 v2).mono ?_; rintro en w3 ⟨⟨ds, x3, rfl, q1⟩, q3⟩; have H4 := Lib.hid (And.intro q1 q3); clear q1 q3))
  obtain ⟨b3, hb3⟩ : ∃ b, b = w3.heap.size := ⟨_, rfl⟩
  obtain ⟨v3, hv3⟩ : ∃ v, v = (w3.alloc (.cells #[.int .i64 0, .int .i64 0, .string (ByteArray.mk #[]), .string (ByteArray.mk #[]), .int .i64 0, .int .i64 0, .int .i64 0, .int .i64 0, .string (ByteArray.mk #[]), .string (ByteArray.mk #[]), .int .i64 0, .slice none 0 0, .slice none 0 0] 25)).setRow w3.heap.size ds := ⟨_, rfl⟩
  rw [← hv3, ← hb3]
  have hkv3 : Blk v3 b3 25 ds := by rw [hv3, hb3]; exact pq.blk_row (Blk.new w3 25 pq.zero) _
  have hcv3 : Below w3.heap.size w3 v3 := by
    rw [hv3]
    exact ((Chg.alloc w3 _ (fun _ => False)).trans (pq.chg_row _ _ _) fun k hk q => absurd hk (by rw [show k = w3.heap.size from q]; exact Nat.lt_irrefl _)).below (Nat.le_refl _) fun _ q => q.elim
  clear hv3 hb3
  have H5 := Lib.hid (And.intro hkv3 hcv3); clear hkv3 hcv3
  go_upto_region 5 with (first
    | (show Go.wpList _ _ _ (⟨_, .store _ (.tmp 9) (.tmp 31), _, _, _, _⟩ :: _) _ _; go_loud (refine wpList_store_row rfl 25 (.tmp 9) (.tmp 31) rfl w4.heap.size es rfl rfl 25 pq.zero (Blk.new w4 25 pq.zero) (by rw [H6.out.1.1]; exact pq.infoReq) (by rw [H6.out.1.1]; rfl) H6.out.1.2 ?_))
    | (go_at_call 12; refine (HD.out.2.2.2.1 v3).mono ?_; rintro en w4 ⟨⟨es, rfl, q1⟩, q3⟩; have H6 := Lib.hid (And.intro q1 q3); clear q1 q3))
  obtain ⟨b4, hb4⟩ : ∃ b, b = w4.heap.size := ⟨_, rfl⟩
  obtain ⟨v4, hv4⟩ : ∃ v, v = (w4.alloc (.cells #[.int .i64 0, .int .i64 0, .string (ByteArray.mk #[]), .string (ByteArray.mk #[]), .int .i64 0, .int .i64 0, .int .i64 0, .int .i64 0, .string (ByteArray.mk #[]), .string (ByteArray.mk #[]), .int .i64 0, .slice none 0 0, .slice none 0 0] 25)).setRow w4.heap.size es := ⟨_, rfl⟩
  rw [← hv4, ← hb4]
  have hkv4 : Blk v4 b4 25 es := by rw [hv4, hb4]; exact pq.blk_row (Blk.new w4 25 pq.zero) _
  have hcv4 : Below w4.heap.size w4 v4 := by
    rw [hv4]
    exact ((Chg.alloc w4 _ (fun _ => False)).trans (pq.chg_row _ _ _) fun k hk q => absurd hk (by rw [show k = w4.heap.size from q]; exact Nat.lt_irrefl _)).below (Nat.le_refl _) fun _ q => q.elim
  clear hv4 hb4
  have s1 := H1.out.2.size
  have s2 := H2.out.2.2.size
  have s3 := H3.out.2.size
  have s4 := H4.out.2.size
  have s5 := H5.out.2.size
  have s6 := H6.out.2.size
  have hb : Below w.heap.size w v4 := (((((H1.out.2.trans (H2.out.2.2.mono (by omega))).trans (H3.out.2.mono (by omega))).trans (H4.out.2.mono (by omega))).trans (H5.out.2.mono (by omega))).trans (H6.out.2.mono (by omega))).trans (hcv4.mono (by omega))
  have hk2 : Blk v4 b2 25 cs := (chg_of (P := fun _ => False) hcv4).blk ((chg_of (P := fun _ => False) H6.out.2).blk ((chg_of (P := fun _ => False) H5.out.2).blk ((chg_of (P := fun _ => False) H4.out.2).blk H3.out.1 fun q => q) fun q => q) fun q => q) fun q => q
  have y0 := hk2.cell 0 H2.out.2.1
  have yl := hk2.lt
  have HB := Lib.hid hb; clear hb hcv4 hkv4 hk2 s1 s2 s3 s4 s5 s6
  go_wp2
  go_ret
  exact ⟨rfl, HB.out⟩
end Go.Proofs.Ytimcpbbcealkiaa

/- cordwainref20: Decode (chapter 20). -/
import Derived.BigQuiet
import Derived.Deep.CutRange
import Derived.Test.YtimcpbbcealkiaaQcX
import Derived.Test.YtimcpbbcealkiaaQcY
import Derived.Test.YtimcpbbcealkiaaPlanE
import Derived.Test.YtimcpbbcealkiaaPqS
import Derived.Test.YtimcpbbcealkiaaPlanC
namespace Go.Proofs.Ytimcpbbcealkiaa
open Go.RowKit
set_option maxRecDepth 20000
/-- Under way: the request's box, the result's cells, the reader. -/
structure qf.St (w v : World) (r b0 bx : Nat) (cs : Array Value) (A0 : Option Addr) (L0 L : List Nat) (e : Int) : Prop where
  x : Blk v bx 25 cs
  z : Blk v b0 25 pq.zero
  rd : RrP A0 L0 v r L e
  low : Below w.heap.size w v
  apart : w.heap.size ≤ r ∧ w.heap.size ≤ b0 ∧ w.heap.size ≤ bx ∧ r ≠ b0 ∧ r ≠ bx ∧ b0 ≠ bx
  arg : ∀ b off, A0 = some ⟨b, off, none⟩ → b < w.heap.size
theorem qf.St.call {w v v1 : World} {r b0 bx : Nat} {cs : Array Value} {A0 : Option Addr} {L0 L L1 : List Nat} {e e1 : Int} (h : qf.St w v r b0 bx cs A0 L0 L e) (h1 : RrP A0 L0 v1 r L1 e1) (h2 : Chg v v1 (rrT r)) : qf.St w v1 r b0 bx cs A0 L0 L1 e1 := by
  obtain ⟨l1, l2, l3, l4, l5, l6⟩ := h.apart
  exact ⟨h2.blk h.x fun q => l5 (show bx = r from q).symm, h2.blk h.z fun q => l4 (show b0 = r from q).symm, h1, h.low.trans (h2.below h.low.size fun k hk => by have hk : k = r := hk; omega), h.apart, h.arg⟩
theorem qf.St.store {w v : World} {r b0 bx : Nat} {cs : Array Value} {A0 : Option Addr} {L0 L : List Nat} {e : Int} (h : qf.St w v r b0 bx cs A0 L0 L e) (i : Nat) (x : Value) : qf.St w (v.setCell ⟨bx, i, none⟩ x) r b0 bx (cs.setIfInBounds i x) A0 L0 L e := by
  obtain ⟨l1, l2, l3, l4, l5, l6⟩ := h.apart
  have hc := Chg.setCell v bx i x
  exact ⟨h.x.set i x, hc.blk h.z l6, h.rd.chg hc l5 fun b off hA hB => by have hB : b = bx := hB; have := h.arg b off hA; omega, h.low.trans (hc.below h.low.size fun k hk => by have hk : k = bx := hk; omega), h.apart, h.arg⟩
/-- What the document's Decode answers, by what the program's says. -/
def qf.Post (R : PReq × Int × Int) (w : World) (en : Ending) (w' : World) : Prop :=
  ∃ (cs : Array Value) (e : Int), en = .returned (.tuple #[.agg cs, .int .i64 R.2.1, .int .i64 e]) ∧ (cs.size = 13 ∧ cs.all (fun v => v.oneCell') = true) ∧ (R.2.2 = 0 → e = 0 ∧ ∃ An cn Ad cd, cs = R.1.cells An cn Ad cd ∧ ReqV w' An cn Ad cd R.1) ∧
    (R.2.2 ≠ 0 → cs = pq.zero ∧ ((e = R.2.2 ∧ 0 ≤ e) ∨ (e = -1 ∧ (R.2.2 = 2 ∨ R.2.2 = 3)))) ∧ Below w.heap.size w w'
theorem qf.post_no {R : PReq × Int × Int} {w w' : World} (c e : Int) (h1 : R.2.1 = c) (h2 : R.2.2 ≠ 0) (h3 : (e = R.2.2 ∧ 0 ≤ e) ∨ (e = -1 ∧ (R.2.2 = 2 ∨ R.2.2 = 3))) (hb : Below w.heap.size w w') : qf.Post R w (.returned (.tuple #[.agg pq.zero, .int .i64 c, .int .i64 e])) w' :=
  ⟨pq.zero, e, by rw [h1], pq.zero_one, fun h => absurd h h2, fun _ => ⟨rfl, h3⟩, hb⟩
theorem qf.getfixed (A : Option Addr) (c : Nat) (L M : List Nat) (n k : Nat) (b off : Nat) (hA : A = some ⟨b, off, none⟩) (w : World) (hat : At w A n (byteAt L)) (hn : L.length = n) (hk : k ≤ 8) (l : Nat) (hl : l + k ≤ n) (hM : M = (L.drop l).take k) (hb : ∀ x ∈ L, x < 256) (hk8 : k ≠ 8) :
    Calls Try.prog 42 #[.slice (some ⟨b, off + l, none⟩) k c] w fun e w' => e = .returned (.int .i64 (wire.val M : Nat)) ∧ w' = w := by
  subst hA
  have hlen : M.length = k := by rw [hM, List.length_take, List.length_drop]; omega
  have h1 := (hat.byte_from l).byte_le k (by omega)
  rw [← hM] at h1
  have h2 : ((some (⟨b, off, none⟩ : Addr)).map fun a => a.add l) = some ⟨b, off + l, none⟩ := by simp [add_none]
  rw [h2] at h1
  refine (wire.refgetfixed_any (some ⟨b, off + l, none⟩) k c M w hlen h1 (fun x hx => hb x ?_) hk (fun h => absurd h hk8)).mono ?_
  · rw [hM] at hx
    exact List.mem_of_mem_drop (List.mem_of_mem_take hx)
  · rintro e w' ⟨rfl, h3⟩
    exact ⟨rfl, h3.symm⟩
theorem qf.cells_eq (r : PReq) (An : Option Addr) (cn : Nat) (Ad : Option Addr) (cd : Nat) : (r.cells An cn Ad cd).size = 13 ∧ (r.cells An cn Ad cd).all (fun v => v.oneCell') = true := ⟨rfl, by simp [PReq.cells, Value.oneCell']⟩
set_option maxHeartbeats 8000000 in
theorem qf.decode_any (A0 : Option Addr) (c : Nat) (L : List Nat) (w : World) (hat : At w A0 L.length (byteAt L)) (h1 : L.length ≤ c) (h2 : c ≤ maxLen) (hb : ∀ x ∈ L, x < 256) (hL : L.length ≤ 5000) :
    Calls Try.prog 13 #[.slice A0 L.length c] w (qf.Post (pq.dec L) w) := by
  obtain ⟨b0, hb0⟩ : ∃ b, b = w.heap.size := ⟨_, rfl⟩
  obtain ⟨w1, hw1⟩ : ∃ w1, w1 = w.alloc (.cells pq.zero 25) := ⟨_, rfl⟩
  have hk0 : Blk w1 b0 25 pq.zero := by rw [hw1, hb0]; exact Blk.new _ _ _
  have hb01 : Below w.heap.size w w1 := by rw [hw1]; exact (Below.refl _ _).alloc (Nat.le_refl _) _
  obtain ⟨n, hn⟩ : ∃ n, n = L.length := ⟨_, rfl⟩
  obtain ⟨R, hR⟩ : ∃ R, R = pq.dec L := ⟨_, rfl⟩
  rw [← hR]
  rw [← hn] at hat h1 hL ⊢
  unfold maxLen at h2
  have HB := Lib.hid (And.intro hk0 (And.intro hb01 hb0)); clear hk0 hb01
  have hone := pq.zero_one.2
  have HONE := Lib.hid hone; clear hone
  by_cases h6 : n < 6
  · have hR2 : R = (pq.noReq, 0, 2) := by rw [hR]; exact qf.dec_low L (by omega)
    have HR := Lib.hid hR2; clear hR2 hR hat hb hn
    have d0 : decide (6 ≤ n) = false := decide_eq_false (by omega)
    have d0' : decide (6 ≤ (n : Int)) = false := decide_eq_false (by omega)
    have d1 : decide (131072 < n) = false := decide_eq_false (by omega)
    have d1' : decide (131072 < (n : Int)) = false := decide_eq_false (by omega)
    have d2 : decide (n < 6) = true := decide_eq_true h6
    have d2' : decide ((n : Int) < 6) = true := decide_eq_true (by omega)
    go_enter Try.func13, Try.ntmps13
    go_upto_region 1 with fail
    unfold pq.zero at hw1
    rw [← hw1, ← hb0]
    clear hw1 hb0
    go_wp2_with (show Go.wpList _ _ _ (⟨_, .store _ (.tmp 2) (.tmp 28), _, _, _, _⟩ :: _) _ _; go_loud (refine wpList_store_row rfl 25 (.tmp 2) (.tmp 28) rfl b0 pq.zero rfl rfl 25 _ HB.out.1 pq.infoReq rfl HONE.out ?_))
    have hz9 := pq.blk_row HB.out.1 pq.zero
    have hb9 : Below w.heap.size w (w1.setRow b0 pq.zero) := HB.out.2.1.trans ((pq.chg_row w1 b0 pq.zero).below HB.out.2.1.size fun k hk => by have hk : k = b0 := hk; have := HB.out.2.2; omega)
    generalize w1.setRow b0 pq.zero = w9 at *
    refine bodyPost_ret (res_cell3 rfl _ _ b0 pq.zero _ rfl hz9 Try.underlying25 rfl pq.infoReq) rfl ?_
    exact qf.post_no 0 2 (by rw [HR.out]) (by rw [HR.out]; show ¬ ((2 : Int) = 0); decide) (.inl ⟨by rw [HR.out], by decide⟩) hb9
  have d0 : decide (6 ≤ n) = true := decide_eq_true (by omega)
  have d0' : decide (6 ≤ (n : Int)) = true := decide_eq_true (by omega)
  have d1 : decide (131072 < n) = false := decide_eq_false (by omega)
  have d1' : decide (131072 < (n : Int)) = false := decide_eq_false (by omega)
  have d2 : decide (n < 6) = false := decide_eq_false h6
  have d2' : decide ((n : Int) < 6) = false := decide_eq_false (by omega)
  have h6n : 6 ≤ n := by omega
  have h6c : 6 ≤ c := by omega
  clear h6
  obtain ⟨ab, aoff, hA, hab, -⟩ := hat (show 0 < n by omega)
  have hde := qf.dec_eq L (by omega) (by omega)
  rw [← hR] at hde
  obtain ⟨Kn, hKn⟩ : ∃ k, k = wire.val (L.take 2) := ⟨_, rfl⟩
  obtain ⟨Cn, hCn⟩ : ∃ k, k = wire.val ((L.drop 2).take 4) := ⟨_, rfl⟩
  have hKb : Kn ≤ 65535 := by
    have h3 := wire.val_lt (L.take 2) fun x hx => hb x (List.mem_of_mem_take hx)
    rw [List.length_take, Nat.min_eq_left (by omega)] at h3
    have : 256 ^ 2 = 65536 := by decide
    omega
  have hCb : Cn ≤ 4294967295 := by
    have h3 := wire.val_lt ((L.drop 2).take 4) fun x hx => hb x (List.mem_of_mem_drop (List.mem_of_mem_take hx))
    rw [List.length_take, List.length_drop, Nat.min_eq_left (by omega)] at h3
    have : 256 ^ 4 = 4294967296 := by decide
    omega
  have hg1 : ∀ wx, Below w.heap.size w wx → ∀ cx, Calls Try.prog 42 #[.slice (some ⟨ab, aoff + 2, none⟩) 4 cx] wx fun e w' => e = .returned (.int .i64 (Cn : Int)) ∧ w' = wx := fun wx h cx => by
    have h3 := qf.getfixed A0 cx L ((L.drop 2).take 4) n 4 ab aoff hA wx (hat.below h (Nat.le_refl _)) hn.symm (by omega) 2 (by omega) rfl hb (by omega)
    rw [← hCn] at h3
    exact h3
  have hg2 : ∀ wx, Below w.heap.size w wx → ∀ cx, Calls Try.prog 42 #[.slice (some ⟨ab, aoff, none⟩) 2 cx] wx fun e w' => e = .returned (.int .i64 (Kn : Int)) ∧ w' = wx := fun wx h cx => by
    have h3 := qf.getfixed A0 cx L (L.take 2) n 2 ab aoff hA wx (hat.below h (Nat.le_refl _)) hn.symm (by omega) 0 (by omega) rfl hb (by omega)
    rw [← hKn] at h3
    exact h3
  rw [← hKn, ← hCn] at hde
  clear hKn hCn
  obtain ⟨C, hC⟩ : ∃ C : Int, C = if 2147483647 < (Cn : Int) then 0 else (Cn : Int) := ⟨_, rfl⟩
  rw [← hC] at hde
  subst hA
  have HG := Lib.hid (And.intro hg1 (And.intro hg2 (And.intro hat (And.intro hb (And.intro hn (And.intro hab (And.intro hde (And.intro hR hC)))))))); clear hg1 hg2 hat hb hn hde hR hC
  go_enter Try.func13, Try.ntmps13
  go_upto_region 1 with fail
  unfold pq.zero at hw1
  rw [← hw1, ← hb0]
  clear hw1 hb0
  go_upto_if 12 with fail
  go_cut [5] from 10 (fun s5 wx => s5 = .int .i64 C ∧ w1 = wx)
  case first =>
    by_cases hfar : 2147483647 < (Cn : Int)
    · have e0 : decide (2147483647 < (Cn : Int)) = true := decide_eq_true hfar
      have e0' : decide (2147483647 < Cn) = true := decide_eq_true (by omega)
      have hCC : C = 0 := by rw [HG.out.2.2.2.2.2.2.2.2, if_pos hfar]
      have HCC := Lib.hid hCC; clear hCC
      go_wp2_with (go_at_call 42; refine (HG.out.1 w1 HB.out.2.1 _).mono ?_; rintro en w2 ⟨rfl, h3⟩; subst h3)
      go_meet
      case rel => exact ⟨by rw [HCC.out], rfl⟩
    · have e0 : decide (2147483647 < (Cn : Int)) = false := decide_eq_false hfar
      have e0' : decide (2147483647 < Cn) = false := decide_eq_false (by omega)
      have hCC : C = (Cn : Int) := by rw [HG.out.2.2.2.2.2.2.2.2, if_neg hfar]
      have HCC := Lib.hid hCC; clear hCC
      go_wp2_with (go_at_call 42; refine (HG.out.1 w1 HB.out.2.1 _).mono ?_; rintro en w2 ⟨rfl, h3⟩; subst h3)
      go_meet
      case rel => exact ⟨by rw [HCC.out], rfl⟩
  case rest =>
    obtain ⟨rfl, rfl⟩ := hcut
    go_upto_region 10 with fail
    have hx : ∀ w0, (∃ x : Later w1 (fun _ => False), w0 = x.1) → Below w.heap.size w w0 := by
      rintro _ ⟨x, rfl⟩
      exact HB.out.2.1.trans (x.2.below HB.out.2.1.size fun _ q => q.elim)
    have HX := Lib.hid hx; clear hx
    have hx1 : ∀ w0, (∃ x : Later w1 (fun _ => False), w0 = x.1) → Calls Try.prog 42 #[.slice (some ⟨ab, aoff + 2, none⟩) 4 (c - 2)] w0 fun e w' => e = .returned (.int .i64 (Cn : Int)) ∧ w' = w0 := fun w0 h => HG.out.1 w0 (HX.out w0 h) _
    have hx2 : ∀ w0, (∃ x : Later w1 (fun _ => False), w0 = x.1) → Calls Try.prog 42 #[.slice (some ⟨ab, aoff, none⟩) 2 c] w0 fun e w' => e = .returned (.int .i64 (Kn : Int)) ∧ w' = w0 := fun w0 h => HG.out.2.1 w0 (HX.out w0 h) _
    have HX1 := Lib.hid hx1; clear hx1
    have HX2 := Lib.hid hx2; clear hx2
    have hS0 : later w1 (fun _ => False) w1.drew := later_of ((Chg.refl _ _).drew)
    refine wp_plan (S := fun w0 => ∃ x : Later w1 (fun _ => False), w0 = x.1) (by kernel_rfl) hS0 ?_
    intro hS' K5 hK5
    have HS := Lib.hid hS'; clear hS' hS0
    refine plan_group [true, true, false, true, true] [0, 1, 3, 4] 5 (by dsimp only [sel]) (by rfl) rfl (by kernel_rfl) (by kernel_rfl) HS.out ?_
    (repeat go_big_quiet_step (fail)); refine wpQuiet_nil ?_
    refine plan_pure [false, false, true] 2 (some 31) 4 (.int .i64 (Kn : Int)) (by dsimp only [sel]) (by rfl) rfl (by rfl) (by rfl) (Go.Proofs.enters_of Try.func42 (by kernel_rfl) rfl) (by rfl) (by kernel_rfl) (by kernel_rfl) HS.out (by exact HX2.out) ?_; go_big_quiet_step (fail); refine wpQuiet_nil ?_
    refine plan_pure [false, false, false, false, false, true] 5 (some 34) 3 (.int .i64 (Cn : Int)) (by dsimp only [sel]) (by rfl) rfl (by rfl) (by rfl) (Go.Proofs.enters_of Try.func42 (by kernel_rfl) rfl) (by rfl) (by kernel_rfl) (by kernel_rfl) HS.out (by exact HX1.out) ?_; go_big_quiet_step (fail); refine wpQuiet_nil ?_
    refine plan_group [false, false, false, false, false, false, true] [6] 2 (by dsimp only [sel]) (by rfl) rfl (by kernel_rfl) (by kernel_rfl) HS.out ?_
    (repeat go_big_quiet_step (fail)); refine wpQuiet_nil ?_
    obtain ⟨w2, hw2⟩ : ∃ w2, w2 = w1.drew := ⟨_, rfl⟩
    have hb2 : Chg w1 w2 (fun _ => False) := by rw [hw2]; exact (Chg.refl _ _).drew
    rw [← hw2] at HS ⊢
    clear hw2
    obtain ⟨w3, hw3⟩ : ∃ w3, w3 = w2.alloc (.cells #[.int .i64 0, .int .i64 0, .string (ByteArray.mk #[]), .string (ByteArray.mk #[]), .int .i64 0, .int .i64 0, .int .i64 0, .int .i64 0, .string (ByteArray.mk #[]), .string (ByteArray.mk #[]), .int .i64 0, .slice none 0 0, .slice none 0 0] 25) := ⟨_, rfl⟩
    obtain ⟨bx, hbx⟩ : ∃ b, b = w2.heap.size := ⟨_, rfl⟩
    have hk3 : Blk w3 bx 25 pq.zero := by rw [hw3, hbx]; exact Blk.new _ _ _
    have hb3 : Chg w1 w3 (fun _ => False) := by rw [hw3]; exact hb2.trans (Chg.alloc w2 _ (fun _ => False)) fun _ _ q => q
    have hcs : (#[.int .i64 (Kn : Int), .int .i64 (Cn : Int), .string (ByteArray.mk #[]), .string (ByteArray.mk #[]), .int .i64 0, .int .i64 0, .int .i64 0, .int .i64 0, .string (ByteArray.mk #[]), .string (ByteArray.mk #[]), .int .i64 0, .slice none 0 0, .slice none 0 0] : Array Value).all (fun v => v.oneCell') = true := by simp [Value.oneCell']
    obtain ⟨w4, hw4⟩ : ∃ w4, w4 = w3.setRow bx #[.int .i64 (Kn : Int), .int .i64 (Cn : Int), .string (ByteArray.mk #[]), .string (ByteArray.mk #[]), .int .i64 0, .int .i64 0, .int .i64 0, .int .i64 0, .string (ByteArray.mk #[]), .string (ByteArray.mk #[]), .int .i64 0, .slice none 0 0, .slice none 0 0] := ⟨_, rfl⟩
    have hk4 : Blk w4 bx 25 #[.int .i64 (Kn : Int), .int .i64 (Cn : Int), .string (ByteArray.mk #[]), .string (ByteArray.mk #[]), .int .i64 0, .int .i64 0, .int .i64 0, .int .i64 0, .string (ByteArray.mk #[]), .string (ByteArray.mk #[]), .int .i64 0, .slice none 0 0, .slice none 0 0] := by rw [hw4]; exact pq.blk_row hk3 _
    have hb4 : Chg w1 w4 (fun _ => False) := by rw [hw4]; exact hb3.trans (pq.chg_row w3 bx _) fun k hk q => by have q : k = bx := q; have := hb2.size; omega
    have hbxl : w1.heap.size ≤ bx := by rw [hbx]; exact hb2.size
    have H3 := Lib.hid (And.intro hk3 (And.intro hb3 (And.intro hcs (And.intro hk4 (And.intro hb4 hbxl))))); clear hk3 hb3 hcs hk4 hb4 hbxl hb2
    refine plan_one [false, false, false, false, false, false, false, true] 7 1 (by dsimp only [sel]) (by rfl) rfl (by kernel_rfl) ?_; intro K17 hK17; go_wp2_with fail
    rw [← hw3, ← hbx]
    refine ⟨by first | exact later_of H3.out.2.1 | exact fun _ => later_of H3.out.2.1, ?_⟩
    refine plan_one [false, false, false, false, false, false, false, false, true] 8 0 (by dsimp only [sel]) (by rfl) rfl (by kernel_rfl) ?_; intro K18 hK18
    go_wp2_with (show Go.wpList _ _ _ (⟨_, .store _ (.tmp 6) (.tmp 35), _, _, _, _⟩ :: _) _ _; go_loud (refine wpList_store_row rfl 25 (.tmp 6) (.tmp 35) rfl bx #[.int .i64 (Kn : Int), .int .i64 (Cn : Int), .string (ByteArray.mk #[]), .string (ByteArray.mk #[]), .int .i64 0, .int .i64 0, .int .i64 0, .int .i64 0, .string (ByteArray.mk #[]), .string (ByteArray.mk #[]), .int .i64 0, .slice none 0 0, .slice none 0 0] rfl rfl 25 pq.zero H3.out.1 pq.infoReq rfl H3.out.2.2.1 ?_))
    rw [← hw4]
    clear hw3 hw4 hbx
    refine ⟨by first | exact later_of H3.out.2.2.2.2.1 | exact fun _ => later_of H3.out.2.2.2.2.1, ?_⟩
    go_simp
    refine wp_plan_end (by kernel_rfl) ?_
    refine hK5 _ _ ?_
    clear HS
    have y0 := H3.out.2.2.2.1.cell 0 (v := .int .i64 (Kn : Int)) rfl
    have y1 := H3.out.2.2.2.1.cell 1 (v := .int .i64 (Cn : Int)) rfl
    have yl := H3.out.2.2.2.1.lt
    have hz4 := H3.out.2.2.2.2.1.blk HB.out.1 fun q => q
    have hb4w : Below w.heap.size w w4 := HB.out.2.1.trans (H3.out.2.2.2.2.1.below HB.out.2.1.size fun _ q => q.elim)
    have H4 := Lib.hid (And.intro hz4 hb4w); clear hz4 hb4w
    by_cases hq : (Kn : Int) < 1
    · have e0 : decide ((Kn : Int) < 1) = true := decide_eq_true hq
      have e0' : decide (Kn < 1) = true := decide_eq_true (by omega)
      have hR2 : R = (pq.noReq, C, 16) := by rw [HG.out.2.2.2.2.2.2.1, if_pos (.inl hq)]
      have HR := Lib.hid hR2; clear hR2 hq
      go_wp2_with (show Go.wpList _ _ _ (⟨_, .store _ (.tmp 2) (.tmp 44), _, _, _, _⟩ :: _) _ _; go_loud (refine wpList_store_row rfl 25 (.tmp 2) (.tmp 44) rfl b0 pq.zero rfl rfl 25 _ H4.out.1 pq.infoReq rfl HONE.out ?_))
      have hz9 := pq.blk_row H4.out.1 pq.zero
      have hb9 : Below w.heap.size w (w4.setRow b0 pq.zero) := H4.out.2.trans ((pq.chg_row w4 b0 pq.zero).below H4.out.2.size fun k hk => by have hk : k = b0 := hk; have := HB.out.2.2; omega)
      generalize w4.setRow b0 pq.zero = w9 at *
      refine bodyPost_ret (res_cell3 rfl _ _ b0 pq.zero _ rfl hz9 Try.underlying25 rfl pq.infoReq) rfl ?_
      exact qf.post_no C 16 (by rw [HR.out]) (by rw [HR.out]; show ¬ ((16 : Int) = 0); decide) (.inl ⟨by rw [HR.out], by decide⟩) hb9
    have ea0 : decide ((Kn : Int) < 1) = false := decide_eq_false hq
    have ea0' : decide (Kn < 1) = false := decide_eq_false (by omega)
    have HKa := Lib.hid hq; clear hq
    by_cases hq : 14 < (Kn : Int)
    · have e0 : decide (14 < (Kn : Int)) = true := decide_eq_true hq
      have e0' : decide (14 < Kn) = true := decide_eq_true (by omega)
      have hR2 : R = (pq.noReq, C, 16) := by rw [HG.out.2.2.2.2.2.2.1, if_pos (.inr hq)]
      have HR := Lib.hid hR2; clear hR2 hq
      go_wp2_with (show Go.wpList _ _ _ (⟨_, .store _ (.tmp 2) (.tmp 44), _, _, _, _⟩ :: _) _ _; go_loud (refine wpList_store_row rfl 25 (.tmp 2) (.tmp 44) rfl b0 pq.zero rfl rfl 25 _ H4.out.1 pq.infoReq rfl HONE.out ?_))
      have hz9 := pq.blk_row H4.out.1 pq.zero
      have hb9 : Below w.heap.size w (w4.setRow b0 pq.zero) := H4.out.2.trans ((pq.chg_row w4 b0 pq.zero).below H4.out.2.size fun k hk => by have hk : k = b0 := hk; have := HB.out.2.2; omega)
      generalize w4.setRow b0 pq.zero = w9 at *
      refine bodyPost_ret (res_cell3 rfl _ _ b0 pq.zero _ rfl hz9 Try.underlying25 rfl pq.infoReq) rfl ?_
      exact qf.post_no C 16 (by rw [HR.out]) (by rw [HR.out]; show ¬ ((16 : Int) = 0); decide) (.inl ⟨by rw [HR.out], by decide⟩) hb9
    have eb0 : decide (14 < (Kn : Int)) = false := decide_eq_false hq
    have eb0' : decide (14 < Kn) = false := decide_eq_false (by omega)
    have HKb := Lib.hid hq; clear hq
    go_upto_region 14 with (first
      | (show Go.wpList _ _ _ (⟨_, .slice _ (.tmp 46) _ _ _, _, _, _, _⟩ :: _) _ _; refine qs.wpList rfl (.tmp 46) (some (.const (.int .i64 6))) none rfl (some ⟨ab, aoff, none⟩) n c 6 n rfl (.inr rfl) (.inl ⟨rfl, rfl⟩) (by omega) (Nat.le_refl _) h1 ?_; intro A' c' hat' hblk hc1 hc2; have HSL := Lib.hid (And.intro hat' (And.intro hc1 hc2)); clear hat' hblk hc1 hc2))
    clear y0 y1 yl
    obtain ⟨m, hm⟩ : ∃ m, m = (L.drop 6).length := ⟨_, rfl⟩
    have hmn : n - 6 = m := by rw [hm, List.length_drop, HG.out.2.2.2.2.1]
    have hm5 : m ≤ 5000 := by omega
    have hsl := HSL.out
    rw [hmn] at hsl ⊢
    have HS2 := Lib.hid hsl; clear hsl HSL
    obtain ⟨r, hr⟩ : ∃ r, r = w4.heap.size := ⟨_, rfl⟩
    obtain ⟨w5, hw5⟩ : ∃ w5, w5 = w4.alloc (.cells #[.slice A' m c', .int .i64 0] 81) := ⟨_, rfl⟩
    rw [← hw5, ← hr]
    have hst : qf.St w w5 r b0 bx #[.int .i64 (Kn : Int), .int .i64 (Cn : Int), .string (ByteArray.mk #[]), .string (ByteArray.mk #[]), .int .i64 0, .int .i64 0, .int .i64 0, .int .i64 0, .string (ByteArray.mk #[]), .string (ByteArray.mk #[]), .int .i64 0, .slice none 0 0, .slice none 0 0] (some ⟨ab, aoff, none⟩) L (L.drop 6) 0 := by
      have hc5 : Chg w4 w5 (fun _ => False) := by rw [hw5]; exact Chg.alloc w4 _ _
      have hb5 : Below w.heap.size w w5 := H4.out.2.trans (hc5.below H4.out.2.size fun _ q => q.elim)
      have hl1 := HB.out.1.lt
      have hl2 := H3.out.2.2.2.1.lt
      have hl3 := HB.out.2.2
      have hl4 := HB.out.2.1.size
      have hl5 := H3.out.2.2.2.2.2
      have hl6 := H4.out.1.lt
      refine ⟨hc5.blk H3.out.2.2.2.1 fun q => q, hc5.blk H4.out.1 fun q => q, ⟨A', c', ?_, fun wx hx => ?_, ?_, by rw [← hm]; exact HS2.out.2.1, by unfold maxLen; have := HS2.out.2.2; omega, fun x hx => HG.out.2.2.2.1 x (List.mem_of_mem_drop hx), fun b off hA => ?_, by rw [← hm]; omega⟩, hb5, ⟨by omega, by omega, by omega, by omega, by omega, by omega⟩, fun b off hA => ?_⟩
      · rw [hw5, hr, ← hm]
        exact Blk.new _ _ _
      · have h3 := HS2.out.1 wx L HG.out.2.2.2.2.1.symm (by rw [HG.out.2.2.2.2.1]; exact hx)
        rw [show (L.drop 6).take m = L.drop 6 by rw [hm, List.take_length]] at h3
        rw [← hm]
        exact h3
      · rw [← HG.out.2.2.2.2.1]
        exact HG.out.2.2.1.below hb5 (Nat.le_refl _)
      · have hA : ab = b := congrArg (fun z => ((z : Option Addr).getD ⟨0, 0, none⟩).block) hA
        have := HG.out.2.2.2.2.2.1
        omega
      · have hA : ab = b := congrArg (fun z => ((z : Option Addr).getD ⟨0, 0, none⟩).block) hA
        have := HG.out.2.2.2.2.2.1
        omega
    have D0 := Lib.hid hst; clear hst hw5 hr hmn hm hm5 HS2
    have hcall := rr.bytes (some ⟨ab, aoff, none⟩) L r (L.drop 6) 0 100 w5 D0.out.rd (by omega)
    unfold RrBytes at hcall
    have HC := Lib.hid hcall; clear hcall
    go_upto_region 15 with (go_at_call 43; refine HC.out.mono ?_; rintro en g0 ⟨vb, P0, M0, f0, rfl, q1, q2, q3, q4, q5, q6, q7⟩; obtain ⟨Ap0, cp0, rfl, -, -, hpat⟩ := own_bytes q1; have hcv0 := conv_any (P := Try.prog) (c := cp0) Try.underlying23 Try.underlying5 Try.underlying9 P0 rfl hpat; have C0 := Lib.hid (D0.out.call q3 q4); have E0 := Lib.hid (And.intro q5 (And.intro q6 q2)); clear q1 q2 q3 q4 q5 q6 q7 hpat; have m0 := C0.out.x.cell 2 (v := .string (ByteArray.mk #[])) rfl; have m1 := C0.out.x.frozen 2; have m2 := C0.out.x.lt)
    clear m0 m1 m2 hcv0 HC
    obtain ⟨v0, hv0⟩ : ∃ v, v = g0.setCell ⟨bx, 2, none⟩ (.string (strOf P0)) := ⟨_, rfl⟩
    rw [← hv0]
    have hd : qf.St w v0 r b0 bx #[.int .i64 (Kn : Int), .int .i64 (Cn : Int), .string (strOf P0), .string (ByteArray.mk #[]), .int .i64 0, .int .i64 0, .int .i64 0, .int .i64 0, .string (ByteArray.mk #[]), .string (ByteArray.mk #[]), .int .i64 0, .slice none 0 0, .slice none 0 0] (some ⟨ab, aoff, none⟩) L M0 f0 := by rw [hv0]; exact C0.out.store 2 _
    have D1 := Lib.hid hd; clear hd
    clear hv0 C0 D0
    have hcall := rr.bytes (some ⟨ab, aoff, none⟩) L r M0 f0 100 v0 D1.out.rd (by omega)
    unfold RrBytes at hcall
    have HC := Lib.hid hcall; clear hcall
    go_upto_region 16 with (go_at_call 43; refine HC.out.mono ?_; rintro en g1 ⟨vb, P1, M1, f1, rfl, q1, q2, q3, q4, q5, q6, q7⟩; obtain ⟨Ap1, cp1, rfl, -, -, hpat⟩ := own_bytes q1; have hcv1 := conv_any (P := Try.prog) (c := cp1) Try.underlying23 Try.underlying5 Try.underlying9 P1 rfl hpat; have C1 := Lib.hid (D1.out.call q3 q4); have E1 := Lib.hid (And.intro q5 (And.intro q6 q2)); clear q1 q2 q3 q4 q5 q6 q7 hpat; have m0 := C1.out.x.cell 3 (v := .string (ByteArray.mk #[])) rfl; have m1 := C1.out.x.frozen 3; have m2 := C1.out.x.lt)
    clear m0 m1 m2 hcv1 HC
    obtain ⟨v1, hv1⟩ : ∃ v, v = g1.setCell ⟨bx, 3, none⟩ (.string (strOf P1)) := ⟨_, rfl⟩
    rw [← hv1]
    have hd : qf.St w v1 r b0 bx #[.int .i64 (Kn : Int), .int .i64 (Cn : Int), .string (strOf P0), .string (strOf P1), .int .i64 0, .int .i64 0, .int .i64 0, .int .i64 0, .string (ByteArray.mk #[]), .string (ByteArray.mk #[]), .int .i64 0, .slice none 0 0, .slice none 0 0] (some ⟨ab, aoff, none⟩) L M1 f1 := by rw [hv1]; exact C1.out.store 3 _
    have D2 := Lib.hid hd; clear hd
    clear hv1 C1 D1
    have hcall := rr.num (some ⟨ab, aoff, none⟩) L r M1 f1 v1 D2.out.rd
    unfold RrNum at hcall
    have HC := Lib.hid hcall; clear hcall
    go_upto_region 17 with (go_at_call 44; refine HC.out.mono ?_; rintro en g2 ⟨n2, M2, f2, rfl, q1, q2, q3, q4, q5, q6⟩; have C2 := Lib.hid (D2.out.call q1 q2); have E2 := Lib.hid (And.intro q3 q4); clear q1 q2 q3 q4 q5 q6; have m0 := C2.out.x.cell 4 (v := .int .i64 0) rfl; have m1 := C2.out.x.frozen 4; have m2 := C2.out.x.lt)
    clear m0 m1 m2 HC
    obtain ⟨v2, hv2⟩ : ∃ v, v = g2.setCell ⟨bx, 4, none⟩ (.int .i64 n2) := ⟨_, rfl⟩
    rw [← hv2]
    have hd : qf.St w v2 r b0 bx #[.int .i64 (Kn : Int), .int .i64 (Cn : Int), .string (strOf P0), .string (strOf P1), .int .i64 n2, .int .i64 0, .int .i64 0, .int .i64 0, .string (ByteArray.mk #[]), .string (ByteArray.mk #[]), .int .i64 0, .slice none 0 0, .slice none 0 0] (some ⟨ab, aoff, none⟩) L M2 f2 := by rw [hv2]; exact C2.out.store 4 _
    have D3 := Lib.hid hd; clear hd
    clear hv2 C2 D2
    have hcall := rr.num (some ⟨ab, aoff, none⟩) L r M2 f2 v2 D3.out.rd
    unfold RrNum at hcall
    have HC := Lib.hid hcall; clear hcall
    go_upto_region 18 with (go_at_call 44; refine HC.out.mono ?_; rintro en g3 ⟨n3, M3, f3, rfl, q1, q2, q3, q4, q5, q6⟩; have C3 := Lib.hid (D3.out.call q1 q2); have E3 := Lib.hid (And.intro q3 q4); clear q1 q2 q3 q4 q5 q6; have m0 := C3.out.x.cell 5 (v := .int .i64 0) rfl; have m1 := C3.out.x.frozen 5; have m2 := C3.out.x.lt)
    clear m0 m1 m2 HC
    obtain ⟨v3, hv3⟩ : ∃ v, v = g3.setCell ⟨bx, 5, none⟩ (.int .i64 n3) := ⟨_, rfl⟩
    rw [← hv3]
    have hd : qf.St w v3 r b0 bx #[.int .i64 (Kn : Int), .int .i64 (Cn : Int), .string (strOf P0), .string (strOf P1), .int .i64 n2, .int .i64 n3, .int .i64 0, .int .i64 0, .string (ByteArray.mk #[]), .string (ByteArray.mk #[]), .int .i64 0, .slice none 0 0, .slice none 0 0] (some ⟨ab, aoff, none⟩) L M3 f3 := by rw [hv3]; exact C3.out.store 5 _
    have D4 := Lib.hid hd; clear hd
    clear hv3 C3 D3
    have hcall := rr.num (some ⟨ab, aoff, none⟩) L r M3 f3 v3 D4.out.rd
    unfold RrNum at hcall
    have HC := Lib.hid hcall; clear hcall
    go_upto_region 19 with (go_at_call 44; refine HC.out.mono ?_; rintro en g4 ⟨n4, M4, f4, rfl, q1, q2, q3, q4, q5, q6⟩; have C4 := Lib.hid (D4.out.call q1 q2); have E4 := Lib.hid (And.intro q3 q4); clear q1 q2 q3 q4 q5 q6; have m0 := C4.out.x.cell 6 (v := .int .i64 0) rfl; have m1 := C4.out.x.frozen 6; have m2 := C4.out.x.lt)
    clear m0 m1 m2 HC
    obtain ⟨v4, hv4⟩ : ∃ v, v = g4.setCell ⟨bx, 6, none⟩ (.int .i64 n4) := ⟨_, rfl⟩
    rw [← hv4]
    have hd : qf.St w v4 r b0 bx #[.int .i64 (Kn : Int), .int .i64 (Cn : Int), .string (strOf P0), .string (strOf P1), .int .i64 n2, .int .i64 n3, .int .i64 n4, .int .i64 0, .string (ByteArray.mk #[]), .string (ByteArray.mk #[]), .int .i64 0, .slice none 0 0, .slice none 0 0] (some ⟨ab, aoff, none⟩) L M4 f4 := by rw [hv4]; exact C4.out.store 6 _
    have D5 := Lib.hid hd; clear hd
    clear hv4 C4 D4
    have hcall := rr.num (some ⟨ab, aoff, none⟩) L r M4 f4 v4 D5.out.rd
    unfold RrNum at hcall
    have HC := Lib.hid hcall; clear hcall
    go_upto_region 20 with (go_at_call 44; refine HC.out.mono ?_; rintro en g5 ⟨n5, M5, f5, rfl, q1, q2, q3, q4, q5, q6⟩; have C5 := Lib.hid (D5.out.call q1 q2); have E5 := Lib.hid (And.intro q3 q4); clear q1 q2 q3 q4 q5 q6; have m0 := C5.out.x.cell 7 (v := .int .i64 0) rfl; have m1 := C5.out.x.frozen 7; have m2 := C5.out.x.lt)
    clear m0 m1 m2 HC
    obtain ⟨v5, hv5⟩ : ∃ v, v = g5.setCell ⟨bx, 7, none⟩ (.int .i64 n5) := ⟨_, rfl⟩
    rw [← hv5]
    have hd : qf.St w v5 r b0 bx #[.int .i64 (Kn : Int), .int .i64 (Cn : Int), .string (strOf P0), .string (strOf P1), .int .i64 n2, .int .i64 n3, .int .i64 n4, .int .i64 n5, .string (ByteArray.mk #[]), .string (ByteArray.mk #[]), .int .i64 0, .slice none 0 0, .slice none 0 0] (some ⟨ab, aoff, none⟩) L M5 f5 := by rw [hv5]; exact C5.out.store 7 _
    have D6 := Lib.hid hd; clear hd
    clear hv5 C5 D5
    have hcall := rr.bytes (some ⟨ab, aoff, none⟩) L r M5 f5 100 v5 D6.out.rd (by omega)
    unfold RrBytes at hcall
    have HC := Lib.hid hcall; clear hcall
    go_upto_region 21 with (go_at_call 43; refine HC.out.mono ?_; rintro en g6 ⟨vb, P6, M6, f6, rfl, q1, q2, q3, q4, q5, q6, q7⟩; obtain ⟨Ap6, cp6, rfl, -, -, hpat⟩ := own_bytes q1; have hcv6 := conv_any (P := Try.prog) (c := cp6) Try.underlying23 Try.underlying5 Try.underlying9 P6 rfl hpat; have C6 := Lib.hid (D6.out.call q3 q4); have E6 := Lib.hid (And.intro q5 (And.intro q6 q2)); clear q1 q2 q3 q4 q5 q6 q7 hpat; have m0 := C6.out.x.cell 8 (v := .string (ByteArray.mk #[])) rfl; have m1 := C6.out.x.frozen 8; have m2 := C6.out.x.lt)
    clear m0 m1 m2 hcv6 HC
    obtain ⟨v6, hv6⟩ : ∃ v, v = g6.setCell ⟨bx, 8, none⟩ (.string (strOf P6)) := ⟨_, rfl⟩
    rw [← hv6]
    have hd : qf.St w v6 r b0 bx #[.int .i64 (Kn : Int), .int .i64 (Cn : Int), .string (strOf P0), .string (strOf P1), .int .i64 n2, .int .i64 n3, .int .i64 n4, .int .i64 n5, .string (strOf P6), .string (ByteArray.mk #[]), .int .i64 0, .slice none 0 0, .slice none 0 0] (some ⟨ab, aoff, none⟩) L M6 f6 := by rw [hv6]; exact C6.out.store 8 _
    have D7 := Lib.hid hd; clear hd
    clear hv6 C6 D6
    have hcall := rr.bytes (some ⟨ab, aoff, none⟩) L r M6 f6 100 v6 D7.out.rd (by omega)
    unfold RrBytes at hcall
    have HC := Lib.hid hcall; clear hcall
    go_upto_region 22 with (go_at_call 43; refine HC.out.mono ?_; rintro en g7 ⟨vb, P7, M7, f7, rfl, q1, q2, q3, q4, q5, q6, q7⟩; obtain ⟨Ap7, cp7, rfl, -, -, hpat⟩ := own_bytes q1; have hcv7 := conv_any (P := Try.prog) (c := cp7) Try.underlying23 Try.underlying5 Try.underlying9 P7 rfl hpat; have C7 := Lib.hid (D7.out.call q3 q4); have E7 := Lib.hid (And.intro q5 (And.intro q6 q2)); clear q1 q2 q3 q4 q5 q6 q7 hpat; have m0 := C7.out.x.cell 9 (v := .string (ByteArray.mk #[])) rfl; have m1 := C7.out.x.frozen 9; have m2 := C7.out.x.lt)
    clear m0 m1 m2 hcv7 HC
    obtain ⟨v7, hv7⟩ : ∃ v, v = g7.setCell ⟨bx, 9, none⟩ (.string (strOf P7)) := ⟨_, rfl⟩
    rw [← hv7]
    have hd : qf.St w v7 r b0 bx #[.int .i64 (Kn : Int), .int .i64 (Cn : Int), .string (strOf P0), .string (strOf P1), .int .i64 n2, .int .i64 n3, .int .i64 n4, .int .i64 n5, .string (strOf P6), .string (strOf P7), .int .i64 0, .slice none 0 0, .slice none 0 0] (some ⟨ab, aoff, none⟩) L M7 f7 := by rw [hv7]; exact C7.out.store 9 _
    have D8 := Lib.hid hd; clear hd
    clear hv7 C7 D7
    have hcall := rr.num (some ⟨ab, aoff, none⟩) L r M7 f7 v7 D8.out.rd
    unfold RrNum at hcall
    have HC := Lib.hid hcall; clear hcall
    go_upto_region 23 with (go_at_call 44; refine HC.out.mono ?_; rintro en g8 ⟨n8, M8, f8, rfl, q1, q2, q3, q4, q5, q6⟩; have C8 := Lib.hid (D8.out.call q1 q2); have E8 := Lib.hid (And.intro q3 q4); clear q1 q2 q3 q4 q5 q6; have m0 := C8.out.x.cell 10 (v := .int .i64 0) rfl; have m1 := C8.out.x.frozen 10; have m2 := C8.out.x.lt)
    clear m0 m1 m2 HC
    obtain ⟨v8, hv8⟩ : ∃ v, v = g8.setCell ⟨bx, 10, none⟩ (.int .i64 n8) := ⟨_, rfl⟩
    rw [← hv8]
    have hd : qf.St w v8 r b0 bx #[.int .i64 (Kn : Int), .int .i64 (Cn : Int), .string (strOf P0), .string (strOf P1), .int .i64 n2, .int .i64 n3, .int .i64 n4, .int .i64 n5, .string (strOf P6), .string (strOf P7), .int .i64 n8, .slice none 0 0, .slice none 0 0] (some ⟨ab, aoff, none⟩) L M8 f8 := by rw [hv8]; exact C8.out.store 10 _
    have D9 := Lib.hid hd; clear hd
    clear hv8 C8 D8
    have hcall := rr.texts (some ⟨ab, aoff, none⟩) L r M8 f8 30 v8 D9.out.rd (by omega) (fun b off hA => Nat.lt_of_lt_of_le (D9.out.arg b off hA) D9.out.low.size)
    unfold RrTexts RrTextsQ at hcall
    have HC := Lib.hid hcall; clear hcall
    go_upto_region 24 with (go_at_call 45; refine HC.out.mono ?_; rintro en g9 ⟨vb, ns, M9, f9, rfl, q1, q2, q3, q4, q5, q6⟩; obtain ⟨An, cn, rfl, -, -⟩ := own_at q1; have C9 := Lib.hid (D9.out.call q3 q4); have E9 := Lib.hid (And.intro q2 q5); have O9 := Lib.hid (ownsRow_base q1 D9.out.low.size); clear q1 q2 q3 q4 q5 q6; have m0 := C9.out.x.cell 11 (v := .slice none 0 0) rfl; have m1 := C9.out.x.frozen 11; have m2 := C9.out.x.lt)
    clear m0 m1 m2 HC
    obtain ⟨v9, hv9⟩ : ∃ v, v = g9.setCell ⟨bx, 11, none⟩ (.slice An ns.length cn) := ⟨_, rfl⟩
    rw [← hv9]
    have hd : qf.St w v9 r b0 bx #[.int .i64 (Kn : Int), .int .i64 (Cn : Int), .string (strOf P0), .string (strOf P1), .int .i64 n2, .int .i64 n3, .int .i64 n4, .int .i64 n5, .string (strOf P6), .string (strOf P7), .int .i64 n8, .slice An ns.length cn, .slice none 0 0] (some ⟨ab, aoff, none⟩) L M9 f9 := by rw [hv9]; exact C9.out.store 11 _
    have D10 := Lib.hid hd; clear hd
    have hon : v9.ownsRow w.heap.size 9 1 (.slice An ns.length cn) ns.length (ns.map fun s => .string s) := by
      rw [hv9]
      exact (Chg.setCell g9 bx 11 _).own O9.out fun k hk e => by have e : k = bx := e; subst e; exact C9.out.x.not_row (by decide) O9.out hk
    have ON := Lib.hid hon; clear hon O9
    clear hv9 C9 D9
    have hcall := rr.bytes (some ⟨ab, aoff, none⟩) L r M9 f9 65536 v9 D10.out.rd (by omega)
    unfold RrBytes at hcall
    have HC := Lib.hid hcall; clear hcall
    go_upto_region 25 with (go_at_call 43; refine HC.out.mono ?_; rintro en g10 ⟨vb, P10, M10, f10, rfl, q1, q2, q3, q4, q5, q6, q7⟩; obtain ⟨Ad, cd, rfl, -, -⟩ := own_at q1; have C10 := Lib.hid (D10.out.call q3 q4); have E10 := Lib.hid (And.intro q5 (And.intro q6 q2)); have O10 := Lib.hid (And.intro (ownsRow_base q1 D10.out.low.size) q4); clear q1 q2 q3 q4 q5 q6 q7; have m0 := C10.out.x.cell 12 (v := .slice none 0 0) rfl; have m1 := C10.out.x.frozen 12; have m2 := C10.out.x.lt)
    clear m0 m1 m2 HC
    obtain ⟨v10, hv10⟩ : ∃ v, v = g10.setCell ⟨bx, 12, none⟩ (.slice Ad P10.length cd) := ⟨_, rfl⟩
    rw [← hv10]
    have hd : qf.St w v10 r b0 bx #[.int .i64 (Kn : Int), .int .i64 (Cn : Int), .string (strOf P0), .string (strOf P1), .int .i64 n2, .int .i64 n3, .int .i64 n4, .int .i64 n5, .string (strOf P6), .string (strOf P7), .int .i64 n8, .slice An ns.length cn, .slice Ad P10.length cd] (some ⟨ab, aoff, none⟩) L M10 f10 := by rw [hv10]; exact C10.out.store 12 _
    have D11 := Lib.hid hd; clear hd
    have hon : v10.ownsRow w.heap.size 9 1 (.slice An ns.length cn) ns.length (ns.map fun s => .string s) := by
      have h3 : g10.ownsRow w.heap.size 9 1 (.slice An ns.length cn) ns.length (ns.map fun s => .string s) := O10.out.2.own ON.out fun k hk e => by
        have e : k = r := e
        subst e
        obtain ⟨cs, hb⟩ := D10.out.rd.blk
        exact hb.not_row (by decide) ON.out hk
      rw [hv10]
      exact (Chg.setCell g10 bx 12 _).own h3 fun k hk e => by have e : k = bx := e; subst e; exact C10.out.x.not_row (by decide) h3 hk
    have hod : v10.ownsRow w.heap.size 5 1 (.slice Ad P10.length cd) P10.length (u8s P10) := by
      rw [hv10]
      exact (Chg.setCell g10 bx 12 _).own O10.out.1 fun k hk e => by have e : k = bx := e; subst e; exact C10.out.x.not_row (by decide) O10.out.1 hk
    have OD := Lib.hid (And.intro hon hod); clear hon hod O10 ON
    clear hv10 C10 D10
    obtain ⟨X, hX⟩ : ∃ X : PReq, X = ⟨(Kn : Int), (Cn : Int), strOf P0, strOf P1, n2, n3, n4, n5, strOf P6, strOf P7, n8, ns, P10⟩ := ⟨_, rfl⟩
    have hchain := qf.chain (Kn : Int) (Cn : Int) (L.drop 6) E0.out.2.1 E1.out.2.1 E2.out.2 E3.out.2 E4.out.2 E5.out.2 E6.out.2.1 E7.out.2.1 E8.out.2 E9.out.2 E10.out.2.1
    rw [← hX] at hchain
    have hXV : ReqV v10 An cn Ad cd X := by
      rw [hX]
      have l0 := E0.out.1
      have l1 := E1.out.1
      have l6 := E6.out.1
      have l7 := E7.out.1
      refine ⟨⟨⟨?_, ?_, E2.out.1, E3.out.1, E4.out.1, E5.out.1, E8.out.1⟩, ?_, ?_, ?_, ?_⟩, ?_, ?_⟩
      · unfold pq.int; dsimp only; omega
      · unfold pq.int; dsimp only; omega
      · dsimp only; rw [strOf_size]; unfold maxLen; omega
      · dsimp only; rw [strOf_size]; unfold maxLen; omega
      · dsimp only; rw [strOf_size]; unfold maxLen; omega
      · dsimp only; rw [strOf_size]; unfold maxLen; omega
      · refine pq.strsV OD.out.1 rfl fun s hs => ?_
        have := E9.out.1 s hs
        unfold maxLen
        omega
      · obtain ⟨A9, c9, e9, h3, -, h4⟩ := own_bytes OD.out.2
        obtain ⟨rfl, rfl⟩ : Ad = A9 ∧ cd = c9 := by injection e9 with e1 e2 e3; exact ⟨e1, e3⟩
        exact ⟨Ad, cd, rfl, h4, h3, own_cap OD.out.2, E10.out.2.2⟩
    have hXC : X.cells An cn Ad cd = #[.int .i64 (Kn : Int), .int .i64 (Cn : Int), .string (strOf P0), .string (strOf P1), .int .i64 n2, .int .i64 n3, .int .i64 n4, .int .i64 n5, .string (strOf P6), .string (strOf P7), .int .i64 n8, .slice An ns.length cn, .slice Ad P10.length cd] := by rw [hX]; rfl
    have hXK : X.kind = (Kn : Int) ∧ X.corr = (Cn : Int) := by rw [hX]; exact ⟨rfl, rfl⟩
    clear hX
    have henc := qc.encode_any X An cn Ad cd v10 hXV
    rw [hXC] at henc
    have hne1 : ∀ b off, An = some ⟨b, off, none⟩ → ¬ b = b0 := fun b off h e => by subst e; exact D11.out.z.not_row (by decide) OD.out.1 (by rw [h]; rfl)
    have hne2 : ∀ b off, Ad = some ⟨b, off, none⟩ → ¬ b = b0 := fun b off h e => by subst e; exact D11.out.z.not_row (by decide) OD.out.2 (by rw [h]; rfl)
    have HNE := Lib.hid (And.intro hne1 hne2); clear hne1 hne2
    have HXX := Lib.hid (And.intro hXV (And.intro henc (And.intro hchain (And.intro hXC hXK)))); clear hXV henc hchain hXC hXK E0 E1 E2 E3 E4 E5 E6 E7 E8 E9 E10
    have y0 := D11.out.x.cell 0 (v := .int .i64 (Kn : Int)) rfl
    have y1 := D11.out.x.cell 1 (v := .int .i64 (Cn : Int)) rfl
    have y2 := D11.out.x.cell 2 (v := .string (strOf P0)) rfl
    have y3 := D11.out.x.cell 3 (v := .string (strOf P1)) rfl
    have y4 := D11.out.x.cell 4 (v := .int .i64 n2) rfl
    have y5 := D11.out.x.cell 5 (v := .int .i64 n3) rfl
    have y6 := D11.out.x.cell 6 (v := .int .i64 n4) rfl
    have y7 := D11.out.x.cell 7 (v := .int .i64 n5) rfl
    have y8 := D11.out.x.cell 8 (v := .string (strOf P6)) rfl
    have y9 := D11.out.x.cell 9 (v := .string (strOf P7)) rfl
    have y10 := D11.out.x.cell 10 (v := .int .i64 n8) rfl
    have y11 := D11.out.x.cell 11 (v := .slice An ns.length cn) rfl
    have y12 := D11.out.x.cell 12 (v := .slice Ad P10.length cd) rfl
    have yl := D11.out.x.lt
    go_upto_region 26 with (go_at_call 11; refine HXX.out.2.1.mono ?_; rintro en v11 ⟨ve, rfl, hacc⟩; obtain ⟨Ae, ce, rfl, hce, hate⟩ := hacc.at'; obtain ⟨ne, hne⟩ : ∃ ne, ne = (if pq.check X = 0 then pq.bytes X else []).length := ⟨_, rfl⟩; rw [← hne] at hate; rw [← hne]; have HE := Lib.hid (And.intro hacc.2 (And.intro hate hne)); clear hacc hce hate hne)
    clear y0 y1 y2 y3 y4 y5 y6 y7 y8 y9 y10 y11 y12 yl
    have hcE := chg_of (P := fun _ => False) HE.out.1
    have hrd := D11.out.rd.keep HE.out.1
    have k0 := hrd.cell.1
    have kl := hrd.lt
    have hxb := hcE.blk D11.out.x fun q => q
    have hzb := hcE.blk D11.out.z fun q => q
    have hlow11 : Below w.heap.size w v11 := D11.out.low.trans (HE.out.1.mono D11.out.low.size)
    have hv11 := HXX.out.1.below HE.out.1 (Nat.le_refl _)
    have hatL : At v11 (some ⟨ab, aoff, none⟩) n (byteAt L) := HG.out.2.2.1.below hlow11 (Nat.le_refl _)
    have hcvL := conv_any (P := Try.prog) (c := c) Try.underlying23 Try.underlying5 Try.underlying9 L HG.out.2.2.2.2.1.symm hatL
    have hcvE := conv_any (P := Try.prog) (c := ce) Try.underlying23 Try.underlying5 Try.underlying9 (if pq.check X = 0 then pq.bytes X else []) HE.out.2.2.symm HE.out.2.1
    have H11 := Lib.hid (And.intro hxb (And.intro hzb (And.intro hlow11 (And.intro hv11 D11.out.apart)))); clear hxb hzb hlow11 hv11 hatL hcE
    clear D11
    have hgood : R.2.2 = 0 → f10 = 0 ∧ pq.check X = 0 ∧ pq.bytes X = L ∧ R = (X, C, 0) := fun hz => by
      have hde := HG.out.2.2.2.2.2.2.1
      rw [if_neg (fun q => by have := HKa.out; have := HKb.out; omega)] at hde
      by_cases hfar : 2147483647 < (Cn : Int)
      · rw [if_pos hfar] at hde
        rw [hde] at hz
        cases hz
      rw [if_neg hfar] at hde
      by_cases hrest : (pq.rest (Kn : Int) (Cn : Int) (L.drop 6) 0).2 = 0
      case neg =>
        rw [if_pos hrest] at hde
        rw [hde] at hz
        exact absurd hz hrest
      rw [if_neg (fun q => q hrest)] at hde
      obtain ⟨h3, h4⟩ := HXX.out.2.2.1 hrest
      have hCC : C = (Cn : Int) := by rw [HG.out.2.2.2.2.2.2.2.2, if_neg hfar]
      rw [h3, ← hCC] at hde
      obtain ⟨-, h5, h6, -⟩ := pb.dec_back HG.out.2.2.2.1 (by rw [← HG.out.2.2.2.2.2.2.2.1, hde])
      rw [← HG.out.2.2.2.2.2.2.2.1, hde] at h5 h6
      exact ⟨h4, h5, h6.symm, hde⟩
    have hbad : R.2.2 ≠ 0 → ¬ (pq.check X = 0 ∧ pq.bytes X = L) ∧ R.2.1 = C ∧ (R.2.2 = 2 ∨ R.2.2 = 3) := fun hz => by
      refine ⟨fun ⟨h3, h4⟩ => ?_, ?_⟩
      · have h5 := qf.dec_of L X HXX.out.1.1 h3 h4
        rw [← HG.out.2.2.2.2.2.2.2.1] at h5
        rw [h5] at hz
        exact hz rfl
      · have hde := HG.out.2.2.2.2.2.2.1
        rw [if_neg (fun q => by have := HKa.out; have := HKb.out; omega)] at hde
        have hCC := HG.out.2.2.2.2.2.2.2.2
        by_cases hfar : 2147483647 < (Cn : Int)
        · rw [if_pos hfar] at hde hCC
          rw [hde, hCC]
          exact ⟨rfl, .inl rfl⟩
        · rw [if_neg hfar] at hde hCC
          have he := qf.rest_err (Kn : Int) (Cn : Int) (L.drop 6)
          by_cases hrest : (pq.rest (Kn : Int) (Cn : Int) (L.drop 6) 0).2 = 0
          · rw [if_neg (fun q => q hrest)] at hde
            rw [hde] at hz
            exact absurd rfl hz
          · rw [if_pos hrest] at hde
            rw [hde]
            exact ⟨hCC.symm, he.resolve_left hrest⟩
    have hLb := HG.out.2.2.2.1
    by_cases hz : R.2.2 = 0
    · obtain ⟨rfl, h3, h4, h5⟩ := hgood hz
      rw [if_pos h3, h4] at hcvE
      rw [h3]
      have HFIN := Lib.hid (And.intro h5 (And.intro hz h3)); clear hgood hbad hz h3 h4 h5 hLb
      have y0 := H11.out.1.cell 0 (v := .int .i64 (Kn : Int)) rfl
      have y1 := H11.out.1.cell 1 (v := .int .i64 (Cn : Int)) rfl
      have y2 := H11.out.1.cell 2 (v := .string (strOf P0)) rfl
      have y3 := H11.out.1.cell 3 (v := .string (strOf P1)) rfl
      have y4 := H11.out.1.cell 4 (v := .int .i64 n2) rfl
      have y5 := H11.out.1.cell 5 (v := .int .i64 n3) rfl
      have y6 := H11.out.1.cell 6 (v := .int .i64 n4) rfl
      have y7 := H11.out.1.cell 7 (v := .int .i64 n5) rfl
      have y8 := H11.out.1.cell 8 (v := .string (strOf P6)) rfl
      have y9 := H11.out.1.cell 9 (v := .string (strOf P7)) rfl
      have y10 := H11.out.1.cell 10 (v := .int .i64 n8) rfl
      have y11 := H11.out.1.cell 11 (v := .slice An ns.length cn) rfl
      have y12 := H11.out.1.cell 12 (v := .slice Ad P10.length cd) rfl
      have yl := H11.out.1.lt
      go_upto_region 28 with fail
      iterate 7 go_step
      show Go.wpList _ _ _ (⟨_, .store _ (.tmp 2) (.tmp 110), _, _, _, _⟩ :: _) _ _
      go_loud (refine wpList_store_row rfl 25 (.tmp 2) (.tmp 110) rfl b0 #[.int .i64 (Kn : Int), .int .i64 (Cn : Int), .string (strOf P0), .string (strOf P1), .int .i64 n2, .int .i64 n3, .int .i64 n4, .int .i64 n5, .string (strOf P6), .string (strOf P7), .int .i64 n8, .slice An ns.length cn, .slice Ad P10.length cd] rfl rfl 25 _ H11.out.2.1 pq.infoReq rfl (by simp [Value.oneCell']) ?_)
      (repeat go_step)
      have hz9 := pq.blk_row H11.out.2.1 #[.int .i64 (Kn : Int), .int .i64 (Cn : Int), .string (strOf P0), .string (strOf P1), .int .i64 n2, .int .i64 n3, .int .i64 n4, .int .i64 n5, .string (strOf P6), .string (strOf P7), .int .i64 n8, .slice An ns.length cn, .slice Ad P10.length cd]
      have hc9 := pq.chg_row v11 b0 #[.int .i64 (Kn : Int), .int .i64 (Cn : Int), .string (strOf P0), .string (strOf P1), .int .i64 n2, .int .i64 n3, .int .i64 n4, .int .i64 n5, .string (strOf P6), .string (strOf P7), .int .i64 n8, .slice An ns.length cn, .slice Ad P10.length cd]
      have hb9 : Below w.heap.size w (v11.setRow b0 #[.int .i64 (Kn : Int), .int .i64 (Cn : Int), .string (strOf P0), .string (strOf P1), .int .i64 n2, .int .i64 n3, .int .i64 n4, .int .i64 n5, .string (strOf P6), .string (strOf P7), .int .i64 n8, .slice An ns.length cn, .slice Ad P10.length cd]) := H11.out.2.2.1.trans (hc9.below H11.out.2.2.1.size fun k hk => by have hk : k = b0 := hk; have := HB.out.2.2; omega)
      have hv9 : ReqV (v11.setRow b0 #[.int .i64 (Kn : Int), .int .i64 (Cn : Int), .string (strOf P0), .string (strOf P1), .int .i64 n2, .int .i64 n3, .int .i64 n4, .int .i64 n5, .string (strOf P6), .string (strOf P7), .int .i64 n8, .slice An ns.length cn, .slice Ad P10.length cd]) An cn Ad cd X := by
        obtain ⟨q1, ⟨A1, c1, q2, q3, q4⟩, ⟨A2, c2, q5, q6, q7⟩⟩ := H11.out.2.2.2.1
        obtain ⟨rfl, rfl⟩ : An = A1 ∧ cn = c1 := by injection q2 with e1 e2 e3; exact ⟨e1, e3⟩
        obtain ⟨rfl, rfl⟩ : Ad = A2 ∧ cd = c2 := by injection q5 with e1 e2 e3; exact ⟨e1, e3⟩
        exact ⟨q1, ⟨An, cn, q2, hc9.at' q3 fun hn b off hA hB => HNE.out.1 b off hA hB, q4⟩, ⟨Ad, cd, q5, hc9.at' q6 fun hn b off hA hB => HNE.out.2 b off hA hB, q7⟩⟩
      generalize v11.setRow b0 #[.int .i64 (Kn : Int), .int .i64 (Cn : Int), .string (strOf P0), .string (strOf P1), .int .i64 n2, .int .i64 n3, .int .i64 n4, .int .i64 n5, .string (strOf P6), .string (strOf P7), .int .i64 n8, .slice An ns.length cn, .slice Ad P10.length cd] = w9 at *
      refine bodyPost_ret (res_cell3 rfl _ _ b0 #[.int .i64 (Kn : Int), .int .i64 (Cn : Int), .string (strOf P0), .string (strOf P1), .int .i64 n2, .int .i64 n3, .int .i64 n4, .int .i64 n5, .string (strOf P6), .string (strOf P7), .int .i64 n8, .slice An ns.length cn, .slice Ad P10.length cd] _ rfl hz9 Try.underlying25 rfl pq.infoReq) rfl ?_
      refine ⟨#[.int .i64 (Kn : Int), .int .i64 (Cn : Int), .string (strOf P0), .string (strOf P1), .int .i64 n2, .int .i64 n3, .int .i64 n4, .int .i64 n5, .string (strOf P6), .string (strOf P7), .int .i64 n8, .slice An ns.length cn, .slice Ad P10.length cd], 0, ?_, ?_, fun _ => ⟨rfl, An, cn, Ad, cd, ?_, ?_⟩, fun h => absurd HFIN.out.2.1 h, hb9⟩
      · rw [HFIN.out.1]; rfl
      · rw [← HXX.out.2.2.2.1]
        exact qf.cells_eq X An cn Ad cd
      · rw [HFIN.out.1]
        exact HXX.out.2.2.2.1.symm
      · rw [HFIN.out.1]
        exact hv9
    · obtain ⟨h3, h4, h5⟩ := hbad hz
      have HFIN := Lib.hid (And.intro h4 (And.intro h5 hz)); clear hgood hbad hz h4 h5
      have hcase : f10 ≠ 0 ∨ (f10 = 0 ∧ pq.check X ≠ 0) ∨ (f10 = 0 ∧ pq.check X = 0 ∧ strOf (pq.bytes X) ≠ strOf L) := by
        by_cases c1 : f10 = 0
        · by_cases c2 : pq.check X = 0
          · refine .inr (.inr ⟨c1, c2, fun h => h3 ⟨c2, ?_⟩⟩)
            have h6 := congrArg strNats h
            rw [strNats_strOf _ (pb.req_byte X HXX.out.1.1 c2 (pb.reqV_lt HXX.out.1)), strNats_strOf _ hLb] at h6
            exact h6
          · exact .inr (.inl ⟨c1, c2⟩)
        · exact .inl c1
      have HCASE := Lib.hid hcase; clear hcase h3 hLb
      rcases HCASE.out with c1 | ⟨rfl, c2⟩ | ⟨rfl, c2, c3⟩
      · have j0 : (f10 == 0) = false := by simp [c1]
        have j1 : (f10 != 0) = true := by simp [c1]
        clear HCASE c1
        go_upto_region 27 with fail
        iterate 7 go_step
        show Go.wpList _ _ _ (⟨_, .store _ (.tmp 2) (.tmp 108), _, _, _, _⟩ :: _) _ _
        go_loud (refine wpList_store_row rfl 25 (.tmp 2) (.tmp 108) rfl b0 pq.zero rfl rfl 25 _ H11.out.2.1 pq.infoReq rfl HONE.out ?_)
        (repeat go_step)
        have hz9 := pq.blk_row H11.out.2.1 pq.zero
        have hb9 : Below w.heap.size w (v11.setRow b0 pq.zero) := H11.out.2.2.1.trans ((pq.chg_row v11 b0 pq.zero).below H11.out.2.2.1.size fun k hk => by have hk : k = b0 := hk; have := HB.out.2.2; omega)
        generalize v11.setRow b0 pq.zero = w9 at *
        refine bodyPost_ret (res_cell3 rfl _ _ b0 pq.zero _ rfl hz9 Try.underlying25 rfl pq.infoReq) rfl ?_
        exact qf.post_no C (-1) HFIN.out.1 HFIN.out.2.2 (.inr ⟨rfl, HFIN.out.2.1⟩) hb9
      · have j0 : (pq.check X == 0) = false := by simp [c2]
        have j1 : (pq.check X != 0) = true := by simp [c2]
        clear HCASE c2
        go_upto_region 27 with fail
        iterate 7 go_step
        show Go.wpList _ _ _ (⟨_, .store _ (.tmp 2) (.tmp 108), _, _, _, _⟩ :: _) _ _
        go_loud (refine wpList_store_row rfl 25 (.tmp 2) (.tmp 108) rfl b0 pq.zero rfl rfl 25 _ H11.out.2.1 pq.infoReq rfl HONE.out ?_)
        (repeat go_step)
        have hz9 := pq.blk_row H11.out.2.1 pq.zero
        have hb9 : Below w.heap.size w (v11.setRow b0 pq.zero) := H11.out.2.2.1.trans ((pq.chg_row v11 b0 pq.zero).below H11.out.2.2.1.size fun k hk => by have hk : k = b0 := hk; have := HB.out.2.2; omega)
        generalize v11.setRow b0 pq.zero = w9 at *
        refine bodyPost_ret (res_cell3 rfl _ _ b0 pq.zero _ rfl hz9 Try.underlying25 rfl pq.infoReq) rfl ?_
        exact qf.post_no C (-1) HFIN.out.1 HFIN.out.2.2 (.inr ⟨rfl, HFIN.out.2.1⟩) hb9
      · rw [if_pos c2] at hcvE
        rw [c2]
        have j0 := pq.text_ne c3
        have j1 : ((strOf (pq.bytes X)).toList != (strOf L).toList) = true := by unfold bne; rw [j0]; rfl
        clear HCASE c2 c3
        go_upto_region 27 with fail
        iterate 7 go_step
        show Go.wpList _ _ _ (⟨_, .store _ (.tmp 2) (.tmp 108), _, _, _, _⟩ :: _) _ _
        go_loud (refine wpList_store_row rfl 25 (.tmp 2) (.tmp 108) rfl b0 pq.zero rfl rfl 25 _ H11.out.2.1 pq.infoReq rfl HONE.out ?_)
        (repeat go_step)
        have hz9 := pq.blk_row H11.out.2.1 pq.zero
        have hb9 : Below w.heap.size w (v11.setRow b0 pq.zero) := H11.out.2.2.1.trans ((pq.chg_row v11 b0 pq.zero).below H11.out.2.2.1.size fun k hk => by have hk : k = b0 := hk; have := HB.out.2.2; omega)
        generalize v11.setRow b0 pq.zero = w9 at *
        refine bodyPost_ret (res_cell3 rfl _ _ b0 pq.zero _ rfl hz9 Try.underlying25 rfl pq.infoReq) rfl ?_
        exact qf.post_no C (-1) HFIN.out.1 HFIN.out.2.2 (.inr ⟨rfl, HFIN.out.2.1⟩) hb9
end Go.Proofs.Ytimcpbbcealkiaa

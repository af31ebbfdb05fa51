/- proto: Decode (chapter 20). -/
import Derived.BigQuiet
import Derived.Test.YtimcpbbcealkiaaPqH
namespace Go.Proofs.Ytimcpbbcealkiaa
open Go.RowKit Go.Maps
set_option maxRecDepth 20000

def pq.noReq : PReq := ⟨0, 0, ByteArray.mk #[], ByteArray.mk #[], 0, 0, 0, 0, ByteArray.mk #[], ByteArray.mk #[], 0, [], []⟩
/-- What bytes are as a request: the request, its number, an error. -/
def pq.dec (L : List Nat) : PReq × Int × Int :=
  let k := rd.fixed L 0 2
  let c := rd.fixed k.2.1 k.2.2 4
  let C := if 2147483647 < c.1 then 0 else c.1
  if 131072 < L.length then (pq.noReq, C, 3) else if L.length < 6 then (pq.noReq, 0, 2) else if k.1 < 1 ∨ 14 < k.1 then (pq.noReq, C, 16) else if 2147483647 < c.1 then (pq.noReq, 0, 2) else
  let r := pq.rest k.1 c.1 c.2.1 c.2.2
  if r.2 ≠ 0 then (pq.noReq, C, r.2) else (r.1, C, 0)
theorem RdQ.mono {Q P : Nat → Prop} {w : World} {r : Nat} {L : List Nat} {e : Int} (h : RdQ Q w r L e) (hq : ∀ k, Q k → P k) : RdQ P w r L e := by
  obtain ⟨A, c, h1, h2⟩ := h
  exact ⟨A, c, h1, fun a ha => hq _ (h2 a ha)⟩
theorem RdQ.len {Q : Nat → Prop} {w : World} {r : Nat} {L : List Nat} {e : Int} (h : RdQ Q w r L e) : L.length ≤ maxLen := by
  obtain ⟨A, c, h1, -⟩ := h
  exact Nat.le_trans h1.len h1.cap
theorem rd.fixed_bd {Q : Nat → Prop} {w : World} {r : Nat} {L : List Nat} {e : Int} (h : RdQ Q w r L e) (size : Nat) (hs : size ≤ 4) : 0 ≤ (rd.fixed L e size).1 ∧ (rd.fixed L e size).1 ≤ 4294967295 := by
  obtain ⟨A, c, h1, -⟩ := h
  unfold rd.fixed
  split
  · simp
  · split
    · simp
    · dsimp only
      have h2 := wire.val_lt (L.take size) fun x hx => h1.byte x (List.mem_of_mem_take hx)
      have h3 : (L.take size).length ≤ 4 := by rw [List.length_take]; omega
      have h4 : 256 ^ (L.take size).length ≤ 256 ^ 4 := Nat.pow_le_pow_right (by omega) h3
      rw [show ((size : Int)).toNat = size from rfl]
      omega
theorem rd.fixed_le (L : List Nat) (e size : Int) : (rd.fixed L e size).2.1.length ≤ L.length := by
  unfold rd.fixed
  split
  · exact Nat.le_refl _
  · split
    · exact Nat.zero_le _
    · rw [List.length_drop]
      omega
theorem pq.zero_one : pq.zero.size = 13 ∧ pq.zero.all (fun v => v.oneCell') = true := ⟨rfl, by simp [Value.oneCell', pq.zero]⟩
/-- What Decode answers. -/
def pq.DecPost (L : List Nat) (w : World) (en : Ending) (w' : World) : Prop :=
  (∃ cs : Array Value, en = .returned (.tuple #[.agg cs, .int .i64 (pq.dec L).2.1, .int .i64 (pq.dec L).2.2]) ∧ (cs.size = 13 ∧ cs.all (fun v => v.oneCell') = true) ∧ ((pq.dec L).2.2 ≠ 0 → cs = pq.zero) ∧
    ((pq.dec L).2.2 = 0 → ∃ An cn Ad cd, cs = (pq.dec L).1.cells An cn Ad cd ∧ ReqV w' An cn Ad cd (pq.dec L).1 ∧ (∀ b off, An = some ⟨b, off, none⟩ → w.heap.size ≤ b) ∧ ∀ b off, Ad = some ⟨b, off, none⟩ → w.heap.size ≤ b)) ∧ Below w.heap.size w w'
set_option maxHeartbeats 8000000 in
theorem pq.decode_any (A : Option Addr) (c : Nat) (L : List Nat) (w : World) (hat : At w A L.length (byteAt L)) (h1 : L.length ≤ c) (h2 : c ≤ maxLen) (hb : ∀ x ∈ L, x < 256) (hL : L.length ≤ 140737488351232) :
    Calls Try.prog 12 #[.slice A L.length c] w (pq.DecPost L w) := by
  unfold pq.DecPost
  obtain ⟨R, hR⟩ : ∃ R, R = pq.dec L := ⟨_, rfl⟩
  rw [← hR]
  obtain ⟨b0, hb0⟩ : ∃ b, b = w.heap.size := ⟨_, rfl⟩
  obtain ⟨w0, hw0⟩ : ∃ w0, w0 = w.alloc (.cells pq.zero 25) := ⟨_, rfl⟩
  have hk0 : Blk w0 b0 25 pq.zero := by rw [hw0, hb0]; exact Blk.new _ _ _
  have hb00 : Below w.heap.size w w0 := by rw [hw0]; exact (Below.refl _ _).alloc (Nat.le_refl _) _
  have hbor := wire.borrow_at A c L w0 (hat.below hb00 (Nat.le_refl _)) h1 h2 hb
  have hQ : ∀ a, A = some a → (0 < L.length → a.block < w.heap.size) := fun a ha h0 => by
    obtain ⟨b, off, e, hl, -⟩ := hat h0
    rw [ha] at e
    obtain rfl := Option.some.inj e
    exact hl
  obtain ⟨n, hn⟩ : ∃ n, n = L.length := ⟨_, rfl⟩
  have hbor2 : Calls Try.prog 39 #[.slice A n c] w0 fun en w' => ∃ r, en = .returned (.pointer (some ⟨r, 0, none⟩)) ∧ RdQ (fun k => 0 < L.length → k < w.heap.size) w' r L 0 ∧ w0.heap.size ≤ r ∧ Below w0.heap.size w0 w' := by
    rw [hn]
    refine hbor.mono ?_
    rintro en w' ⟨r, e, q1, q2, q3⟩
    exact ⟨r, e, ⟨A, c, q1, hQ⟩, q2, q3⟩
  rw [← hn]
  have H0 := Lib.hid (And.intro hbor2 (And.intro hk0 (And.intro hb00 (And.intro hn (And.intro hR hL))))); clear hbor hbor2 hk0 hb00 hR hL hat hb hQ
  have hnl : n ≤ 9223372036854775807 := by unfold maxLen at h2; omega
  clear h1 h2 hn
  go_enter Try.func12, Try.ntmps12
  go_upto_region 1 with fail
  unfold pq.zero at hw0
  rw [← hw0, ← hb0]
  have hb0' := hb0
  clear hw0 hb0
  have HB0 := Lib.hid hb0'; clear hb0'
  go_upto_region 2 with (go_at_call 39; refine H0.out.1.mono ?_; rintro en w1 ⟨r, rfl, q1, q2, q3⟩; have H1 := Lib.hid (And.intro q1 (And.intro q2 q3)); clear q1 q2 q3)
  have hf1 := rdq.fixed _ r L 0 2 w1 H1.out.1
  have hbd1 := rd.fixed_bd H1.out.1 2 (by omega)
  have hle1 := rd.fixed_le L 0 2
  obtain ⟨⟨kd, L1, e1⟩, hq1⟩ : ∃ q, rd.fixed L 0 2 = q := ⟨_, rfl⟩
  rw [show ((2 : Nat) : Int) = 2 from rfl] at hbd1
  rw [hq1] at hf1 hbd1 hle1
  dsimp only at hf1 hbd1 hle1
  unfold RqPost at hf1
  have HF1 := Lib.hid (And.intro hf1 (And.intro hq1 hle1)); clear hf1 hq1 hle1
  go_upto_region 3 with (go_at_call 40; refine HF1.out.1.mono ?_; rintro en w2 ⟨rfl, q1, q2⟩; have H2 := Lib.hid (And.intro q1 q2); clear q1 q2)
  have hf2 := rdq.fixed _ r L1 e1 4 w2 H2.out.1
  have hbd2 := rd.fixed_bd H2.out.1 4 (by omega)
  have hle2 := rd.fixed_le L1 e1 4
  obtain ⟨⟨co, L2, e2⟩, hq2⟩ : ∃ q, rd.fixed L1 e1 4 = q := ⟨_, rfl⟩
  rw [show ((4 : Nat) : Int) = 4 from rfl] at hbd2
  rw [hq2] at hf2 hbd2 hle2
  dsimp only at hf2 hbd2 hle2
  unfold RqPost at hf2
  have HF2 := Lib.hid (And.intro hf2 (And.intro hq2 hle2)); clear hf2 hq2 hle2
  go_upto_if 19 with (go_at_call 40; refine HF2.out.1.mono ?_; rintro en w3 ⟨rfl, q1, q2⟩; have H3 := Lib.hid (And.intro q1 q2); clear q1 q2)
  obtain ⟨C, hC⟩ : ∃ C : Int, C = if 2147483647 < co then 0 else co := ⟨_, rfl⟩
  have HC := Lib.hid hC; clear hC
  have hrb : ¬ rdT r b0 := fun e => by
    have e : b0 = r := e
    have h1 := H1.out.2.1
    have h2 := H0.out.2.1.lt
    omega
  have hc13 : Chg w1 w3 (rdT r) := H2.out.2.trans H3.out.2 fun _ _ q => q
  have hk3 := hc13.blk ((chg_of (P := fun _ => False) H1.out.2.2).blk H0.out.2.1 fun q => q) hrb
  have hb3 : Below w.heap.size w w3 := by
    have h0 := H0.out.2.2.1.size
    have h1 := H1.out.2.2.size
    exact (H0.out.2.2.1.trans (H1.out.2.2.mono h0)).trans (hc13.below (by omega) fun k hk => by have hk : k = r := hk; have := H1.out.2.1; omega)
  have hRR : R = if 131072 < n then (pq.noReq, C, 3) else if n < 6 then (pq.noReq, 0, 2) else if kd < 1 ∨ 14 < kd then (pq.noReq, C, 16) else if 2147483647 < co then (pq.noReq, 0, 2) else if (pq.rest kd co L2 e2).2 ≠ 0 then (pq.noReq, C, (pq.rest kd co L2 e2).2) else ((pq.rest kd co L2 e2).1, C, 0) := by
    rw [H0.out.2.2.2.2.1, HC.out, H0.out.2.2.2.1]
    unfold pq.dec
    simp only [HF1.out.2.1, HF2.out.2.1]
  have HK := Lib.hid (And.intro hk3 (And.intro hb3 (And.intro hRR hrb))); clear hk3 hb3 hRR hrb hc13
  go_cut [7, 8] from 11 (fun s7 s8 wx => s7 = .int .i64 C ∧ s8 = .bool (decide (2147483647 < co)) ∧ w3 = wx)
  case first =>
    by_cases hfar : 2147483647 < co
    · have d0 : decide (2147483647 < co) = true := decide_eq_true hfar
      have hC : C = 0 := by rw [HC.out, if_pos hfar]
      have HCC := Lib.hid hC; clear hC
      go_wp2_with fail
      go_meet
      case rel => exact ⟨by rw [HCC.out], by first | rfl | rw [d0], rfl⟩
    · have d0 : decide (2147483647 < co) = false := decide_eq_false hfar
      have hC : C = co := by rw [HC.out, if_neg hfar]
      have HCC := Lib.hid hC; clear hC
      go_wp2_with fail
      go_meet
      case rel => exact ⟨by rw [HCC.out], by first | rfl | rw [d0], rfl⟩
  case rest =>
    obtain ⟨rfl, rfl, rfl⟩ := hcut
    have hzero : ∀ (wz : World) (x y : Int), R = (pq.noReq, x, y) → y ≠ 0 → Blk w3 b0 25 pq.zero ∧ (Below w.heap.size w (w3.setRow b0 pq.zero) ∧ (R.2.1 = x ∧ R.2.2 = y)) := fun _ x y h _ =>
      ⟨HK.out.1, HK.out.2.1.trans ((pq.chg_row w3 b0 pq.zero).below HK.out.2.1.size fun k hk => by have hk : k = b0 := hk; have := HB0.out; omega), by rw [h], by rw [h]⟩
    clear hzero
    by_cases hbig : 131072 < n
    · have d0 : decide (131072 < n) = true := decide_eq_true hbig
      have d0' : decide (131072 < (n : Int)) = true := decide_eq_true (by omega)
      have hR2 : R = (pq.noReq, C, 3) := by rw [HK.out.2.2.1, if_pos hbig]
      have HR2 := Lib.hid hR2; clear hR2
      go_wp2_with (show Go.wpList _ _ _ (⟨_, .store _ (.tmp 2) (.tmp 24), _, _, _, _⟩ :: _) _ _; go_loud (refine wpList_store_row rfl 25 (.tmp 2) (.tmp 24) rfl b0 pq.zero rfl rfl 25 _ HK.out.1 pq.infoReq rfl pq.zero_one.2 ?_))
      have hz9 := pq.blk_row HK.out.1 pq.zero
      have hb9 : Below w.heap.size w (w3.setRow b0 pq.zero) := HK.out.2.1.trans ((pq.chg_row w3 b0 pq.zero).below HK.out.2.1.size fun k hk => by have hk : k = b0 := hk; have := HB0.out; omega)
      generalize w3.setRow b0 pq.zero = w9 at *
      refine bodyPost_ret (res_cell3 rfl _ _ b0 pq.zero _ rfl hz9 Try.underlying25 rfl pq.infoReq) rfl ?_
      exact ⟨⟨pq.zero, by rw [HR2.out]; rfl, (by first | exact pq.zero_one | simpa using pq.zero_one), fun _ => rfl, fun h => by rw [HR2.out] at h; exact absurd h (by show ¬ ((3 : Int) = 0); decide)⟩, hb9⟩
    have d0 : decide (131072 < n) = false := decide_eq_false hbig
    have d0' : decide (131072 < (n : Int)) = false := decide_eq_false (by omega)
    by_cases hsm : n < 6
    · have d1 : decide (n < 6) = true := decide_eq_true hsm
      have d1' : decide ((n : Int) < 6) = true := decide_eq_true (by omega)
      have hR2 : R = (pq.noReq, 0, 2) := by rw [HK.out.2.2.1, if_neg hbig, if_pos hsm]
      have HR2 := Lib.hid hR2; clear hR2
      go_wp2_with (show Go.wpList _ _ _ (⟨_, .store _ (.tmp 2) (.tmp 30), _, _, _, _⟩ :: _) _ _; go_loud (refine wpList_store_row rfl 25 (.tmp 2) (.tmp 30) rfl b0 pq.zero rfl rfl 25 _ HK.out.1 pq.infoReq rfl pq.zero_one.2 ?_))
      have hz9 := pq.blk_row HK.out.1 pq.zero
      have hb9 : Below w.heap.size w (w3.setRow b0 pq.zero) := HK.out.2.1.trans ((pq.chg_row w3 b0 pq.zero).below HK.out.2.1.size fun k hk => by have hk : k = b0 := hk; have := HB0.out; omega)
      generalize w3.setRow b0 pq.zero = w9 at *
      refine bodyPost_ret (res_cell3 rfl _ _ b0 pq.zero _ rfl hz9 Try.underlying25 rfl pq.infoReq) rfl ?_
      exact ⟨⟨pq.zero, by rw [HR2.out]; rfl, (by first | exact pq.zero_one | simpa using pq.zero_one), fun _ => rfl, fun h => by rw [HR2.out] at h; exact absurd h (by show ¬ ((2 : Int) = 0); decide)⟩, hb9⟩
    have d1 : decide (n < 6) = false := decide_eq_false hsm
    have d1' : decide ((n : Int) < 6) = false := decide_eq_false (by omega)
    by_cases hkd : kd < 1
    · have d2 : decide (kd < 1) = true := decide_eq_true hkd
      have hR2 : R = (pq.noReq, C, 16) := by rw [HK.out.2.2.1, if_neg hbig, if_neg hsm, if_pos (.inl hkd)]
      have HR2 := Lib.hid hR2; clear hR2
      go_wp2_with (show Go.wpList _ _ _ (⟨_, .store _ (.tmp 2) (.tmp 38), _, _, _, _⟩ :: _) _ _; go_loud (refine wpList_store_row rfl 25 (.tmp 2) (.tmp 38) rfl b0 pq.zero rfl rfl 25 _ HK.out.1 pq.infoReq rfl pq.zero_one.2 ?_))
      have hz9 := pq.blk_row HK.out.1 pq.zero
      have hb9 : Below w.heap.size w (w3.setRow b0 pq.zero) := HK.out.2.1.trans ((pq.chg_row w3 b0 pq.zero).below HK.out.2.1.size fun k hk => by have hk : k = b0 := hk; have := HB0.out; omega)
      generalize w3.setRow b0 pq.zero = w9 at *
      refine bodyPost_ret (res_cell3 rfl _ _ b0 pq.zero _ rfl hz9 Try.underlying25 rfl pq.infoReq) rfl ?_
      exact ⟨⟨pq.zero, by rw [HR2.out]; rfl, (by first | exact pq.zero_one | simpa using pq.zero_one), fun _ => rfl, fun h => by rw [HR2.out] at h; exact absurd h (by show ¬ ((16 : Int) = 0); decide)⟩, hb9⟩
    have d2 : decide (kd < 1) = false := decide_eq_false hkd
    by_cases hkd2 : 14 < kd
    · have d3 : decide (14 < kd) = true := decide_eq_true hkd2
      have hR2 : R = (pq.noReq, C, 16) := by rw [HK.out.2.2.1, if_neg hbig, if_neg hsm, if_pos (.inr hkd2)]
      have HR2 := Lib.hid hR2; clear hR2
      go_wp2_with (show Go.wpList _ _ _ (⟨_, .store _ (.tmp 2) (.tmp 38), _, _, _, _⟩ :: _) _ _; go_loud (refine wpList_store_row rfl 25 (.tmp 2) (.tmp 38) rfl b0 pq.zero rfl rfl 25 _ HK.out.1 pq.infoReq rfl pq.zero_one.2 ?_))
      have hz9 := pq.blk_row HK.out.1 pq.zero
      have hb9 : Below w.heap.size w (w3.setRow b0 pq.zero) := HK.out.2.1.trans ((pq.chg_row w3 b0 pq.zero).below HK.out.2.1.size fun k hk => by have hk : k = b0 := hk; have := HB0.out; omega)
      generalize w3.setRow b0 pq.zero = w9 at *
      refine bodyPost_ret (res_cell3 rfl _ _ b0 pq.zero _ rfl hz9 Try.underlying25 rfl pq.infoReq) rfl ?_
      exact ⟨⟨pq.zero, by rw [HR2.out]; rfl, (by first | exact pq.zero_one | simpa using pq.zero_one), fun _ => rfl, fun h => by rw [HR2.out] at h; exact absurd h (by show ¬ ((16 : Int) = 0); decide)⟩, hb9⟩
    have d3 : decide (14 < kd) = false := decide_eq_false hkd2
    by_cases hfar : 2147483647 < co
    · have d4 : decide (2147483647 < co) = true := decide_eq_true hfar
      have hR2 : R = (pq.noReq, 0, 2) := by rw [HK.out.2.2.1, if_neg hbig, if_neg hsm, if_neg (by omega), if_pos hfar]
      have HR2 := Lib.hid hR2; clear hR2
      go_wp2_with (show Go.wpList _ _ _ (⟨_, .store _ (.tmp 2) (.tmp 42), _, _, _, _⟩ :: _) _ _; go_loud (refine wpList_store_row rfl 25 (.tmp 2) (.tmp 42) rfl b0 pq.zero rfl rfl 25 _ HK.out.1 pq.infoReq rfl pq.zero_one.2 ?_))
      have hz9 := pq.blk_row HK.out.1 pq.zero
      have hb9 : Below w.heap.size w (w3.setRow b0 pq.zero) := HK.out.2.1.trans ((pq.chg_row w3 b0 pq.zero).below HK.out.2.1.size fun k hk => by have hk : k = b0 := hk; have := HB0.out; omega)
      generalize w3.setRow b0 pq.zero = w9 at *
      refine bodyPost_ret (res_cell3 rfl _ _ b0 pq.zero _ rfl hz9 Try.underlying25 rfl pq.infoReq) rfl ?_
      exact ⟨⟨pq.zero, by rw [HR2.out]; rfl, (by first | exact pq.zero_one | simpa using pq.zero_one), fun _ => rfl, fun h => by rw [HR2.out] at h; exact absurd h (by show ¬ ((2 : Int) = 0); decide)⟩, hb9⟩
    have d4 : decide (2147483647 < co) = false := decide_eq_false hfar
    have hRR : R = if (pq.rest kd co L2 e2).2 ≠ 0 then (pq.noReq, C, (pq.rest kd co L2 e2).2) else ((pq.rest kd co L2 e2).1, C, 0) := by rw [HK.out.2.2.1, if_neg hbig, if_neg hsm, if_neg (by omega), if_neg hfar]
    have hCo : C = co := by rw [HC.out, if_neg hfar]
    have hq3 : RdQ (fun k => k < w3.heap.size) w3 r L2 e2 := H3.out.1.mono fun k hk => Nat.lt_of_lt_of_le (hk (by have := H0.out.2.2.2.1; omega)) HK.out.2.1.size
    have hrest := pq.rest_any kd co r L2 e2 w3 hq3 (by unfold pq.int; omega) (by unfold pq.int; omega) (by have h1 := HF1.out.2.2; have h2 := HF2.out.2.2; have h3 := H0.out.2.2.2.2.2; omega)
    obtain ⟨RR, hRRe⟩ : ∃ q, q = pq.rest kd co L2 e2 := ⟨_, rfl⟩
    rw [← hRRe] at hrest hRR
    rw [← hCo] at hrest
    have HREST := Lib.hid (And.intro hrest (And.intro hRR hCo)); clear hrest hRR hRRe hq3 hCo
    by_cases hr0 : RR.2 = 0
    · have d5 : (RR.2 == 0) = true := by simp [hr0]
      have d6 : (RR.2 != 0) = false := by simp [hr0]
      have hR2 : R = (RR.1, C, 0) := by rw [HREST.out.2.1, if_neg (fun h => h hr0)]
      have hrest := HREST.out.1
      rw [hr0] at hrest
      have HR2 := Lib.hid (And.intro hR2 (And.intro hrest hr0)); clear hR2 hrest hr0
      go_upto_region 16 with (first
        | (show Go.wpList _ _ _ (⟨_, .store _ (.tmp 9) (.tmp 49), _, _, _, _⟩ :: _) _ _; go_loud (refine wpList_store_row rfl 25 (.tmp 9) (.tmp 49) rfl w5.heap.size #[.int .i64 RR.1.kind, .int .i64 RR.1.corr, .string RR.1.client, .string RR.1.topic, .int .i64 RR.1.part, .int .i64 RR.1.off, .int .i64 RR.1.time, .int .i64 RR.1.most, .string RR.1.group, .string RR.1.member, .int .i64 RR.1.gen, .slice An RR.1.names.length cn, .slice Ad RR.1.data.length cd] rfl rfl 25 pq.zero (Blk.new w5 25 pq.zero) pq.infoReq rfl (by simp [Value.oneCell']) ?_))
        | (go_at_call 41; refine HR2.out.2.1.mono ?_; rintro en w5 ⟨⟨cs, rfl, q1, q2⟩, q3⟩; obtain ⟨An, cn, Ad, cd, rfl, q4, q5, q6⟩ := q2 rfl; unfold PReq.cells; have H5 := Lib.hid (And.intro q4 q3); have HLOW := Lib.hid (And.intro q5 q6); clear q1 q2 q3 q4 q5 q6))
      obtain ⟨b9, hb9⟩ : ∃ b, b = w5.heap.size := ⟨_, rfl⟩
      obtain ⟨w6, hw6⟩ : ∃ w6, w6 = (w5.alloc (.cells #[.int .i64 0, .int .i64 0, .string (ByteArray.mk #[]), .string (ByteArray.mk #[]), .int .i64 0, .int .i64 0, .int .i64 0, .int .i64 0, .string (ByteArray.mk #[]), .string (ByteArray.mk #[]), .int .i64 0, .slice none 0 0, .slice none 0 0] 25)).setRow w5.heap.size #[.int .i64 RR.1.kind, .int .i64 RR.1.corr, .string RR.1.client, .string RR.1.topic, .int .i64 RR.1.part, .int .i64 RR.1.off, .int .i64 RR.1.time, .int .i64 RR.1.most, .string RR.1.group, .string RR.1.member, .int .i64 RR.1.gen, .slice An RR.1.names.length cn, .slice Ad RR.1.data.length cd] := ⟨_, rfl⟩
      rw [← hw6, ← hb9]
      have hk9 : Blk w6 b9 25 #[.int .i64 RR.1.kind, .int .i64 RR.1.corr, .string RR.1.client, .string RR.1.topic, .int .i64 RR.1.part, .int .i64 RR.1.off, .int .i64 RR.1.time, .int .i64 RR.1.most, .string RR.1.group, .string RR.1.member, .int .i64 RR.1.gen, .slice An RR.1.names.length cn, .slice Ad RR.1.data.length cd] := by rw [hw6, hb9]; exact pq.blk_row (Blk.new w5 25 pq.zero) _
      have hc56 : Chg w5 w6 (fun _ => False) := by
        rw [hw6]
        exact (Chg.alloc w5 _ (fun _ => False)).trans (pq.chg_row _ _ _) fun k hk q => absurd hk (by rw [show k = w5.heap.size from q]; exact Nat.lt_irrefl _)
      have hk0 := hc56.blk (H5.out.2.blk HK.out.1 HK.out.2.2.2) fun q => q
      have hv := H5.out.1.below (hc56.below (Nat.le_refl _) fun _ q => q.elim) (Nat.le_refl _)
      have hb06 : Below w.heap.size w w6 := (HK.out.2.1.trans (H5.out.2.below HK.out.2.1.size fun k hk => by have hk : k = r := hk; have h1 := H1.out.2.1; have h2 := H0.out.2.2.1.size; omega)).trans (hc56.below (Nat.le_trans HK.out.2.1.size H5.out.2.size) fun _ q => q.elim)
      have y0 := hk9.cell 0 (v := .int .i64 RR.1.kind) rfl
      have y1 := hk9.cell 1 (v := .int .i64 RR.1.corr) rfl
      have y2 := hk9.cell 2 (v := .string RR.1.client) rfl
      have y3 := hk9.cell 3 (v := .string RR.1.topic) rfl
      have y4 := hk9.cell 4 (v := .int .i64 RR.1.part) rfl
      have y5 := hk9.cell 5 (v := .int .i64 RR.1.off) rfl
      have y6 := hk9.cell 6 (v := .int .i64 RR.1.time) rfl
      have y7 := hk9.cell 7 (v := .int .i64 RR.1.most) rfl
      have y8 := hk9.cell 8 (v := .string RR.1.group) rfl
      have y9 := hk9.cell 9 (v := .string RR.1.member) rfl
      have y10 := hk9.cell 10 (v := .int .i64 RR.1.gen) rfl
      have y11 := hk9.cell 11 (v := .slice An RR.1.names.length cn) rfl
      have y12 := hk9.cell 12 (v := .slice Ad RR.1.data.length cd) rfl
      have yl := hk9.lt
      have H6 := Lib.hid (And.intro hk0 (And.intro hv hb06)); clear hk9 hc56 hk0 hv hb06 hw6 hb9
      go_wp2_with (show Go.wpList _ _ _ (⟨_, .store _ (.tmp 2) (.tmp 56), _, _, _, _⟩ :: _) _ _; go_loud (refine wpList_store_row rfl 25 (.tmp 2) (.tmp 56) rfl b0 #[.int .i64 RR.1.kind, .int .i64 RR.1.corr, .string RR.1.client, .string RR.1.topic, .int .i64 RR.1.part, .int .i64 RR.1.off, .int .i64 RR.1.time, .int .i64 RR.1.most, .string RR.1.group, .string RR.1.member, .int .i64 RR.1.gen, .slice An RR.1.names.length cn, .slice Ad RR.1.data.length cd] rfl rfl 25 _ H6.out.1 pq.infoReq rfl (by simp [Value.oneCell']) ?_))
      have hz9 := pq.blk_row H6.out.1 #[.int .i64 RR.1.kind, .int .i64 RR.1.corr, .string RR.1.client, .string RR.1.topic, .int .i64 RR.1.part, .int .i64 RR.1.off, .int .i64 RR.1.time, .int .i64 RR.1.most, .string RR.1.group, .string RR.1.member, .int .i64 RR.1.gen, .slice An RR.1.names.length cn, .slice Ad RR.1.data.length cd]
      have hc9 := pq.chg_row w6 b0 #[.int .i64 RR.1.kind, .int .i64 RR.1.corr, .string RR.1.client, .string RR.1.topic, .int .i64 RR.1.part, .int .i64 RR.1.off, .int .i64 RR.1.time, .int .i64 RR.1.most, .string RR.1.group, .string RR.1.member, .int .i64 RR.1.gen, .slice An RR.1.names.length cn, .slice Ad RR.1.data.length cd]
      have hb9 : Below w.heap.size w (w6.setRow b0 #[.int .i64 RR.1.kind, .int .i64 RR.1.corr, .string RR.1.client, .string RR.1.topic, .int .i64 RR.1.part, .int .i64 RR.1.off, .int .i64 RR.1.time, .int .i64 RR.1.most, .string RR.1.group, .string RR.1.member, .int .i64 RR.1.gen, .slice An RR.1.names.length cn, .slice Ad RR.1.data.length cd]) := H6.out.2.2.trans (hc9.below H6.out.2.2.size fun k hk => by have hk : k = b0 := hk; have := HB0.out; omega)
      have hv9 : ReqV (w6.setRow b0 #[.int .i64 RR.1.kind, .int .i64 RR.1.corr, .string RR.1.client, .string RR.1.topic, .int .i64 RR.1.part, .int .i64 RR.1.off, .int .i64 RR.1.time, .int .i64 RR.1.most, .string RR.1.group, .string RR.1.member, .int .i64 RR.1.gen, .slice An RR.1.names.length cn, .slice Ad RR.1.data.length cd]) An cn Ad cd RR.1 := by
        obtain ⟨q1, ⟨A1, c1, q2, q3, q4⟩, ⟨A2, c2, q5, q6, q7⟩⟩ := H6.out.2.1
        obtain ⟨rfl, rfl⟩ : An = A1 ∧ cn = c1 := by injection q2 with e1 e2 e3; exact ⟨e1, e3⟩
        obtain ⟨rfl, rfl⟩ : Ad = A2 ∧ cd = c2 := by injection q5 with e1 e2 e3; exact ⟨e1, e3⟩
        refine ⟨q1, ⟨An, cn, q2, hc9.at' q3 fun hn b off hA hB => ?_, q4⟩, ⟨Ad, cd, q5, hc9.at' q6 fun hn b off hA hB => ?_, q7⟩⟩
        · have hB : b = b0 := hB
          have h1 := HLOW.out.1 b off hA
          have h2 := HK.out.1.lt
          omega
        · have hB : b = b0 := hB
          have h1 := HLOW.out.2 b off hA
          have h2 := HK.out.1.lt
          omega
      have HV9 := Lib.hid (And.intro hv9 hb9); clear hv9 hb9 hc9
      generalize w6.setRow b0 #[.int .i64 RR.1.kind, .int .i64 RR.1.corr, .string RR.1.client, .string RR.1.topic, .int .i64 RR.1.part, .int .i64 RR.1.off, .int .i64 RR.1.time, .int .i64 RR.1.most, .string RR.1.group, .string RR.1.member, .int .i64 RR.1.gen, .slice An RR.1.names.length cn, .slice Ad RR.1.data.length cd] = w9 at *
      refine bodyPost_ret (res_cell3 rfl _ _ b0 #[.int .i64 RR.1.kind, .int .i64 RR.1.corr, .string RR.1.client, .string RR.1.topic, .int .i64 RR.1.part, .int .i64 RR.1.off, .int .i64 RR.1.time, .int .i64 RR.1.most, .string RR.1.group, .string RR.1.member, .int .i64 RR.1.gen, .slice An RR.1.names.length cn, .slice Ad RR.1.data.length cd] _ rfl hz9 Try.underlying25 rfl pq.infoReq) rfl ?_
      exact ⟨⟨_, by rw [HR2.out.1]; rfl, ⟨rfl, by simp [Value.oneCell']⟩, fun h => absurd (by rw [HR2.out.1]) h, fun _ => by rw [HR2.out.1]; exact ⟨An, cn, Ad, cd, rfl, HV9.out.1, fun b off h => Nat.le_trans HK.out.2.1.size (HLOW.out.1 b off h), fun b off h => Nat.le_trans HK.out.2.1.size (HLOW.out.2 b off h)⟩⟩, HV9.out.2⟩
    · have d5 : (RR.2 == 0) = false := by simp [hr0]
      have d6 : (RR.2 != 0) = true := by simp [hr0]
      have hR2 : R = (pq.noReq, C, RR.2) := by rw [HREST.out.2.1, if_pos hr0]
      have HR2 := Lib.hid (And.intro hR2 (And.intro HREST.out.1 hr0)); clear hR2 hr0
      go_upto_region 16 with (first
        | (show Go.wpList _ _ _ (⟨_, .store _ (.tmp 9) (.tmp 49), _, _, _, _⟩ :: _) _ _; go_loud (refine wpList_store_row rfl 25 (.tmp 9) (.tmp 49) rfl w5.heap.size cs rfl rfl 25 pq.zero (Blk.new w5 25 pq.zero) (by rw [H5.out.1.1]; exact pq.infoReq) (by rw [H5.out.1.1]; rfl) H5.out.1.2 ?_))
        | (go_at_call 41; refine HR2.out.2.1.mono ?_; rintro en w5 ⟨⟨cs, rfl, q1, q2⟩, q3⟩; have H5 := Lib.hid (And.intro q1 q3); clear q1 q2 q3))
      obtain ⟨w6, hw6⟩ : ∃ w6, w6 = (w5.alloc (.cells #[.int .i64 0, .int .i64 0, .string (ByteArray.mk #[]), .string (ByteArray.mk #[]), .int .i64 0, .int .i64 0, .int .i64 0, .int .i64 0, .string (ByteArray.mk #[]), .string (ByteArray.mk #[]), .int .i64 0, .slice none 0 0, .slice none 0 0] 25)).setRow w5.heap.size cs := ⟨_, rfl⟩
      rw [← hw6]
      have hc56 : Chg w5 w6 (fun _ => False) := by
        rw [hw6]
        exact (Chg.alloc w5 _ (fun _ => False)).trans (pq.chg_row _ _ _) fun k hk q => absurd hk (by rw [show k = w5.heap.size from q]; exact Nat.lt_irrefl _)
      have hk0 := hc56.blk (H5.out.2.blk HK.out.1 HK.out.2.2.2) fun q => q
      have hb06 : Below w.heap.size w w6 := (HK.out.2.1.trans (H5.out.2.below HK.out.2.1.size fun k hk => by have hk : k = r := hk; have h1 := H1.out.2.1; have h2 := H0.out.2.2.1.size; omega)).trans (hc56.below (Nat.le_trans HK.out.2.1.size H5.out.2.size) fun _ q => q.elim)
      have H6 := Lib.hid (And.intro hk0 hb06); clear hc56 hk0 hb06 hw6
      go_wp2_with (show Go.wpList _ _ _ (⟨_, .store _ (.tmp 2) (.tmp 53), _, _, _, _⟩ :: _) _ _; go_loud (refine wpList_store_row rfl 25 (.tmp 2) (.tmp 53) rfl b0 pq.zero rfl rfl 25 _ H6.out.1 pq.infoReq rfl pq.zero_one.2 ?_))
      have hz9 := pq.blk_row H6.out.1 pq.zero
      have hb9 : Below w.heap.size w (w6.setRow b0 pq.zero) := H6.out.2.trans ((pq.chg_row w6 b0 pq.zero).below H6.out.2.size fun k hk => by have hk : k = b0 := hk; have := HB0.out; omega)
      generalize w6.setRow b0 pq.zero = w9 at *
      refine bodyPost_ret (res_cell3 rfl _ _ b0 pq.zero _ rfl hz9 Try.underlying25 rfl pq.infoReq) rfl ?_
      exact ⟨⟨pq.zero, by rw [HR2.out.1]; rfl, (by first | exact pq.zero_one | simpa using pq.zero_one), fun _ => rfl, fun h => by rw [HR2.out.1] at h; exact absurd h HR2.out.2.2⟩, hb9⟩
end Go.Proofs.Ytimcpbbcealkiaa

/- Contract of wire.Writer's Fixed. -/
import Derived.Test.YtimcpbbcealkiaaWrA
namespace Go.Proofs.Ytimcpbbcealkiaa
open Go.RowKit

theorem wire.spoil_any (B p : Nat) (v : Value) (L : List Nat) (bad : Bool) (w : World) (h : Wr w B p v L bad) :
    Calls Try.prog 56 #[.pointer (some ⟨p, 0, none⟩)] w (WrPost w B p v L true) := by
  have hc1 := h.blk.cell 1 (v := .bool bad) rfl
  have hf1 := h.blk.frozen 1
  have H := Lib.hid h; clear h
  go_enter Try.func56, Try.ntmps56
  go_wp2
  go_ret
  refine ⟨rfl, v, ⟨H.out.blk.set 1 (.bool true), (Chg.setCell w p 1 _).own H.out.row fun k hk e => ?_, H.out.le⟩, (Chg.setCell w p 1 _).mono fun k _ hk => .inl hk, LiesU.refl _ _⟩
  subst e
  exact H.out.blk.not_row writerByte H.out.row hk

/-- May a number be written so? -/
def wire.fit (n size : Int) : Bool := decide (0 ≤ n) && decide (1 ≤ size) && decide (size ≤ 8) && (decide (size = 8) || decide (n < 2 ^ (8 * size.toNat)))
theorem fit_nat {n size : Int} (h : wire.fit n size = true) : 0 ≤ n ∧ 1 ≤ size ∧ size ≤ 8 := by
  unfold wire.fit at h
  simp only [Bool.and_eq_true, decide_eq_true_eq] at h
  omega
theorem wire.fit_no {n size : Int} (h : n < 0 ∨ size < 1 ∨ 8 < size) : wire.fit n size = false := by
  unfold wire.fit
  rw [Bool.eq_false_iff]
  intro hh
  simp only [Bool.and_eq_true, decide_eq_true_eq] at hh
  omega
set_option maxRecDepth 20000 in
set_option maxHeartbeats 800000 in
theorem wire.fits_any (n size : Int) (w : World) (h1 : -9223372036854775808 ≤ n) (h2 : n ≤ 9223372036854775807) :
    Calls Try.prog 55 #[.int .i64 n, .int .i64 size] w fun e w' => e = .returned (.bool (wire.fit n size)) ∧ w = w' := by
  go_enter Try.func55, Try.ntmps55
  go_wp2
  all_goals go_ret
  all_goals refine ⟨ret_bool ?_, rfl⟩
  · rw [wire.fit_no (by omega)]
  · have e : size = 8 := by simpa using ‹(size == 8) = true›
    subst e
    simp [wire.fit]; omega
  · have hne : size ≠ 8 := by simpa using ‹(size == 8) = false›
    have h7 : size = 1 ∨ size = 2 ∨ size = 3 ∨ size = 4 ∨ size = 5 ∨ size = 6 ∨ size = 7 := by omega
    rcases h7 with rfl | rfl | rfl | rfl | rfl | rfl | rfl
    all_goals simp [wire.fit, wrap64]; omega
  · rw [wire.fit_no (by omega)]
  · rw [wire.fit_no (by omega)]

/-- A number in so many bytes, the greatest first. -/
def wire.be (n : Nat) : Nat → List Nat
  | 0 => []
  | k + 1 => n / 256 ^ k % 256 :: wire.be n k
theorem wire.be_len (n k : Nat) : (wire.be n k).length = k := by
  induction k with
  | zero => rfl
  | succ k ih => simp [wire.be, ih]

theorem wire.be_byte (n : Nat) : ∀ k, ∀ d ∈ wire.be n k, d < 256
  | 0, d, h => by simp [wire.be] at h
  | k + 1, d, h => by
    simp only [wire.be, List.mem_cons] at h
    rcases h with rfl | h
    · omega
    · exact wire.be_byte n k d h

theorem wire.byte_shift (n k : Nat) : IntKind.u8.wrap ((n : Int) / 2 ^ (8 * (k : Int)).toNat) = ((n / 256 ^ k % 256 : Nat) : Int) := by
  have e : (8 * (k : Int)).toNat = 8 * k := by omega
  have e2 : ((2 : Int) ^ (8 * k)) = ((256 ^ k : Nat) : Int) := by
    rw [show (256 : Nat) = 2 ^ 8 by rfl, ← Nat.pow_mul]; push_cast; rfl
  rw [e, IntKind.wrap_u8, e2]
  exact (congrArg (fun z : Int => z % 256) (rfl : (n : Int) / ((256 ^ k : Nat) : Int) = ((n / 256 ^ k : Nat) : Int))).trans rfl
set_option maxRecDepth 20000 in
set_option maxHeartbeats 800000 in
theorem wire.fixed_any (B p : Nat) (v : Value) (L : List Nat) (bad : Bool) (n size : Nat) (w : World) (h : Wr w B p v L bad) (hL : L.length ≤ 70368744177000) (hs1 : 1 ≤ size) (hs8 : size ≤ 8) (hfit : wire.fit n size = true) (hn : (n : Int) ≤ 9223372036854775807) :
    Calls Try.prog 27 #[.pointer (some ⟨p, 0, none⟩), .int .i64 n, .int .i64 size] w (WrPost w B p v (L ++ wire.be n size) bad) := by
  obtain ⟨i0, hi, hz0, hz1, hz2⟩ := info_parts infoByte
  have H := Lib.hid h; clear h
  have HFIT := Lib.hid hfit; clear hfit
  go_enter Try.func27, Try.ntmps27
  go_wp2_with fail
  refine (wire.fits_any n size w (by omega) (by omega)).mono ?_
  rintro e w' ⟨rfl, rfl⟩
  rw [HFIT.out]
  go_wp2
  go_loopw [7] (fun i wr => ∃ (k : Nat) (M : List Nat) (u : Value), k ≤ size ∧ i = .int .i64 ((k : Int) - 1) ∧ M ++ wire.be n k = L ++ wire.be n size ∧ M.length + k = L.length + size ∧ Wr wr B p u M bad ∧ Chg w wr (wrT p v) ∧ LiesU w v u) (fun i _ => (intOf i + 1).toNat)
  case atStart => exact ⟨size, L, v, Nat.le_refl _, rfl, rfl, rfl, H.out, Chg.refl _ _, LiesU.refl _ _⟩
  case round =>
    obtain ⟨k, M, u, hk, rfl, hMk, hMl, hw, hc, hl⟩ := hrel
    have HW := Lib.hid hw; clear hw
    have HC := Lib.hid hc; clear hc
    have HLU := Lib.hid hl; clear hl
    have HMK := Lib.hid hMk; clear hMk
    have hc0 := HW.out.blk.cell 0 (v := u) rfl
    have hf0 := HW.out.blk.frozen 0
    cases k with
    | zero =>
      have hfin : M = L ++ wire.be n size := by have := HMK.out; simpa [wire.be] using this
      have HFIN := Lib.hid hfin; clear hfin
      go_wp2
      go_ret
      exact ⟨rfl, u, by rw [← HFIN.out]; exact HW.out, HC.out, HLU.out⟩
    | succ k =>
      have hk0 : (0 : Int) ≤ ((k + 1 : Nat) : Int) - 1 := by omega
      go_wp2
      have hmul : IntKind.i64.wrap (8 * (k : Int)) = 8 * (k : Int) := by rw [IntKind.wrap_i64]; omega
      have hmul0 : 0 ≤ 8 * (k : Int) := by omega
      obtain ⟨d, hd⟩ : ∃ d, d = n / 256 ^ k % 256 := ⟨_, rfl⟩
      have hbyte : IntKind.u8.wrap ((n : Int) / 2 ^ (8 * (k : Int)).toNat) = (d : Int) := by rw [hd]; exact wire.byte_shift n k
      have hnext : (M ++ [d]) ++ wire.be n k = L ++ wire.be n size := by rw [← HMK.out, hd, List.append_assoc]; rfl
      have HNEXT := Lib.hid hnext; clear hnext
      clear hd
      have hlen : M.length ≤ 70368744177008 := by omega
      have hca := (HW.out.alloc (.cells #[.int .u8 (d : Int)] 5)).blk.cell 0 (v := u) rfl
      go_region_law
        (first
          | (refine step_app2 _ rfl (.tmp 28) (.tmp 34) 23 rfl B 5 i0 _ 1 1 Try.underlying23 hi hz0 hz1 hz2 rfl (by decide) u M.length (u8s M) rfl (HW.out.alloc (.cells #[.int .u8 (d : Int)] 5)).drew.row (some ⟨wr.heap.size, 0, none⟩) 1 1 (fun _ => .int .u8 (d : Int)) rfl (by rw [Nat.mul_one]; exact (At.one wr _ _).drew 1) (fun j _ => rfl) (by unfold maxLen; omega) (by omega) (by have := HW.out.blk.lt; have := HW.out.le; simp; omega) ?_; intro v' w2 hown2 hg2 hl2; obtain ⟨A2, k2, c2, rfl, hb2, hd2⟩ := (HW.out.alloc (.cells #[.int .u8 (d : Int)] 5)).drew.appended (M := [d]) rfl hown2 hg2 hl2; have hc2 := hb2.cell 0 (v := u) rfl; have hf2 := hb2.frozen 0; have HD2 := Lib.hid hd2; clear hd2 hg2 hl2 hown2 hb2))
      all_goals
        go_wp2
        go_roundw
        case rel =>
          obtain ⟨v2, r2, c2, l2⟩ := WrDone.trans (v1 := u) (HC.out.trans (Chg.alloc wr _ (fun _ => False)) (fun _ _ h => h.elim)).drew HLU.out HD2.out
          exact ⟨k, M ++ [d], v2, by omega, num_eq (by omega), HNEXT.out, by rw [List.length_append]; simp; omega, r2, c2, l2⟩
        case measure => simp [intOf]
end Go.Proofs.Ytimcpbbcealkiaa

/- Contract of wire.Reader's Fixed, whatever is left. -/
import Derived.Test.YtimcpbbcealkiaaRdA
import Derived.Laws.BitsAllLaws
import Derived.Laws.BitsLemmas
namespace Go.Proofs.Ytimcpbbcealkiaa
open Go.RowKit

/-- The number that bytes are, the greatest first. -/
def wire.valF (n : Nat) (L : List Nat) : Nat := L.foldl (fun n x => n * 256 + x) n
def wire.val (L : List Nat) : Nat := wire.valF 0 L
theorem wire.val_snoc (L : List Nat) (x : Nat) : wire.val (L ++ [x]) = wire.val L * 256 + x := by simp [wire.val, wire.valF]
theorem wire.valF_lt : ∀ (L : List Nat) (n : Nat), (∀ x ∈ L, x < 256) → wire.valF n L + 1 ≤ (n + 1) * 256 ^ L.length := by
  intro L
  induction L with
  | nil => intro n _; simp [wire.valF]
  | cons x L ih =>
    intro n h
    have h1 := ih (n * 256 + x) fun y hy => h y (by simp [hy])
    have h2 := h x (by simp)
    have h3 : (n * 256 + x + 1) * 256 ^ L.length ≤ ((n + 1) * 256) * 256 ^ L.length := Nat.mul_le_mul_right _ (by omega)
    rw [List.length_cons, Nat.pow_succ, Nat.mul_comm (256 ^ L.length) 256, ← Nat.mul_assoc]
    exact Nat.le_trans h1 h3
theorem wire.val_lt (L : List Nat) (h : ∀ x ∈ L, x < 256) : wire.val L < 256 ^ L.length := by
  have := wire.valF_lt L 0 h
  unfold wire.val
  omega
theorem wire.or8 (n x : Nat) (hn : n < 36028797018963968) (hx : x < 256) : bits .or .i64 ((n : Int) * 256) (x : Int) = ((n * 256 + x : Nat) : Int) := by
  have e : (n : Int) * 256 = ((n * 256 : Nat) : Int) := by omega
  have h1 : (BitVec.ofInt 64 ((n * 256 : Nat) : Int)).toNat = n * 256 := by
    rw [BitVec.ofInt_natCast, BitVec.toNat_ofNat]; exact Nat.mod_eq_of_lt (by omega)
  have h2 : (BitVec.ofInt 64 (x : Int)).toNat = x := by
    rw [BitVec.ofInt_natCast, BitVec.toNat_ofNat]; exact Nat.mod_eq_of_lt (by omega)
  have h3 : n * 256 ||| x = n * 256 + x := by
    have := Nat.two_pow_add_eq_or_of_lt (i := 8) (b := x) hx n
    rw [show (2 : Nat) ^ 8 = 256 from rfl, Nat.mul_comm] at this
    exact this.symm
  rw [e]
  show IntKind.i64.wrap ((BitVec.ofInt 64 ((n * 256 : Nat) : Int) ||| BitVec.ofInt 64 (x : Int)).toNat : Int) = _
  rw [BitVec.toNat_or, h1, h2, h3, IntKind.wrap_i64]
  omega

/-- What Fixed answers, what is left, the error. -/
def rd.fbad (L : List Nat) (size : Int) : Prop := size < 1 ∨ 8 < size ∨ (L.length : Int) < size ∨ (size = 8 ∧ 128 ≤ L.getD 0 0)
instance (L : List Nat) (size : Int) : Decidable (rd.fbad L size) := by unfold rd.fbad; infer_instance
def rd.fixed (L : List Nat) (e size : Int) : Int × List Nat × Int :=
  if e ≠ 0 then (0, L, e) else if rd.fbad L size then (0, [], 2) else ((wire.val (L.take size.toNat) : Nat), L.drop size.toNat, 0)

/-- The rounds. -/
theorem wire.val_step (L : List Nat) (k : Nat) (h : k < L.length) : wire.val (L.take (k + 1)) = wire.val (L.take k) * 256 + L.getD k 0 := by
  rw [List.take_succ_eq_append_getElem h, wire.val_snoc]
  simp [List.getD, h]
theorem wire.val_bd (L : List Nat) (hb : ∀ x ∈ L, x < 256) (hl : L.length ≤ 8) (h8 : L.length = 8 → L.getD 0 0 < 128) (k : Nat) (hk : k < L.length) : wire.val (L.take k) < 36028797018963968 := by
  have h1 := wire.val_lt (L.take k) fun x hx => hb x (List.mem_of_mem_take hx)
  rw [List.length_take] at h1
  by_cases h7 : k ≤ 6
  · have : 256 ^ (min k L.length) ≤ 256 ^ 6 := Nat.pow_le_pow_right (by omega) (by omega)
    omega
  · have hk7 : k = 7 := by omega
    subst hk7
    cases L with
    | nil => simp at hk
    | cons x L =>
      have h0 : x < 128 := h8 (by omega)
      have h2 := wire.valF_lt (L.take 6) x fun y hy => hb y (by simp [List.mem_of_mem_take hy])
      have h3 : wire.val ((x :: L).take 7) = wire.valF x (L.take 6) := by simp [wire.val, wire.valF]
      have h4 : (L.take 6).length = 6 := by rw [List.length_take]; simp at hk; omega
      rw [h4] at h2
      have h5 : (x + 1) * 256 ^ 6 ≤ 128 * 256 ^ 6 := Nat.mul_le_mul_right _ (by omega)
      rw [h3]
      omega

set_option maxRecDepth 20000 in
set_option maxHeartbeats 1600000 in
theorem wire.rfixed_near (r : Nat) (A : Option Addr) (c : Nat) (L : List Nat) (n : Nat) (w : World) (h : Rd w r A c L 0) (hbad : ¬ rd.fbad L n) :
    Calls Try.prog 40 #[.pointer (some ⟨r, 0, none⟩), .int .i64 n] w fun en w' => en = .returned (.int .i64 (wire.val (L.take n) : Nat)) ∧ RdNear w' r A (L.drop n) 0 ∧ Chg w w' (rdT r) := by
  have hc0 := h.blk.cell 0 (v := .slice A L.length c) rfl
  have hlen := h.len
  have hcap := h.cap
  unfold maxLen at hcap
  have h8 : (n : Int) = 8 → L.getD 0 0 < 128 := fun e => by unfold rd.fbad at hbad; omega
  have n1 : ¬ (n : Int) < 1 := by unfold rd.fbad at hbad; omega
  have n2 : ¬ (8 : Int) < n := by unfold rd.fbad at hbad; omega
  have n3 : ¬ (L.length : Int) < n := by unfold rd.fbad at hbad; omega
  have n4 : n ≤ L.length := by omega
  clear hbad
  have H := Lib.hid h; clear h
  have H8 := Lib.hid h8; clear h8
  have hy : ∃ y : Nat, (n = 8 → ∃ b off, A = some ⟨b, off, none⟩ ∧ w.cell? ⟨b, off, none⟩ = some (.int .u8 (y : Int)) ∧ ¬ (128 : Int) ≤ y) := by
    refine ⟨L.getD 0 0, fun e => ?_⟩
    obtain ⟨b, off, rfl, hbb, hc⟩ := H.out.lie (by omega)
    exact ⟨b, off, rfl, hc 0 (by omega), by have := H8.out (by omega); omega⟩
  obtain ⟨y, hy⟩ := hy
  by_cases he : n = 8
  · obtain ⟨b, off, rfl, hy, hyb⟩ := hy he
    have he' : ((n : Int) == 8) = true := by simp; omega
    have HE := Lib.hid he; clear he
    go_enter Try.func40, Try.ntmps40
    go_wp2_with fail
    refine (wire.err_any r _ c L 0 w H.out).mono ?_
    rintro en w' ⟨rfl, rfl⟩
    go_wp2_with fail
    refine (wire.take_near r _ c L 0 n w H.out n4).mono ?_
    rintro en w1 ⟨rfl, hat, hrd, hch⟩
    have HRD := Lib.hid hrd; clear hrd
    have HCH := Lib.hid hch; clear hch
    have HAT := Lib.hid hat; clear hat
    go_wp2
    go_loop [5, 45] (fun x i => ∃ k : Nat, k ≤ n ∧ i = .int .i64 (k : Int) ∧ x = .int .i64 ((wire.val (L.take k) : Nat) : Int)) (fun _ i => n - (intOf i).toNat)
    case atStart => exact ⟨0, by omega, rfl, rfl⟩
    case round =>
      obtain ⟨k, hk, rfl, rfl⟩ := hrel
      by_cases hlt : k < n
      · obtain ⟨b2, off2, hA, hbb2, hc2⟩ := HAT.out (by omega)
        obtain ⟨rfl, rfl⟩ : b2 = b ∧ off2 = off := by simpa [eq_comm] using hA
        obtain ⟨z, hz⟩ : ∃ z, z = L.getD k 0 := ⟨_, rfl⟩
        have hc3 : w1.cell? ⟨b2, off2 + k, none⟩ = some (.int .u8 (z : Int)) := by rw [hc2 k hlt, hz]; exact byte_take L n k hlt
        clear hc2
        have hz2 : z < 256 := by rw [hz]; exact getD_all H.out.byte k (by omega)
        have hv : wire.val (L.take k) < 36028797018963968 := by
          have := wire.val_bd (L.take n) (fun x hx => H.out.byte x (List.mem_of_mem_take hx)) (by rw [List.length_take]; omega) (fun e => by rw [List.length_take] at e; have := H8.out (by omega); rwa [getD_take L n 0 (by omega)]) k (by rw [List.length_take]; omega)
          rwa [List.take_take, Nat.min_eq_left (by omega)] at this
        have hst := wire.val_step L k (by omega)
        rw [← hz] at hst
        have HST := Lib.hid hst; clear hst
        clear hz
        obtain ⟨q, hq⟩ : ∃ q, q = wire.val (L.take k) := ⟨_, rfl⟩
        rw [← hq] at hv ⊢
        have hor := wire.or8 q z hv hz2
        have HQ := Lib.hid hq; clear hq
        have hlt' : (k : Int) < n := by omega
        go_wp2
        go_round
        case rel => exact ⟨k + 1, by omega, by go_num, num_eq (by rw [HST.out, ← HQ.out]; omega)⟩
        case measure => simp [intOf]; omega
      · obtain rfl : k = n := by omega
        go_wp2
        go_ret
        exact ⟨rfl, HRD.out, HCH.out⟩
  · clear hy
    have he' : ((n : Int) == 8) = false := by simp; omega
    have HE := Lib.hid he; clear he
    go_enter Try.func40, Try.ntmps40
    go_wp2_with fail
    refine (wire.err_any r _ c L 0 w H.out).mono ?_
    rintro en w' ⟨rfl, rfl⟩
    go_wp2_with fail
    refine (wire.take_near r _ c L 0 n w H.out n4).mono ?_
    rintro en w1 ⟨rfl, hat, hrd, hch⟩
    have HRD := Lib.hid hrd; clear hrd
    have HCH := Lib.hid hch; clear hch
    have HAT := Lib.hid hat; clear hat
    go_wp2
    go_loop [5, 45] (fun x i => ∃ k : Nat, k ≤ n ∧ i = .int .i64 (k : Int) ∧ x = .int .i64 ((wire.val (L.take k) : Nat) : Int)) (fun _ i => n - (intOf i).toNat)
    case atStart => exact ⟨0, by omega, rfl, rfl⟩
    case round =>
      obtain ⟨k, hk, rfl, rfl⟩ := hrel
      by_cases hlt : k < n
      · obtain ⟨b2, off2, hA, hbb2, hc2⟩ := HAT.out (by omega)
        cases hA
        obtain ⟨z, hz⟩ : ∃ z, z = L.getD k 0 := ⟨_, rfl⟩
        have hc3 : w1.cell? ⟨b2, off2 + k, none⟩ = some (.int .u8 (z : Int)) := by rw [hc2 k hlt, hz]; exact byte_take L n k hlt
        clear hc2
        have hz2 : z < 256 := by rw [hz]; exact getD_all H.out.byte k (by omega)
        have hv : wire.val (L.take k) < 36028797018963968 := by
          have := wire.val_bd (L.take n) (fun x hx => H.out.byte x (List.mem_of_mem_take hx)) (by rw [List.length_take]; omega) (fun e => by rw [List.length_take] at e; have := H8.out (by omega); rwa [getD_take L n 0 (by omega)]) k (by rw [List.length_take]; omega)
          rwa [List.take_take, Nat.min_eq_left (by omega)] at this
        have hst := wire.val_step L k (by omega)
        rw [← hz] at hst
        have HST := Lib.hid hst; clear hst
        clear hz
        obtain ⟨q, hq⟩ : ∃ q, q = wire.val (L.take k) := ⟨_, rfl⟩
        rw [← hq] at hv ⊢
        have hor := wire.or8 q z hv hz2
        have HQ := Lib.hid hq; clear hq
        have hlt' : (k : Int) < n := by omega
        go_wp2
        go_round
        case rel => exact ⟨k + 1, by omega, by go_num, num_eq (by rw [HST.out, ← HQ.out]; omega)⟩
        case measure => simp [intOf]; omega
      · obtain rfl : k = n := by omega
        go_wp2
        go_ret
        exact ⟨rfl, HRD.out, HCH.out⟩
theorem wire.rfixed_ok (r : Nat) (A : Option Addr) (c : Nat) (L : List Nat) (n : Nat) (w : World) (h : Rd w r A c L 0) (hbad : ¬ rd.fbad L n) :
    Calls Try.prog 40 #[.pointer (some ⟨r, 0, none⟩), .int .i64 n] w (RdPost w r (.int .i64 (wire.val (L.take n) : Nat)) (L.drop n) 0) :=
  (wire.rfixed_near r A c L n w h hbad).mono fun _ _ ⟨h1, h2, h3⟩ => ⟨h1, h2.is, h3⟩

set_option maxRecDepth 20000 in
set_option maxHeartbeats 1600000 in
theorem wire.rfixed_bad (r : Nat) (A : Option Addr) (c : Nat) (L : List Nat) (size : Int) (w : World) (h : Rd w r A c L 0) (hbad : rd.fbad L size) :
    Calls Try.prog 40 #[.pointer (some ⟨r, 0, none⟩), .int .i64 size] w (RdPost w r (.int .i64 0) [] 2) := by
  have hc0 := h.blk.cell 0 (v := .slice A L.length c) rfl
  have H := Lib.hid h; clear h
  have hcase : size < 1 ∨ (¬ size < 1 ∧ 8 < size) ∨ (¬ size < 1 ∧ ¬ 8 < size ∧ (L.length : Int) < size) ∨ (size = 8 ∧ ¬ (L.length : Int) < size ∧ 128 ≤ L.getD 0 0) := by unfold rd.fbad at hbad; omega
  clear hbad
  rcases hcase with n1 | ⟨n1, n2⟩ | ⟨n1, n2, n3⟩ | ⟨n1, n3, n4⟩
  · go_enter Try.func40, Try.ntmps40
    go_wp2_with fail
    refine (wire.err_any r A c L 0 w H.out).mono ?_
    rintro en w' ⟨rfl, rfl⟩
    go_wp2_with fail
    refine (wire.fail_any r A c L 0 2 w H.out).mono ?_
    rintro en w1 ⟨rfl, hrd, hch⟩
    have HRD := Lib.hid hrd; clear hrd
    have HCH := Lib.hid hch; clear hch
    go_wp2
    go_ret
    exact ⟨rfl, HRD.out, HCH.out⟩
  · go_enter Try.func40, Try.ntmps40
    go_wp2_with fail
    refine (wire.err_any r A c L 0 w H.out).mono ?_
    rintro en w' ⟨rfl, rfl⟩
    go_wp2_with fail
    refine (wire.fail_any r A c L 0 2 w H.out).mono ?_
    rintro en w1 ⟨rfl, hrd, hch⟩
    have HRD := Lib.hid hrd; clear hrd
    have HCH := Lib.hid hch; clear hch
    go_wp2
    go_ret
    exact ⟨rfl, HRD.out, HCH.out⟩
  · go_enter Try.func40, Try.ntmps40
    go_wp2_with fail
    refine (wire.err_any r A c L 0 w H.out).mono ?_
    rintro en w' ⟨rfl, rfl⟩
    go_wp2_with fail
    refine (wire.fail_any r A c L 0 2 w H.out).mono ?_
    rintro en w1 ⟨rfl, hrd, hch⟩
    have HRD := Lib.hid hrd; clear hrd
    have HCH := Lib.hid hch; clear hch
    go_wp2
    go_ret
    exact ⟨rfl, HRD.out, HCH.out⟩
  · subst n1
    obtain ⟨b, off, rfl, hbb, hc⟩ := H.out.lie (by omega)
    obtain ⟨y, hy2⟩ : ∃ y, y = L.getD 0 0 := ⟨_, rfl⟩
    have hy : w.cell? ⟨b, off, none⟩ = some (.int .u8 (y : Int)) := by rw [hy2]; exact hc 0 (by omega)
    have hyb : (128 : Int) ≤ y := by omega
    have n3' : ¬ (L.length < 8) := by omega
    clear hc hy2 n4
    go_enter Try.func40, Try.ntmps40
    go_wp2_with fail
    refine (wire.err_any r _ c L 0 w H.out).mono ?_
    rintro en w' ⟨rfl, rfl⟩
    go_wp2_with fail
    refine (wire.fail_any r _ c L 0 2 w H.out).mono ?_
    rintro en w1 ⟨rfl, hrd, hch⟩
    have HRD := Lib.hid hrd; clear hrd
    have HCH := Lib.hid hch; clear hch
    go_wp2
    go_ret
    exact ⟨rfl, HRD.out, HCH.out⟩

set_option maxHeartbeats 800000 in
theorem wire.rfixed_any (r : Nat) (A : Option Addr) (c : Nat) (L : List Nat) (e size : Int) (w : World) (h : Rd w r A c L e) :
    Calls Try.prog 40 #[.pointer (some ⟨r, 0, none⟩), .int .i64 size] w (RdPost w r (.int .i64 (rd.fixed L e size).1) (rd.fixed L e size).2.1 (rd.fixed L e size).2.2) := by
  unfold rd.fixed
  by_cases he : e = 0
  · subst he
    rw [if_neg (by simp)]
    by_cases hbad : rd.fbad L size
    · rw [if_pos hbad]
      exact wire.rfixed_bad r A c L size w h hbad
    · rw [if_neg hbad]
      obtain ⟨n, rfl⟩ := Int.eq_ofNat_of_zero_le (show 0 ≤ size by unfold rd.fbad at hbad; omega)
      exact wire.rfixed_ok r A c L n w h hbad
  · rw [if_pos he]
    have he' : (e == 0) = false := by simpa using he
    have H := Lib.hid h; clear h he
    go_enter Try.func40, Try.ntmps40
    go_wp2_with fail
    refine (wire.err_any r A c L e w H.out).mono ?_
    rintro en w' ⟨rfl, rfl⟩
    go_wp2
    go_ret
    exact ⟨rfl, ⟨A, c, H.out⟩, Chg.refl _ _⟩
end Go.Proofs.Ytimcpbbcealkiaa

/- The reference of chapter 5: GetFixed of any bytes, a record is read. -/
import Derived.Test.YtahncanmfjmfnaaBrA
import Derived.Test.YtahncanmfjmfnaaRefC
import Derived.Test.YtahncanmfjmfnaaSlc
namespace Go.Proofs.Ytahncanmfjmfnaa
open Go.RowKit

theorem wire.or8all (n x : Nat) (hn : n < 72057594037927936) (hx : x < 256) : bits .or .u64 ((n : Int) * 256) (x : Int) = ((n * 256 + x : Nat) : Int) := by
  have e : (n : Int) * 256 = ((n * 256 : Nat) : Int) := by omega
  have h1 : (BitVec.ofInt 64 ((n * 256 : Nat) : Int)).toNat = n * 256 := by
    rw [BitVec.ofInt_natCast, BitVec.toNat_ofNat]; exact Nat.mod_eq_of_lt (by omega)
  have h2 : (BitVec.ofInt 64 (x : Int)).toNat = x := by
    rw [BitVec.ofInt_natCast, BitVec.toNat_ofNat]; exact Nat.mod_eq_of_lt (by omega)
  have h3 : n * 256 ||| x = n * 256 + x := by
    have := Nat.two_pow_add_eq_or_of_lt (i := 8) (b := x) hx n
    rw [show (2 : Nat) ^ 8 = 256 from rfl, Nat.mul_comm] at this
    exact this.symm
  rw [e]
  show IntKind.u64.wrap ((BitVec.ofInt 64 ((n * 256 : Nat) : Int) ||| BitVec.ofInt 64 (x : Int)).toNat : Int) = _
  rw [BitVec.toNat_or, h1, h2, h3, IntKind.wrap_u64]
  omega

set_option maxHeartbeats 800000 in
theorem wire.refgetfixed_all (A : Option Addr) (m c : Nat) (L : List Nat) (w : World) (hm : L.length = m) (hat : At w A m (byteAt L)) (hb : ∀ x ∈ L, x < 256) (hl : m ≤ 8) :
    Calls Try.prog 54 #[.slice A m c] w fun e w' => e = .returned (.int .i64 (wrap64 (wire.val L : Nat))) ∧ w = w' := by
  have HAT := Lib.hid hat; clear hat
  have hbd : ∀ k, k < m → wire.val (L.take k) < 72057594037927936 := fun k hk => by
    have h1 := wire.val_lt (L.take k) fun x hx => hb x (List.mem_of_mem_take hx)
    rw [List.length_take, Nat.min_eq_left (by omega)] at h1
    have h2 : 256 ^ k ≤ 256 ^ 7 := Nat.pow_le_pow_right (by decide) (by omega)
    rw [show (256 : Nat) ^ 7 = 72057594037927936 from rfl] at h2
    omega
  have HBD := Lib.hid hbd; clear hbd
  have htop : wire.val L ≤ 18446744073709551615 := by
    have h1 := wire.val_lt L hb
    have h2 : 256 ^ L.length ≤ 256 ^ 8 := Nat.pow_le_pow_right (by decide) (by omega)
    rw [show (256 : Nat) ^ 8 = 18446744073709551616 from rfl] at h2
    omega
  have HTOP := Lib.hid htop; clear htop
  have HB := Lib.hid hb; clear hb
  go_enter Try.func54, Try.ntmps54
  go_wp2
  go_loop [3, 4] (fun x i => ∃ k : Nat, k ≤ m ∧ i = .int .i64 (k : Int) ∧ x = .int .u64 ((wire.val (L.take k) : Nat) : Int)) (fun _ i => m - (intOf i).toNat)
  case atStart => exact ⟨0, by omega, rfl, rfl⟩
  case round =>
    obtain ⟨k, hk, rfl, rfl⟩ := hrel
    by_cases hlt : k < m
    · obtain ⟨b, off, rfl, hbb, hc⟩ := HAT.out (by omega)
      obtain ⟨z, hz⟩ : ∃ z, z = L.getD k 0 := ⟨_, rfl⟩
      have hc3 : w.cell? ⟨b, off + k, none⟩ = some (.int .u8 (z : Int)) := by rw [hc k hlt, hz]; rfl
      clear hc
      have hz2 : z < 256 := by rw [hz]; exact getD_all HB.out k (by omega)
      have hv := HBD.out k (by omega)
      have hst := wire.val_step L k (by omega)
      rw [← hz] at hst
      have HST := Lib.hid hst; clear hst
      clear hz
      obtain ⟨q, hq⟩ : ∃ q, q = wire.val (L.take k) := ⟨_, rfl⟩
      rw [← hq] at hv ⊢
      have hor := wire.or8all q z hv hz2
      have HQ := Lib.hid hq; clear hq
      have hlt' : (k : Int) < m := by omega
      go_wp2
      go_round
      case rel => exact ⟨k + 1, by omega, by go_num, num_eq (by rw [HST.out, ← HQ.out]; omega)⟩
      case measure => simp [intOf]; omega
    · obtain rfl : k = m := by omega
      have htk : L.take k = L := by rw [← hm]; exact List.take_length
      rw [htk]
      have hl := HTOP.out
      obtain ⟨v, hv⟩ : ∃ v, v = wire.val L := ⟨_, rfl⟩
      rw [← hv] at hl ⊢
      have HV := Lib.hid hv; clear hv
      go_wp2
      go_ret
      exact ⟨by rw [← HV.out]; rfl, rfl⟩
end Go.Proofs.Ytahncanmfjmfnaa

/- The reference of chapter 3 (cordwainref1): GetFixed, GetBytes. -/
import Derived.Test.YtimcpbbcealkiaaRefG
import Derived.Test.YtimcpbbcealkiaaRdB
import Derived.Test.YtimcpbbcealkiaaRdY
namespace Go.Proofs.Ytimcpbbcealkiaa
open Go.RowKit

theorem wire.or8u (n x : Nat) (hn : n < 36028797018963968) (hx : x < 256) : bits .or .u64 ((n : Int) * 256) (x : Int) = ((n * 256 + x : Nat) : Int) := by
  have e : (n : Int) * 256 = ((n * 256 : Nat) : Int) := by omega
  have h1 : (BitVec.ofInt 64 ((n * 256 : Nat) : Int)).toNat = n * 256 := by
    rw [BitVec.ofInt_natCast, BitVec.toNat_ofNat]; exact Nat.mod_eq_of_lt (by omega)
  have h2 : (BitVec.ofInt 64 (x : Int)).toNat = x := by
    rw [BitVec.ofInt_natCast, BitVec.toNat_ofNat]; exact Nat.mod_eq_of_lt (by omega)
  have h3 : n * 256 ||| x = n * 256 + x := by
    have := Nat.two_pow_add_eq_or_of_lt (i := 8) (b := x) hx n
    rw [show (2 : Nat) ^ 8 = 256 from rfl, Nat.mul_comm] at this
    exact this.symm
  rw [e]
  show IntKind.u64.wrap ((BitVec.ofInt 64 ((n * 256 : Nat) : Int) ||| BitVec.ofInt 64 (x : Int)).toNat : Int) = _
  rw [BitVec.toNat_or, h1, h2, h3, IntKind.wrap_u64]
  omega

set_option maxHeartbeats 800000 in
theorem wire.refgetfixed_any (A : Option Addr) (m c : Nat) (L : List Nat) (w : World) (hm : L.length = m) (hat : At w A m (byteAt L)) (hb : ∀ x ∈ L, x < 256) (hl : m ≤ 8) (h8 : m = 8 → L.getD 0 0 < 128) :
    Calls Try.prog 42 #[.slice A m c] w fun e w' => e = .returned (.int .i64 (wire.val L : Nat)) ∧ w = w' := by
  have HAT := Lib.hid hat; clear hat
  have hbd := wire.val_bd L hb (by omega) (fun e => h8 (by omega))
  have HBD := Lib.hid hbd; clear hbd
  have HB := Lib.hid hb; clear hb
  have htop : wire.val L ≤ 9223372036854775807 := by
    by_cases h0 : m = 0
    · rw [List.length_eq_zero_iff.1 (by omega : L.length = 0)]; simp [wire.val, wire.valF]
    · have h1 := HBD.out (m - 1) (by omega)
      have h2 := wire.val_step L (m - 1) (by omega)
      rw [show m - 1 + 1 = L.length by omega, List.take_length] at h2
      have h3 : L.getD (m - 1) 0 < 256 := getD_all HB.out _ (by omega)
      omega
  have HTOP := Lib.hid htop; clear htop h8
  go_enter Try.func42, Try.ntmps42
  go_wp2
  go_loop [3, 4] (fun x i => ∃ k : Nat, k ≤ m ∧ i = .int .i64 (k : Int) ∧ x = .int .u64 ((wire.val (L.take k) : Nat) : Int)) (fun _ i => m - (intOf i).toNat)
  case atStart => exact ⟨0, by omega, rfl, rfl⟩
  case round =>
    obtain ⟨k, hk, rfl, rfl⟩ := hrel
    by_cases hlt : k < m
    · obtain ⟨b, off, rfl, hbb, hc⟩ := HAT.out (by omega)
      obtain ⟨z, hz⟩ : ∃ z, z = L.getD k 0 := ⟨_, rfl⟩
      have hc3 : w.cell? ⟨b, off + k, none⟩ = some (.int .u8 (z : Int)) := by rw [hc k hlt, hz]; rfl
      clear hc
      have hz2 : z < 256 := by rw [hz]; exact getD_all HB.out k (by omega)
      have hv := HBD.out k (by omega)
      have hst := wire.val_step L k (by omega)
      rw [← hz] at hst
      have HST := Lib.hid hst; clear hst
      clear hz
      obtain ⟨q, hq⟩ : ∃ q, q = wire.val (L.take k) := ⟨_, rfl⟩
      rw [← hq] at hv ⊢
      have hor := wire.or8u q z hv hz2
      have HQ := Lib.hid hq; clear hq
      have hlt' : (k : Int) < m := by omega
      go_wp2
      go_round
      case rel => exact ⟨k + 1, by omega, by go_num, num_eq (by rw [HST.out, ← HQ.out]; omega)⟩
      case measure => simp [intOf]; omega
    · obtain rfl : k = m := by omega
      have htk : L.take k = L := by rw [← hm]; exact List.take_length
      rw [htk]
      have hl := HTOP.out
      obtain ⟨v, hv⟩ : ∃ v, v = wire.val L := ⟨_, rfl⟩
      rw [← hv] at hl ⊢
      have HV := Lib.hid hv; clear hv
      go_wp2
      go_ret
      exact ⟨by rw [← HV.out]; rfl, rfl⟩

/-- What GetBytes answers: a part of the m bytes at A, wherever these lie, what is behind it, an error. -/
def wire.GetPost (A : Option Addr) (m : Nat) (L : List Nat) (w : World) (x more : List Nat) (f : Int) (e : Ending) (w' : World) : Prop :=
  (∃ A1 c1 A2 c2, e = .returned (.tuple #[.slice A1 x.length c1, .slice A2 more.length c2, .int .i64 f]) ∧ (∀ w0, At w0 A m (byteAt L) → At w0 A1 x.length (byteAt x) ∧ At w0 A2 more.length (byteAt more)) ∧ x.length ≤ c1 ∧ more.length ≤ c2 ∧ c2 ≤ maxLen) ∧ ∃ q, w' = w.drewN q
theorem wire.get_some {A : Option Addr} {w : World} {L : List Nat} {b off m k z : Nat} {x y : List Nat} (hA : A = some ⟨b, off, none⟩) (h1 : ∀ w0, At w0 A m (byteAt L) → At w0 (A.map fun a => a.add k) z (byteAt x)) (h2 : ∀ w0, At w0 A m (byteAt L) → At w0 (A.map fun a => a.add (k + z)) (m - (k + z)) (byteAt y)) (hx : x.length = z) (hy : y.length = m - (k + z))
    {A1 A2 : Option Addr} {n1 n2 c1 c2 : Nat} (hn1 : n1 = z) (hn2 : n2 = m - (k + z)) (ha1 : A1 = some ⟨b, off + k, none⟩ ∨ z = 0) (ha2 : A2 = some ⟨b, off + (k + z), none⟩ ∨ m - (k + z) = 0) (hc1 : z ≤ c1) (hc2 : n2 ≤ c2) (hc3 : c2 ≤ maxLen) {e : Ending} (he : e = .returned (.tuple #[.slice A1 n1 c1, .slice A2 n2 c2, .int .i64 0])) (q : Nat) : wire.GetPost A m L w x y 0 e (w.drewN q) := by
  subst hA he hn1 hn2
  refine ⟨⟨A1, c1, A2, c2, by rw [hx, hy], fun w0 h0 => ⟨?_, ?_⟩, by omega, by omega, hc3⟩, q, rfl⟩
  · rw [hx]
    rcases ha1 with rfl | hz
    · simpa [add_none] using h1 w0 h0
    · exact At.none0 hz
  · rw [hy]
    rcases ha2 with rfl | hz
    · simpa [add_none] using h2 w0 h0
    · exact At.none0 hz
theorem wire.get_none (A : Option Addr) (m : Nat) (L : List Nat) (w : World) (f : Int) : wire.GetPost A m L w [] [] f (.returned (.tuple #[.slice none 0 0, .slice none 0 0, .int .i64 f])) w :=
  ⟨⟨none, 0, none, 0, rfl, fun _ _ => ⟨At.none0 rfl, At.none0 rfl⟩, Nat.le_refl _, Nat.le_refl _, by simp [maxLen]⟩, 0, rfl⟩

set_option maxRecDepth 20000 in
set_option maxHeartbeats 1000000 in
theorem wire.refgetbytes_any (A : Option Addr) (m c : Nat) (L : List Nat) (most : Int) (w : World) (hm : L.length = m) (hat : At w A m (byteAt L)) (hb : ∀ x ∈ L, x < 256) (hc : m ≤ c) (hcm : c ≤ maxLen) (hm63 : m ≤ 1000000) :
    Calls Try.prog 69 #[.slice A m c, .int .i64 most] w (wire.GetPost A m L w (rd.piece L 0 most).1 (rd.piece L 0 most).2.1 (rd.piece L 0 most).2.2) := by
  have hg := num.refget_any A m c (fun j => L.getD j 0) w (by omega) hat (fun j hj => getD_all hb j (by omega))
  have hgl : num.get (fun j => L.getD j 0) m = num.getL L := by rw [← hm]; rfl
  rw [hgl] at hg
  have HG := Lib.hid hg; clear hg hgl hb
  have HAT := Lib.hid hat; clear hat
  have HM := Lib.hid hm; clear hm
  unfold maxLen at hcm
  cases hu : num.getL L with
  | none =>
    have hp : rd.piece L 0 most = ([], [], 2) := by
      unfold rd.piece
      have : rd.num L 0 = (0, [], 2) := by unfold rd.num; rw [if_neg (by decide), hu]
      rw [this]
      exact if_pos (by decide)
    rw [hp]
    have hg := HG.out
    rw [hu] at hg
    have HG2 := Lib.hid hg; clear hg hp hu
    go_enter Try.func69, Try.ntmps69
    go_wp2_with fail
    refine HG2.out.mono ?_
    rintro e w' ⟨rfl, rfl⟩
    unfold num.res2
    go_wp2_with fail
    (try simp only [Exit.inBlock, Exit.then])
    refine bodyPost_ret (results_tmp3 rfl _ _ _) rfl ?_
    exact wire.get_none _ m L w 2
  | some q =>
    obtain ⟨u, k⟩ := q
    obtain ⟨hk1, hk2⟩ := num.getL_le hu
    have hk3 := HM.out
    rw [hk3] at hk1
    have hnum : rd.num L 0 = (num.zag u, L.drop k, 0) := by unfold rd.num; rw [if_neg (by decide), hu]
    have hp : rd.piece L 0 most = rd.cut (num.zag u) (L.drop k) 0 most := by unfold rd.piece; rw [hnum]
    have hdl : (L.drop k).length = m - k := by rw [List.length_drop, hk3]
    have hg := HG.out
    rw [hu] at hg
    have hg' : Calls Try.prog 70 #[.slice A m c] w fun e w' => e = .returned (.tuple #[.int .i64 (num.zag u), .int .i64 (k : Int)]) ∧ w = w' := hg
    clear hg
    rw [hp]
    have HG2 := Lib.hid hg'; clear hg' hp hu hnum hk3
    have HDL := Lib.hid hdl; clear hdl
    generalize num.zag u = n at *
    by_cases h1 : n < 0
    · have hcut : rd.cut n (L.drop k) 0 most = ([], [], 2) := by unfold rd.cut; rw [if_neg (by decide), if_pos (.inl h1)]
      rw [hcut]
      clear hcut
      go_enter Try.func69, Try.ntmps69
      go_wp2_with fail
      refine HG2.out.mono ?_
      rintro e w' ⟨rfl, rfl⟩
      have hk0 : ((k : Int) == 0) = false := by simp; omega
      go_wp2_with fail
      (try simp only [Exit.inBlock, Exit.then])
      refine bodyPost_ret (results_tmp3 rfl _ _ _) rfl ?_
      exact wire.get_none _ m L w 2
    obtain ⟨z, rfl⟩ := Int.eq_ofNat_of_zero_le (show 0 ≤ n by omega)
    have hk0 : ((k : Int) == 0) = false := by simp; omega
    by_cases h2 : m - k < z
    · have hcut : rd.cut (z : Int) (L.drop k) 0 most = ([], [], 2) := by unfold rd.cut; rw [if_neg (by decide), if_pos (.inr (by have := HDL.out; omega))]
      rw [hcut]
      clear hcut
      go_enter Try.func69, Try.ntmps69
      go_wp2_with fail
      refine HG2.out.mono ?_
      rintro e w' ⟨rfl, rfl⟩
      go_wp2_with fail
      go_ret3
      exact wire.get_none _ m L w 2
    by_cases h3 : most < (z : Int)
    · have hcut : rd.cut (z : Int) (L.drop k) 0 most = ([], [], 3) := by unfold rd.cut; rw [if_neg (by decide), if_neg (by have := HDL.out; omega), if_pos h3]
      rw [hcut]
      clear hcut
      go_enter Try.func69, Try.ntmps69
      go_wp2_with fail
      refine HG2.out.mono ?_
      rintro e w' ⟨rfl, rfl⟩
      go_wp2_with fail
      go_ret3
      exact wire.get_none _ m L w 3
    have hcut : rd.cut (z : Int) (L.drop k) 0 most = ((L.drop k).take z, (L.drop k).drop z, 0) := by unfold rd.cut; rw [if_neg (by decide), if_neg (by have := HDL.out; omega), if_neg h3, Int.toNat_natCast]
    rw [hcut]
    clear hcut
    have hl1 : ((L.drop k).take z).length = z := by rw [List.length_take]; have := HDL.out; omega
    have hl2 : ((L.drop k).drop z).length = m - (k + z) := by rw [List.length_drop]; have := HDL.out; omega
    have hat1 : ∀ w0, At w0 A m (byteAt L) → At w0 (A.map fun a => a.add k) z (byteAt ((L.drop k).take z)) := fun w0 h0 => (h0.byte_from k).byte_le z (by omega)
    have hat2 : ∀ w0, At w0 A m (byteAt L) → At w0 (A.map fun a => a.add (k + z)) (m - (k + z)) (byteAt ((L.drop k).drop z)) := fun w0 h0 => by rw [List.drop_drop]; exact h0.byte_from (k + z)
    have HL := Lib.hid (And.intro hl1 hl2); clear hl1 hl2
    have HA1 := Lib.hid hat1; clear hat1
    have HA2 := Lib.hid hat2; clear hat2
    obtain ⟨b, off, rfl, hbb, -⟩ := HAT.out (by omega)
    go_enter Try.func69, Try.ntmps69
    go_wp2_with fail
    refine HG2.out.mono ?_
    rintro e w' ⟨rfl, rfl⟩
    have hcm' : c ≤ maxLen := hcm
    by_cases hc1 : c = k
    · have hz0 : z = 0 := by omega
      have hc2 : c = k + z := by omega
      go_wp2_with fail
      go_quiet (fail)
      go_wp2
      go_ret3
      refine wire.get_some rfl HA1.out HA2.out HL.out.1 HL.out.2 ?_ ?_ ?_ ?_ ?_ ?_ ?_ rfl _ <;> first | omega | rfl | exact .inl rfl | exact .inr (by omega)
    · by_cases hc2 : c = k + z
      all_goals
        go_wp2_with fail
        go_quiet (fail)
        go_wp2
        go_ret3
        refine wire.get_some rfl HA1.out HA2.out HL.out.1 HL.out.2 ?_ ?_ ?_ ?_ ?_ ?_ ?_ rfl _ <;> first | omega | rfl | exact .inl rfl | exact .inr (by omega)
end Go.Proofs.Ytimcpbbcealkiaa

/- The walk of the law NumAsks, where the bytes begin with none. -/
import Derived.Test.YtfblfgnnnbcplaaNumAskP
namespace Go.Proofs.Ytfblfgnnnbcplaa
open Go.RowKit

set_option maxRecDepth 20000 in
set_option maxHeartbeats 4000000 in
theorem num.asksB (n u : Int) (X : Option Addr) (m c : Nat) (Z : List Nat) (w : World) (hat : At w X m (byteAt Z)) (hzb : ∀ j, j < m → Z.getD j 0 < 256) (hb' : ¬ (1000 : Int) < m)
    (n1 : -9223372036854775808 ≤ n) (n2 : n ≤ 9223372036854775807) (u1 : 0 ≤ u) (u2 : u ≤ 18446744073709551615) (gx gk : Int)
    (hr1 : num.res (num.get (fun j => Z.getD j 0) m) = .tuple #[.int .i64 gx, .int .i64 gk, .int .i64 2]) (hr2 : num.res2 (num.get (fun j => Z.getD j 0) m) = .tuple #[.int .i64 gx, .int .i64 gk]) (hk : gk = 0) :
    Calls Try.prog 3 #[.int .i64 n, .int .u64 u, .slice X m c] w fun e w' => e = .returned (.bool true) ∧ Below w.heap.size w w' := by
  have HAT := Lib.hid hat; clear hat
  have HZB := Lib.hid hzb; clear hzb
  have hpl := num.put_len n
  have HPL := Lib.hid hpl; clear hpl
  have hpb := num.put_bd n
  have hpos : 0 < (num.put n).length := by omega
  have HPOS := Lib.hid hpos; clear hpos hpb
  have h63 : m ≤ 9223372036854775807 := by omega
  have HR1 := Lib.hid hr1; clear hr1
  have HR2 := Lib.hid hr2; clear hr2
  subst hk
  go_enter Try.func3, Try.ntmps3
  go_wp2_with fail
  refine (num.get_any X m c (fun j => Z.getD j 0) w h63 HAT.out HZB.out).mono ?_
  rintro e w' ⟨rfl, rfl⟩
  rw [HR1.out]
  go_wp2_with fail
  refine (num.refget_any X m c (fun j => Z.getD j 0) w h63 HAT.out HZB.out).mono ?_
  rintro e w' ⟨rfl, rfl⟩
  rw [HR2.out]
  go_wp2_with fail
  clear HAT HZB HR1 HR2
  go_region_held (fun w' => Below w.heap.size w w')
      (first
        | assumption
        | exact (Below.refl _ _).drew
        | exact Below.next1 (by assumption) (by assumption))
      (first
        | (go_at_call 12; refine (num.put_any n _ n1 n2).mono ?_; rintro e wp ⟨⟨v1, rfl, hown1⟩, hb1⟩; obtain ⟨A1, c1, rfl, -, -, hat1⟩ := own_bytes hown1; clear hown1; have hcv1 := conv_at (c := c1) _ rfl HPOS.out hat1; have HAT1 := Lib.hid hat1; clear hat1)
        | (go_at_call 13; refine (num.refput_any n _ n1 n2).mono ?_; rintro e wp2 ⟨⟨v2, rfl, hown2⟩, hb2⟩; obtain ⟨A2, c2, rfl, -, -, hat2⟩ := own_bytes hown2; clear hown2; try (have hcv2 := conv_at (c := c2) _ rfl HPOS.out hat2; have hcv3 := conv_at (c := c1) _ rfl HPOS.out (HAT1.out.below hb2 (Nat.le_refl _)); clear HAT1); clear hat2)
        | (go_at_call 14; refine (num.zig_any n _ n1 n2).mono ?_; rintro e w' ⟨rfl, rfl⟩)
        | (go_at_call 15; refine (num.refzig_any n _ n1 n2).mono ?_; rintro e w' ⟨rfl, rfl⟩)
        | (go_at_call 16; refine (num.zag_any u _ u1 u2).mono ?_; rintro e w' ⟨rfl, rfl⟩)
        | (go_at_call 17; refine (num.refzag_any u _ u1 u2).mono ?_; rintro e w' ⟨rfl, rfl⟩)
        | (go_at_call 18; refine (num.size_any n _ n1 n2).mono ?_; rintro e w' ⟨rfl, rfl⟩; rw [← HPL.out])
        | (go_at_call 9; refine (num.awake_any _).mono ?_; rintro e w' ⟨rfl, hb⟩))
  all_goals
    go_wp2
    go_ret
    exact ⟨rfl, by assumption⟩
end Go.Proofs.Ytfblfgnnnbcplaa

/- The walk of the law NumBack: it answers true, whatever the input. -/
import Derived.Test.YtfkfamifgockgaaNumP
import Derived.Test.YtfkfamifgockgaaNumW
import Derived.Test.YtfkfamifgockgaaApp
import Derived.Test.YtfkfamifgockgaaAlike
namespace Go.Proofs.Ytfkfamifgockgaa
open Go.RowKit

set_option maxRecDepth 20000 in
set_option maxHeartbeats 1000000 in
theorem num.lawBack (n : Int) (X : Option Addr) (m c : Nat) (z : List Int) (cut : Int) (w : World) (hz : z.length = m ∧ m ≤ c ∧ c ≤ maxLen) (hat : At w X m (fun j => .int .u8 (z.getD j 0))) (hwf : ∀ x ∈ z, (Lit.int .u8 x).wf = true)
    (hn : -9223372036854775808 ≤ n ∧ n ≤ 9223372036854775807) (hcut : -9223372036854775808 ≤ cut ∧ cut ≤ 9223372036854775807) :
    Calls Try.prog 4 #[.int .i64 n, .slice X m c, .int .i64 cut] w fun e w' => e = .returned (.bool true) ∧ Below w.heap.size w w' := by
  obtain ⟨hz, hmc, hcm⟩ := hz
  unfold maxLen at hcm
  obtain ⟨n1, n2⟩ := hn
  by_cases hbig : 500 < m
  · have hb' : (500 : Int) < m := by omega
    go_enter Try.func4, Try.ntmps4
    go_wp2_with (go_at_call 9; refine (num.awake_any _).mono ?_; rintro e w' ⟨rfl, hb⟩)
    go_ret
    exact ⟨rfl, hb⟩
  · obtain ⟨i0, hi, hz0, hz1, hz2⟩ := info_parts infoByte
    have hb' : ¬ (500 : Int) < m := by omega
    obtain ⟨hatz, hzb⟩ := ints_bytes hat hz hwf
    clear hat hwf
    obtain ⟨Z, hZ⟩ : ∃ Z, Z = z.map Int.toNat := ⟨_, rfl⟩
    rw [← hZ] at hatz hzb
    have hzl : Z.length = m := by rw [hZ, List.length_map, hz]
    clear hZ hz z
    have HAT := Lib.hid hatz; clear hatz
    have HZB := Lib.hid hzb; clear hzb
    have HZL := Lib.hid hzl; clear hzl
    have hpb := num.put_bd n
    go_enter Try.func4, Try.ntmps4
    go_wp2_with fail
    refine (num.put_any n w n1 n2).mono ?_
    rintro e w1 ⟨⟨v, rfl, hown⟩, hb1⟩
    obtain ⟨L, hL⟩ : ∃ L, L = num.put n := ⟨_, rfl⟩
    rw [← hL] at hown hpb
    have HL := Lib.hid hL; clear hL
    obtain ⟨A, cp, rfl, hcp, _, hat1⟩ := own_bytes hown
    have HOWN := Lib.hid hown; clear hown
    have HB1 := Lib.hid hb1; clear hb1
    have HAT1 := Lib.hid hat1; clear hat1
    have hl0 : ((L.length : Int) == 0) = false := beq_eq_false_iff_ne.2 (by omega)
    obtain ⟨b, off, rfl, hbb, hc⟩ := HAT1.out (by omega)
    clear hc
    have hw1 : w.heap.size ≤ w1.heap.size := HB1.out.size
    go_wp2_with (at_builtin; refine wpList_app _ rfl (.tmp 28) (.tmp 29) 23 rfl w1.heap.size 5 i0 _ 1 1 Try.underlying23 hi hz0 hz1 hz2 rfl (by decide) _ _ _ rfl (World.ownsRow_lit w1 #[] 0 (Nat.le_refl _) (by unfold maxLen; omega) rfl) (some ⟨b, off, none⟩) L.length cp (byteAt L) rfl ((Nat.mul_one L.length).symm ▸ HAT1.out.alloc _) (fun _ _ => rfl) (by unfold maxLen; omega) (by omega) (by simp) ?_)
    intro v2 w2 hown2 hg2
    rw [byteAt_c _ rfl] at hown2
    have hb2 : Below w1.heap.size w1 w2 := ((Below.refl _ _).alloc (Nat.le_refl _) _).grown hg2 (by simp) (fun k hk => by simp [Value.ownBlock] at hk; omega)
    have hbz2 : Below w.heap.size w w2 := HB1.out.trans (hb2.mono hw1)
    obtain ⟨g2, cp2, rfl, _, hg21, hg22⟩ := own_form hown2 (by omega)
    have hw2 : w1.heap.size ≤ w2.heap.size := hb2.size
    have HOWN2 := Lib.hid hown2; clear hown2
    have HB2 := Lib.hid hb2; clear hb2
    have HBZ2 := Lib.hid hbz2; clear hbz2
    clear hg2
    go_wp2_with (at_builtin; refine wpList_app _ rfl (.tmp 30) (.tmp 31) 23 rfl w1.heap.size 5 i0 _ 1 1 Try.underlying23 hi hz0 hz1 hz2 rfl (by decide) _ _ _ rfl HOWN2.out X m c (byteAt Z) rfl ((Nat.mul_one m).symm ▸ HAT.out.below HBZ2.out (Nat.le_refl _)) (fun _ _ => rfl) (by unfold maxLen; omega) (by omega) hw2 ?_)
    intro v3 w3 hown3 hg3
    rw [byteAt_c m HZL.out, ← u8s_append] at hown3
    have hb3 : Below w1.heap.size w2 w3 := (Below.refl _ _).grown hg3 hw2 (fun k hk => by simp [Value.ownBlock] at hk; omega)
    have hb13 : Below w1.heap.size w1 w3 := HB2.out.trans hb3
    obtain ⟨A3, cp3, rfl, _, hl3, hat3⟩ := own_bytes hown3
    clear hown3 hg3 hb3
    have HB13 := Lib.hid hb13; clear hb13
    go_wp2_with fail
    refine (num.get_any A3 _ cp3 (fun j => (L ++ Z).getD j 0) w3 (by omega) hat3 (fun j hj => ?_)).mono ?_
    · exact getD_all (p := (· < 256)) (L := L ++ Z) (fun x hx => by
        rcases List.mem_append.1 hx with h | h
        · rw [HL.out] at h; exact num.put_byte n n1 n2 x h
        · obtain ⟨q, hq, rfl⟩ := List.mem_iff_getElem.1 h
          have := HZB.out q (by rw [← HZL.out]; exact hq)
          simpa [List.getD, List.getElem?_eq_getElem hq] using this) j (by omega)
    rintro e w' ⟨rfl, rfl⟩
    have hr := num.getL_put n Z n1 n2 (L.length + m) (by rw [← HL.out]; omega)
    rw [← HL.out] at hr
    rw [hr]
    clear hr hat3 hl3
    go_wp2_with fail
    refine (round_any cut L.length w3 hcut (by omega) (by omega)).mono ?_
    rintro e w' ⟨⟨r, rfl, hr⟩, rfl⟩
    have hr' : r < L.length := by omega
    have hr2 : r ≤ cp := by omega
    have hLb : ∀ x ∈ L, x < 256 := by rw [HL.out]; exact num.put_byte n n1 n2
    have HLB := Lib.hid hLb; clear hLb
    have hw3 : w1.heap.size ≤ w3.heap.size := HB13.out.size
    go_wp2_with fail
    refine (num.get_any _ r cp (fun j => L.getD j 0) w3 (by omega) ((HAT1.out.below HB13.out (Nat.le_refl _)).le (by omega)) (fun j hj => getD_all (p := (· < 256)) HLB.out j (by omega))).mono ?_
    rintro e w' ⟨rfl, rfl⟩
    have hcutn : num.get (fun j => L.getD j 0) r = none := num.get_cut n _ r (fun j _ => by rw [HL.out]) (by rw [← HL.out]; exact hr')
    rw [hcutn]
    clear hcutn
    have hres : num.res none = .tuple #[.int .i64 0, .int .i64 0, .int .i64 2] := rfl
    rw [hres]
    clear hres
    go_wp2_with (at_builtin; refine wpList_app _ rfl (.tmp 48) (.tmp 49) 23 rfl w3.heap.size 5 i0 _ 1 1 Try.underlying23 hi hz0 hz1 hz2 rfl (by decide) _ _ _ rfl (World.ownsRow_lit w3 #[] 0 (Nat.le_refl _) (by unfold maxLen; omega) rfl) (some ⟨b, off, none⟩) L.length cp (byteAt L) rfl ((Nat.mul_one L.length).symm ▸ (HAT1.out.below HB13.out (Nat.le_refl _)).alloc _) (fun _ _ => rfl) (by unfold maxLen; omega) (by omega) (by simp) ?_)
    intro v4 w4 hown4 hg4
    rw [byteAt_c _ rfl] at hown4
    have hb4 : Below w3.heap.size w3 w4 := ((Below.refl _ _).alloc (Nat.le_refl _) _).grown hg4 (by simp) (fun k hk => by simp [Value.ownBlock] at hk; omega)
    obtain ⟨g4, cp4, rfl, hcp4, hg41, hg42⟩ := own_form hown4 (by omega)
    have hw4 : w3.heap.size ≤ w4.heap.size := hb4.size
    obtain ⟨x, hx⟩ : ∃ x, x = L.getD (L.length - 1) 0 := ⟨_, rfl⟩
    have hcell : w4.cell? ⟨g4, L.length - 1, none⟩ = some (.int .u8 (x : Int)) := by
      rw [hown4.cellAt (L.length - 1) (by omega)]
      have := u8s_getD L (L.length - 1) (by omega)
      rw [← hx] at this
      rw [← this]
      simp [List.getD, List.getElem?_eq_getElem (show L.length - 1 < (u8s L).length by rw [u8s_len]; omega)]
    have hfr := hown4.frozenAt (L.length - 1)
    have hxb : x < 256 := by rw [hx]; exact getD_all (p := (· < 256)) HLB.out _ (by omega)
    have hor : bits .or .u8 (x : Int) 128 = (x : Int) % 128 + 128 := by rw [num.or128 x hxb]; omega
    have hst := (hown4.stored (L.length - 1) (.int .u8 ((x : Int) % 128 + 128))).1
    rw [hx, num.mark_u8s, ← hx] at hst
    have hbs : Below w3.heap.size w3 (w4.setCell ⟨g4, L.length - 1, none⟩ (.int .u8 ((x : Int) % 128 + 128))) := hb4.setCell hg41 _
    have HST := Lib.hid hst; clear hst
    have HBS := Lib.hid hbs; clear hbs
    have HX := Lib.hid hx; clear hx
    clear hown4 hg4 hb4
    go_wp2_with (at_builtin; refine wpList_app _ rfl (.tmp 64) (.tmp 65) 23 rfl w3.heap.size 5 i0 _ 1 1 Try.underlying23 hi hz0 hz1 hz2 rfl (by decide) _ _ _ rfl (HST.out.alloc _) (some ⟨w4.heap.size, 0, none⟩) 1 1 (fun _ => .int .u8 0) rfl (by have := At.one (w4.setCell ⟨g4, L.length - 1, none⟩ (.int .u8 ((x : Int) % 128 + 128))) (.int .u8 0) 5; simpa using this) (fun _ _ => rfl) (by unfold maxLen; omega) (by omega) (by simp; omega) ?_)
    intro v5 w5 hown5 hg5
    have e0 : cellsOf 1 (fun _ => Value.int .u8 0) = u8s [0] := rfl
    rw [e0, ← u8s_append] at hown5
    have hb5 : Below w3.heap.size w3 w5 := (HBS.out.alloc (by simp; omega) _).grown hg5 (by simp; omega) (fun k hk => by simp [Value.ownBlock] at hk; omega)
    obtain ⟨A5, cp5, rfl, _, hl5, hat5⟩ := own_bytes hown5
    have HB5 := Lib.hid hb5; clear hb5
    clear hown5 hg5 e0
    go_wp2_with fail
    refine (num.get_any A5 _ cp5 (fun j => (num.mark L ++ [0]).getD j 0) w5 (by omega) hat5 (fun j hj => ?_)).mono ?_
    · exact getD_all (p := (· < 256)) (L := num.mark L ++ [0]) (fun x hx => by
        rcases List.mem_append.1 hx with h | h
        · exact num.mark_byte L HLB.out x h
        · simp at h; omega) j (by omega)
    rintro e w' ⟨rfl, rfl⟩
    have hlong : num.get (fun j => (num.mark L ++ [0]).getD j 0) (L.length + 1) = none := by
      have := num.getL_long n n1 n2 (L.length + 1) (by rw [HL.out])
      rw [← HL.out] at this; exact this
    rw [hlong]
    have hres : num.res none = .tuple #[.int .i64 0, .int .i64 0, .int .i64 2] := rfl
    rw [hres]
    clear hres hlong hat5 hl5 hcell hfr hor
    have hz := num.zig_bd n n1 n2
    have hzz : num.zag (num.zig n) = n := num.zag_zig n
    have HZZ := Lib.hid hzz; clear hzz
    have hsz : num.wid (num.zig n).toNat = L.length := by rw [HL.out, num.put_len]
    have HSZ := Lib.hid hsz; clear hsz
    go_wp2_with fail
    refine (num.zig_any n w5 n1 n2).mono ?_
    rintro e w' ⟨rfl, rfl⟩
    go_wp2_with fail
    refine (num.zag_any _ w5 hz.1 hz.2).mono ?_
    rintro e w' ⟨rfl, rfl⟩
    rw [HZZ.out]
    go_wp2_with fail
    refine (num.size_any n w5 n1 n2).mono ?_
    rintro e w' ⟨rfl, rfl⟩
    rw [HSZ.out]
    go_wp2_with fail
    refine (num.awake_any w5).mono ?_
    rintro e w6 ⟨rfl, hb6⟩
    go_wp2
    go_ret
    exact ⟨rfl, HB1.out.trans ((HB13.out.mono hw1).trans ((HB5.out.mono (by omega)).trans (hb6.mono (by have := HB5.out.size; omega))))⟩
end Go.Proofs.Ytfkfamifgockgaa

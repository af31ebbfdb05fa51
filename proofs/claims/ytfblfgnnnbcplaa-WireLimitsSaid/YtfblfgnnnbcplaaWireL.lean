/- The walk of the law WireLimits: it answers true, whatever the input. -/
import Derived.Test.YtfblfgnnnbcplaaWireW
import Derived.Test.YtfblfgnnnbcplaaRdL
import Derived.Test.YtfblfgnnnbcplaaAlike
import Derived.OwnWalk
namespace Go.Proofs.Ytfblfgnnnbcplaa
open Go.RowKit

theorem made_zero (n : Nat) : (madeCells (Value.int .u8 0).cells (n * 1)).toList = u8s (List.replicate n 0) := by
  apply List.ext_getElem
  · simp [u8s, size_madeCells]
  · intro i h1 h2
    simp only [u8s, madeCells]
    simp
    show (#[Value.int .u8 0])[i % 1]! = _
    rw [Nat.mod_one]
    rfl

theorem rd.n7 : rd.num (num.put 7) 0 = (7, [], 0) := by decide
theorem strOf_nil : strOf [] = { data := #[] } := rfl
set_option maxRecDepth 20000 in
set_option maxHeartbeats 2000000 in
theorem wire.lawLimitsT (n : Nat) (most cut : Int) (w : World) (hn : n ≤ 500) (hm0 : 0 ≤ most) (hm : most ≤ 600) (hcut : -9223372036854775808 ≤ cut ∧ cut ≤ 9223372036854775807) :
    Calls Try.prog 8 #[.int .i64 n, .int .i64 most, .int .i64 cut] w fun e w' => e = .returned (.bool true) ∧ Below w.heap.size w w' := by
  obtain ⟨i0, hi, hz0, hz1, hz2⟩ := info_parts infoByte
  have t1 : ¬ (n : Int) < 0 := by omega
  have t2 : ¬ (500 : Int) < n := by omega
  have t3 : ¬ most < 0 := by omega
  have t4 : ¬ 600 < most := by omega
  go_enter Try.func8, Try.ntmps8
  go_wp2_with (at_make; refine wpList_make_full _ rfl _ _ 23 rfl (w.heap.size + 1) 5 i0 _ 1 Try.underlying23 hi hz0 hz1 .i64 .i64 _ _ n rfl rfl rfl rfl (by rw [hz2]; omega) (by unfold maxLen; omega) (by simp) ?_; intro w1 hown1 hg1)
  rw [made_zero, World.size_alloc] at hown1
  have hw0 : Wr w1 w.heap.size w.heap.size (.slice none 0 0) [] false := (Wr.new w).chg (Chg.grown hg1) (fun h => by cases h) (fun _ _ h => by cases h)
  obtain ⟨A0, c0, hv0, _, _, hat0⟩ := own_bytes hown1
  cases hv0
  have hb0 : Below w.heap.size w w1 := ((Below.refl _ w).alloc (Nat.le_refl _) _).grown hg1 (by simp) (fun k hk => by cases hk)
  have HB0 := Lib.hid hb0; clear hb0 hg1 hown1
  refine (wire.bytes_any w.heap.size w.heap.size _ [] false _ n n (List.replicate n 0) w1 hw0 (by simp; omega) (by simp) hat0 (fun _ _ _ _ h => by cases h)).mono ?_
  rintro e w2 ⟨rfl, v2, hw2, hc2, hl2⟩
  have HB2 := Lib.hid (HB0.out.trans (hw0.below hc2))
  have HW2 := Lib.hid hw2; clear hw2 hw0 hc2 hl2 HB0 hat0
  go_wp2_with fail
  have hpb := num.put_bd (n : Int)
  refine (wire.num_any w.heap.size w.heap.size v2 _ false 7 w2 HW2.out (by simp; omega) (by omega) (by omega)).mono ?_
  rintro e w3 ⟨rfl, v3, hw3, hc3, hl3⟩
  have HB3 := Lib.hid (HB2.out.trans (HW2.out.below hc3))
  have HW3 := Lib.hid hw3; clear hw3 hc3 hl3 HB2 HW2
  obtain ⟨L, hL⟩ : ∃ L, L = [] ++ num.put n ++ List.replicate n 0 ++ num.put 7 := ⟨_, rfl⟩
  rw [← hL] at HW3
  have hlen : L.length = (num.put n).length + n + 1 := by rw [hL]; simp only [List.nil_append, List.length_append, List.length_replicate, show (num.put 7).length = 1 by decide]
  have hl2' : L.length ≤ 1000 := by omega
  have HLEN := Lib.hid hlen; clear hlen
  have hL2 : L = num.put n ++ (List.replicate n 0 ++ num.put 7) := by rw [hL]; simp
  have HL := Lib.hid hL2; clear hL2 hL
  go_wp2_with fail
  refine (wire.done_any w.heap.size w.heap.size v3 L w3 HW3.out (by omega)).mono ?_
  rintro e w4 ⟨⟨u, rfl, hown⟩, hb4⟩
  obtain ⟨A, c, rfl, hlc, -, hat⟩ := own_bytes hown
  have hcm := own_cap hown
  have HB4 := Lib.hid (HB3.out.trans (hb4.mono HB3.out.size))
  have HAT := Lib.hid hat; clear hat hb4 hown HB3 HW3
  have hbyte : ∀ x ∈ L, x < 256 := by
    rw [HL.out]
    intro x hx
    rcases List.mem_append.1 hx with h | h
    · exact num.put_byte n (by omega) (by omega) x h
    · rcases List.mem_append.1 h with h | h
      · rw [List.mem_replicate] at h; omega
      · exact num.put_byte 7 (by omega) (by omega) x h
  have HBYTE := Lib.hid hbyte; clear hbyte
  have hc0 : c ≠ 0 := by have := HLEN.out; omega
  go_wp2_with fail
  refine (wire.new_any A c L w4 HAT.out (by omega) HBYTE.out).mono ?_
  rintro e w5 ⟨r, rfl, hr5, hrw, hb5⟩
  have HAT5 := Lib.hid (HAT.out.below hb5 (Nat.le_refl _))
  have HB5 := Lib.hid (HB4.out.trans (hb5.mono HB4.out.size))
  have hrr : w.heap.size ≤ r := by have := HB4.out.size; omega
  have HR5 := Lib.hid hr5; clear hr5 hb5 HB4 HAT hrw
  go_wp2_with fail
  refine (round_any cut (n + 1) w5 hcut (by omega) (by omega)).mono ?_
  rintro e w' ⟨⟨q, rfl, hq⟩, rfl⟩
  have hqL : q ≤ L.length := by have := HLEN.out; omega
  have hqc : q ≤ c := by omega
  go_wp2_with fail
  have hlq : (L.take q).length = q := by rw [List.length_take]; omega
  have HLQ := Lib.hid hlq; clear hlq
  refine (wire.new_at A q c (L.take q) w5 HLQ.out (HAT5.out.byte_le q hqL) (by omega) (fun x hx => HBYTE.out x (List.mem_of_mem_take hx))).mono ?_
  rintro e w6 ⟨s, rfl, hs6, hsw, hb6⟩
  have hsr : s ≠ r := by obtain ⟨A', c', h⟩ := HR5.out; have := h.blk.lt; omega
  have hss : w.heap.size ≤ s := by have := HB5.out.size; omega
  have HR6 := Lib.hid (HR5.out.keep hb6)
  have HB6 := Lib.hid (HB5.out.trans (hb6.mono HB5.out.size))
  have HS6 := Lib.hid hs6; clear hs6 hb6 HB5 HR5 hsw HAT5
  have hcutp : rd.piece (L.take q) 0 600 = ([], [], 2) := by rw [HL.out]; exact rd.piece_cut n _ 600 (by omega) q (by omega)
  have HCUT := Lib.hid hcutp; clear hcutp
  obtain ⟨A6, c6, hr6⟩ := HR6.out
  have HRR := Lib.hid hr6; clear hr6
  have hsz : (List.replicate n 0).length = n := List.length_replicate
  by_cases hbig : most < n
  · have hp : rd.piece L 0 most = ([], [], 3) := by
      have h := rd.piece_big (List.replicate n 0) (num.put 7) most (by omega) (by omega)
      rw [hsz] at h
      rw [HL.out]; exact h
    have HP := Lib.hid hp; clear hp hsz
    go_wp2_with fail
    have h7 := wire.rbytes_any r A6 c6 L 0 most w6 HRR.out (by omega)
    rw [HP.out] at h7
    refine h7.mono ?_
    clear h7
    rintro e w7 ⟨⟨v7, rfl, hown7⟩, hr7, hch7⟩
    obtain ⟨A7, c7, rfl, _, _⟩ := own_at hown7
    have HB7 := Lib.hid (HB6.out.trans (hch7.below (B := w.heap.size) HB6.out.size fun k hk => by cases hk; exact hrr))
    have HS7 := Lib.hid (RdIs.other HR6.out HS6.out hch7 hsr)
    obtain ⟨A7', c7', hr7⟩ := hr7
    have HR7 := Lib.hid hr7; clear hr7 hch7 hown7 HB6 HS6
    go_wp2_with fail
    refine (wire.err_any r A7' c7' [] 3 w7 HR7.out).mono ?_
    rintro e w' ⟨rfl, rfl⟩
    go_wp2_with fail
    have h8 := wire.rnum_any r A7' c7' [] 3 w7 HR7.out
    rw [rd.num_err (by omega)] at h8
    refine h8.mono ?_
    clear h8
    rintro e w8 ⟨rfl, ⟨A8, c8, hr8⟩, hch8⟩
    have HB8 := Lib.hid (HB7.out.trans (hch8.below (B := w.heap.size) HB7.out.size fun k hk => by cases hk; exact hrr))
    have HS8 := Lib.hid (RdIs.other ⟨A7', c7', HR7.out⟩ HS7.out hch8 hsr)
    have HR8 := Lib.hid hr8; clear hr8 hch8 HB7 HS7
    go_wp2_with fail
    refine (wire.left_any r A8 c8 [] 3 w8 HR8.out).mono ?_
    rintro e w' ⟨rfl, rfl⟩
    obtain ⟨As, cs, hs8⟩ := HS8.out
    have HSS := Lib.hid hs8; clear hs8
    go_wp2_with fail
    have h9 := wire.rtext_any s As cs (L.take q) 0 600 w8 HSS.out
    rw [HCUT.out] at h9
    refine h9.mono ?_
    clear h9
    rintro e w9 ⟨rfl, ⟨A9, c9, hs9⟩, hch9⟩
    have HB9 := Lib.hid (HB8.out.trans (hch9.below (B := w.heap.size) HB8.out.size fun k hk => by cases hk; exact hss))
    have HS9 := Lib.hid hs9; clear hs9 hch9
    rw [strOf_nil]
    go_wp2_with fail
    refine (wire.err_any s A9 c9 [] 2 w9 HS9.out).mono ?_
    rintro e w' ⟨rfl, rfl⟩
    go_wp2_with fail
    refine (wire.awake_any w9).mono ?_
    rintro e w10 ⟨rfl, hb10⟩
    have HB10 := Lib.hid (HB9.out.trans (hb10.mono HB9.out.size)); clear hb10
    go_wp2
    go_ret
    exact ⟨rfl, HB10.out⟩
  · have hp : rd.piece L 0 most = (List.replicate n 0, num.put 7, 0) := by
      have h := rd.piece_put (List.replicate n 0) (num.put 7) most (by omega) (by omega)
      rw [hsz] at h
      rw [HL.out]; exact h
    have HP := Lib.hid hp; clear hp
    go_wp2_with fail
    have h7 := wire.rbytes_any r A6 c6 L 0 most w6 HRR.out (by omega)
    rw [HP.out] at h7
    refine h7.mono ?_
    clear h7
    rintro e w7 ⟨⟨v7, rfl, hown7⟩, hr7, hch7⟩
    rw [hsz] at hown7
    obtain ⟨A7, c7, rfl, _, _⟩ := own_at hown7
    have HB7 := Lib.hid (HB6.out.trans (hch7.below (B := w.heap.size) HB6.out.size fun k hk => by cases hk; exact hrr))
    have HS7 := Lib.hid (RdIs.other HR6.out HS6.out hch7 hsr)
    obtain ⟨A7', c7', hr7⟩ := hr7
    have HR7 := Lib.hid hr7; clear hr7 hch7 hown7 HB6 HS6 hsz
    go_wp2_with fail
    have h8 := wire.rnum_any r A7' c7' (num.put 7) 0 w7 HR7.out
    rw [rd.n7] at h8
    refine h8.mono ?_
    clear h8
    rintro e w8 ⟨rfl, ⟨A8, c8, hr8⟩, hch8⟩
    have HB8 := Lib.hid (HB7.out.trans (hch8.below (B := w.heap.size) HB7.out.size fun k hk => by cases hk; exact hrr))
    have HS8 := Lib.hid (RdIs.other ⟨A7', c7', HR7.out⟩ HS7.out hch8 hsr)
    have HR8 := Lib.hid hr8; clear hr8 hch8 HB7 HS7
    go_wp2_with fail
    refine (wire.err_any r A8 c8 [] 0 w8 HR8.out).mono ?_
    rintro e w' ⟨rfl, rfl⟩
    obtain ⟨As, cs, hs8⟩ := HS8.out
    have HSS := Lib.hid hs8; clear hs8
    go_wp2_with fail
    have h9 := wire.rtext_any s As cs (L.take q) 0 600 w8 HSS.out
    rw [HCUT.out] at h9
    refine h9.mono ?_
    clear h9
    rintro e w9 ⟨rfl, ⟨A9, c9, hs9⟩, hch9⟩
    have HB9 := Lib.hid (HB8.out.trans (hch9.below (B := w.heap.size) HB8.out.size fun k hk => by cases hk; exact hss))
    have HS9 := Lib.hid hs9; clear hs9 hch9
    rw [strOf_nil]
    go_wp2_with fail
    refine (wire.err_any s A9 c9 [] 2 w9 HS9.out).mono ?_
    rintro e w' ⟨rfl, rfl⟩
    go_wp2_with fail
    refine (wire.awake_any w9).mono ?_
    rintro e w10 ⟨rfl, hb10⟩
    have HB10 := Lib.hid (HB9.out.trans (hb10.mono HB9.out.size)); clear hb10
    go_wp2
    go_ret
    exact ⟨rfl, HB10.out⟩

set_option maxRecDepth 20000 in
set_option maxHeartbeats 800000 in
theorem wire.lawLimits (n most cut : Int) (w : World) (hn : -9223372036854775808 ≤ n ∧ n ≤ 9223372036854775807) (hm : -9223372036854775808 ≤ most ∧ most ≤ 9223372036854775807) (hcut : -9223372036854775808 ≤ cut ∧ cut ≤ 9223372036854775807) :
    Calls Try.prog 8 #[.int .i64 n, .int .i64 most, .int .i64 cut] w fun e w' => e = .returned (.bool true) ∧ Below w.heap.size w w' := by
  by_cases hin : 0 ≤ n ∧ n ≤ 500 ∧ 0 ≤ most ∧ most ≤ 600
  · obtain ⟨i1, i2, i3, i4⟩ := hin
    obtain ⟨k, rfl⟩ := Int.eq_ofNat_of_zero_le i1
    exact wire.lawLimitsT k most cut w (by omega) i3 i4 hcut
  · have hcase : n < 0 ∨ (¬ n < 0 ∧ 500 < n) ∨ (¬ n < 0 ∧ ¬ 500 < n ∧ most < 0) ∨ (¬ n < 0 ∧ ¬ 500 < n ∧ ¬ most < 0 ∧ 600 < most) := by omega
    clear hin hn hm hcut
    rcases hcase with t1 | ⟨t1, t2⟩ | ⟨t1, t2, t3⟩ | ⟨t1, t2, t3, t4⟩
    all_goals
      go_enter Try.func8, Try.ntmps8
      go_wp2_with fail
      refine (wire.awake_any w).mono ?_
      rintro e w' ⟨rfl, hb⟩
      have HB := Lib.hid hb; clear hb
      go_wp2
      go_ret
      exact ⟨rfl, HB.out⟩
end Go.Proofs.Ytfblfgnnnbcplaa

/- The walk of the law WireBack: it answers true, whatever the input. -/
import Derived.Test.YtfblfgnnnbcplaaWireN
namespace Go.Proofs.Ytfblfgnnnbcplaa
open Go.RowKit

theorem Items.bound {w : World} {A : Option Addr} {xs : List Item} (h : Items w A xs) : ∀ x ∈ xs, i64R x.n := by
  intro x hx
  obtain ⟨V, _, h2⟩ := h
  obtain ⟨i, hi, rfl⟩ := List.mem_iff_getElem.1 hx
  exact (h2 i _ (List.getElem?_eq_getElem hi)).2.2.1
theorem wire.be_byte (n : Nat) : ∀ k, ∀ d ∈ wire.be n k, d < 256
  | 0, d, h => by simp [wire.be] at h
  | k + 1, d, h => by
    simp only [wire.be, List.mem_cons] at h
    rcases h with rfl | h
    · omega
    · exact wire.be_byte n k d h
theorem itemBytes_byte (x : Item) (h : i64R x.n) (hs : x.s.size ≤ 70368744177664) : ∀ d ∈ itemBytes x, d < 256 := by
  intro d hd
  unfold itemBytes at hd
  split at hd
  · exact wire.be_byte _ _ d hd
  split at hd
  · exact num.put_byte _ h.1 h.2 d hd
  split at hd
  · rcases List.mem_append.1 hd with h1 | h1
    · exact num.put_byte _ (by omega) (by omega) d h1
    · exact strNats_lt _ d h1
  · cases hd
theorem total_mem (xs : List Item) (x : Item) (h : x ∈ xs) : x.s.size ≤ total xs := by
  induction xs with
  | nil => cases h
  | cons y xs ih =>
    have e : total (y :: xs) = (y.s.size + 10) + total xs := by simp [total]
    rcases List.mem_cons.1 h with rfl | h
    · omega
    · have := ih h; omega
theorem leftOf_byte (xs : List Item) (hb : ∀ x ∈ xs, i64R x.n) (ht : total xs ≤ 1000) (k : Nat) : ∀ d ∈ leftOf xs k, d < 256 := by
  intro d hd
  simp only [leftOf, List.mem_flatten, List.mem_map] at hd
  obtain ⟨_, ⟨x, hx, rfl⟩, hd⟩ := hd
  have hm := List.mem_of_mem_drop hx
  exact itemBytes_byte x (hb x hm) (by have := total_mem xs x hm; omega) d hd
theorem leftOf_len (xs : List Item) (k : Nat) : (leftOf xs k).length ≤ (leftOf xs 0).length := by
  have e : leftOf xs 0 = ((xs.take k).map itemBytes).flatten ++ leftOf xs k := by
    unfold leftOf
    rw [List.drop_zero, ← List.flatten_append, ← List.map_append, List.take_append_drop]
  rw [e, List.length_append]
  omega
theorem back_rd {wr : World} {r : Nat} {A : Option Addr} {c : Nat} {L : List Nat} {e : Int} (h : Rd wr r A c L e) (o : Obj) : RdIs (wr.alloc o).drew r L e := by
  obtain ⟨A', c', h'⟩ : RdIs (wr.alloc o) r L e := RdIs.keep ⟨A, c, h⟩ ((Below.refl _ _).alloc (Nat.le_refl _) _)
  exact ⟨A', c', h'.blk, h'.lie, h'.len, h'.cap, h'.byte⟩
theorem back_step {w wr : World} {r : Nat} {A : Option Addr} {c : Nat} {L : List Nat} {e : Int} (h : Rd wr r A c L e) (hb : Below w.heap.size w wr) (hr : w.heap.size ≤ r) {T : TypeId} (cs : Array Value) (w3 : World)
    (hch : Chg (wr.alloc (.cells cs T)).drew w3 (rdT r)) : Blk w3 wr.heap.size T cs ∧ Below w.heap.size w w3 := by
  have h1 : Chg wr w3 (rdT r) := (Chg.alloc wr (.cells cs T) (rdT r)).drew.trans hch fun _ _ h => h
  refine ⟨hch.blk ((Blk.new wr T cs).drew 1) fun hh => ?_, hb.trans (h1.below hb.size fun k hk => by cases hk; exact hr)⟩
  have := h.blk.lt
  unfold rdT at hh
  omega

set_option maxRecDepth 20000 in
set_option maxHeartbeats 4000000 in
theorem wire.lawBackT (A : Option Addr) (n c : Nat) (xs : List Item) (w : World) (hl : xs.length = n) (hit : Items w A xs) (hcm : n ≤ maxLen) :
    Calls Try.prog 7 #[.slice A n c] w fun e w' => e = .returned (.bool true) ∧ Below w.heap.size w w' := by
  have HIT := Lib.hid hit; clear hit
  have HL := Lib.hid hl; clear hl
  go_enter Try.func7, Try.ntmps7
  go_wp2_with fail
  refine (wire.small_any A n c xs w HL.out hcm HIT.out).mono ?_
  rintro e w1 ⟨⟨sm, rfl, htot⟩, hb1⟩
  have HIT1 := Lib.hid (HIT.out.below hb1 (Nat.le_refl _))
  have HB1 := Lib.hid hb1; clear hb1
  cases sm
  · clear htot
    go_wp2_with fail
    refine (wire.awake_any w1).mono ?_
    rintro e w2 ⟨rfl, hb2⟩
    have HB2 := Lib.hid (HB1.out.trans (hb2.mono HB1.out.size)); clear hb2
    go_wp2
    go_ret
    exact ⟨rfl, HB2.out⟩
  · have htot' : total xs ≤ 1000 := htot rfl
    have hlen := total_len xs
    have hn : n ≤ 100 := by have := HL.out; omega
    clear htot
    go_wp2_with fail
    refine (wire.written_any A n c xs w1 HL.out HIT1.out htot').mono ?_
    rintro e w2 ⟨⟨v1, rfl, hbad1, hok1⟩, hb2⟩
    have HIT2 := Lib.hid (HIT1.out.below hb2 (Nat.le_refl _))
    have HB2 := Lib.hid (HB1.out.trans (hb2.mono HB1.out.size)); clear hb2
    cases hq : (wrAll xs).2
    · have hown := hok1 hq
      have hleft := wrAll_left xs hq
      have hlL := wrAll_len xs
      rw [hleft] at hown hlL
      obtain ⟨A1, c1, rfl, hc1, -, hat1⟩ := own_bytes hown
      have HAT1 := Lib.hid hat1
      have HQ := Lib.hid hq
      have hbyte : ∀ x ∈ leftOf xs 0, x < 256 := leftOf_byte xs HIT.out.bound htot' 0
      have HBYTE := Lib.hid hbyte
      clear hown hok1 hbad1 hat1 hq hleft hbyte
      obtain ⟨m, hm⟩ : ∃ m, m = (leftOf xs 0).length := ⟨_, rfl⟩
      rw [← hm] at HAT1 hc1 hlL ⊢
      have HM := Lib.hid hm.symm; clear hm
      go_wp2_with fail
      refine (wire.new_at A1 m c1 (leftOf xs 0) w2 HM.out HAT1.out (by omega) HBYTE.out).mono ?_
      rintro e w3 ⟨r, rfl, hr3, hrw, hb3⟩
      have HB3 := Lib.hid (HB2.out.trans (hb3.mono HB2.out.size)); clear hb3
      have hrr : w.heap.size ≤ r := by have := HB2.out.size; omega
      have HR3 := Lib.hid hr3; clear hr3
      have hr2 : w2.heap.size ≤ r := hrw
      go_wp2
      go_loopw [8] (fun i wr => ∃ k : Nat, k ≤ n ∧ i = .int .i64 (k : Int) ∧ RdIs wr r (leftOf xs k) 0 ∧ Below w.heap.size w wr) (fun i _ => n - (intOf i).toNat)
      case atStart => exact ⟨0, by omega, rfl, HR3.out, HB3.out⟩
      case round =>
        obtain ⟨k, hk, rfl, ⟨Ar, cr, hr⟩, hb⟩ := hrel
        have HR := Lib.hid hr; clear hr
        have HB := Lib.hid hb; clear hb
        by_cases hlt : k < n
        · have hlt' : (k : Int) < n := by omega
          obtain ⟨b, off, x, rfl, hbb, hx, c0, c1', c2, c3, r0, r1, r2, hs⟩ := (HIT.out.below HB.out (Nat.le_refl _)).at' k (by rw [HL.out]; exact hlt)
          have HX := Lib.hid hx; clear hx
          have R1 := Lib.hid r1; clear r1 r0 r2
          have hsz : x.s.size ≤ 1000 := by
            have h1 := total_succ xs k x HX.out
            have h2 := total_take xs (k + 1)
            omega
          have hsucc := leftOf_succ xs k x HX.out
          have HSUCC := Lib.hid hsucc; clear hsucc hs
          by_cases k1 : x.kind = 1
          · have hf := wrAll_fit xs k x HX.out HQ.out k1
            obtain ⟨f0, f1, f2⟩ := fit_nat hf
            obtain ⟨a, ha⟩ := Int.eq_ofNat_of_zero_le f0
            obtain ⟨z, hz⟩ := Int.eq_ofNat_of_zero_le (show 0 ≤ x.size by omega)
            have hib : itemBytes x = wire.be a z := by unfold itemBytes; rw [if_pos k1, ha, hz]; rfl
            have hval : rd.fixed (leftOf xs k) 0 z = ((a : Int), leftOf xs (k + 1), 0) := by rw [HSUCC.out, hib]; exact rd.fixed_be a z _ (by rw [← ha, ← hz]; exact hf) (by rw [← ha]; exact R1.out.2)
            rw [k1] at c0
            rw [ha] at c1'
            rw [hz] at c2
            obtain ⟨Ab, cb, hrb⟩ := back_rd HR.out (.cells #[.int .i64 1, .int .i64 (a : Int), .int .i64 (z : Int), .string x.s] 62)
            have hcon := wire.rfixed_any r Ab cb (leftOf xs k) 0 z _ hrb
            rw [hval] at hcon
            have HCON := Lib.hid hcon
            clear hcon hrb hval hib hz ha f0 f1 f2 hf k1
            go_wp2
            go_region_law
              (first
                | (go_simp; go_at_call 31; refine HCON.out.mono ?_; rintro e w4 ⟨rfl, hrd, hch⟩; obtain ⟨hbk, hb4⟩ := back_step HR.out HB.out hrr _ _ hch; have hd1 := hbk.cell 1 (v := .int .i64 (a : Int)) rfl; have HRD := Lib.hid hrd; have HB4 := Lib.hid hb4; clear hrd hch hbk hb4))
            all_goals
              go_wp2
              go_roundw
              case rel => exact ⟨k + 1, by omega, by go_num, HRD.out, HB4.out⟩
              case measure => simp [intOf]; omega
          · have K1 := Lib.hid k1
            have k1' : (x.kind == 1) = false := by simpa using k1
            clear k1
            by_cases k2 : x.kind = 2
            · have hib : itemBytes x = num.put x.n := by unfold itemBytes; rw [if_neg K1.out, if_pos k2]
              have hval : rd.num (leftOf xs k) 0 = (x.n, leftOf xs (k + 1), 0) := by rw [HSUCC.out, hib]; exact rd.num_put x.n _ R1.out.1 R1.out.2
              rw [k2] at c0
              obtain ⟨Ab, cb, hrb⟩ := back_rd HR.out (.cells #[.int .i64 2, .int .i64 x.n, .int .i64 x.size, .string x.s] 62)
              have hcon := wire.rnum_any r Ab cb (leftOf xs k) 0 _ hrb
              rw [hval] at hcon
              have HCON := Lib.hid hcon
              clear hcon hrb hval hib k2 k1'
              go_wp2
              go_region_law
                (first
                  | (go_simp; go_at_call 32; refine HCON.out.mono ?_; rintro e w4 ⟨rfl, hrd, hch⟩; obtain ⟨hbk, hb4⟩ := back_step HR.out HB.out hrr _ _ hch; have hd1 := hbk.cell 1 (v := .int .i64 x.n) rfl; have HRD := Lib.hid hrd; have HB4 := Lib.hid hb4; clear hrd hch hbk hb4))
              all_goals
                go_wp2
                go_roundw
                case rel => exact ⟨k + 1, by omega, by go_num, HRD.out, HB4.out⟩
                case measure => simp [intOf]; omega
            · have K2 := Lib.hid k2
              have k2' : (x.kind == 2) = false := by simpa using k2
              clear k2
              by_cases k34 : x.kind = 3 ∨ x.kind = 4
              · have hib : itemBytes x = num.put x.s.size ++ strNats x.s := by unfold itemBytes; rw [if_neg K1.out, if_neg K2.out, if_pos k34]
                have hval : rd.piece (leftOf xs k) 0 1000 = (strNats x.s, leftOf xs (k + 1), 0) := by
                  rw [HSUCC.out, hib, List.append_assoc, ← strNats_len]
                  exact rd.piece_put _ _ 1000 (by rw [strNats_len]; omega) (by rw [strNats_len]; omega)
                have hlk : (leftOf xs k).length ≤ 140737488351232 := by have h1 := leftOf_len xs k; have h2 := HM.out; omega
                clear hib
                rcases k34 with k3 | k4
                · rw [k3] at c0
                  obtain ⟨Ab, cb, hrb⟩ := back_rd HR.out (.cells #[.int .i64 3, .int .i64 x.n, .int .i64 x.size, .string x.s] 62)
                  have hcon := wire.rbytes_any r Ab cb (leftOf xs k) 0 1000 _ hrb hlk
                  rw [hval] at hcon
                  have HCON := Lib.hid hcon
                  clear hcon hrb hval k3 k1' k2'
                  go_wp2
                  go_region_law
                    (first
                      | (go_simp; go_at_call 34; refine HCON.out.mono ?_; rintro e w4 ⟨⟨v4, rfl, hown⟩, hrd, hch⟩; obtain ⟨A4, c4, rfl, -, -, hat4⟩ := own_bytes hown; have hcv := conv_any (c := c4) Try.underlying23 Try.underlying5 Try.underlying9 (strNats x.s) rfl hat4; rw [strOf_strNats] at hcv; obtain ⟨hbk, hb4⟩ := back_step HR.out HB.out hrr _ _ hch; have hd1 := hbk.cell 3 (v := .string x.s) rfl; have HRD := Lib.hid hrd; have HB4 := Lib.hid hb4; clear hrd hch hbk hb4 hown hat4))
                  all_goals
                    go_wp2
                    go_roundw
                    case rel => exact ⟨k + 1, by omega, by go_num, HRD.out, HB4.out⟩
                    case measure => simp [intOf]; omega
                · rw [k4] at c0
                  obtain ⟨Ab, cb, hrb⟩ := back_rd HR.out (.cells #[.int .i64 4, .int .i64 x.n, .int .i64 x.size, .string x.s] 62)
                  have hcon := wire.rtext_any r Ab cb (leftOf xs k) 0 1000 _ hrb
                  rw [hval] at hcon
                  unfold TextPost at hcon
                  rw [strOf_strNats] at hcon
                  have HCON := Lib.hid hcon
                  clear hcon hrb hval k4 k1' k2'
                  go_wp2
                  go_region_law
                    (first
                      | (go_simp; go_at_call 35; refine HCON.out.mono ?_; rintro e w4 ⟨rfl, hrd, hch⟩; obtain ⟨hbk, hb4⟩ := back_step HR.out HB.out hrr _ _ hch; have hd1 := hbk.cell 3 (v := .string x.s) rfl; have HRD := Lib.hid hrd; have HB4 := Lib.hid hb4; clear hrd hch hbk hb4))
                  all_goals
                    go_wp2
                    go_roundw
                    case rel => exact ⟨k + 1, by omega, by go_num, HRD.out, HB4.out⟩
                    case measure => simp [intOf]; omega
              · have hib : itemBytes x = [] := by unfold itemBytes; rw [if_neg K1.out, if_neg K2.out, if_neg k34]
                have hsame : leftOf xs k = leftOf xs (k + 1) := by rw [HSUCC.out, hib]; rfl
                have k3' : (x.kind == 3) = false := by simp; omega
                have k4' : (x.kind == 4) = false := by simp; omega
                have HSAME := Lib.hid hsame
                clear hsame hib k34
                go_wp2
                go_roundw
                case rel => exact ⟨k + 1, by omega, by go_num, by rw [← HSAME.out]; exact RdIs.keep ⟨Ar, cr, HR.out⟩ ((Below.refl _ _).alloc (Nat.le_refl _) _), HB.out.alloc HB.out.size _⟩
                case measure => simp [intOf]; omega
        · obtain rfl : k = n := by omega
          clear hlt
          have hend : leftOf xs k = [] := by unfold leftOf; rw [List.drop_eq_nil_of_le (by rw [HL.out]; exact Nat.le_refl _)]; rfl
          rw [hend] at HR
          clear hend
          go_wp2_with fail
          refine (wire.err_any r Ar cr [] 0 wr HR.out).mono ?_
          rintro e w' ⟨rfl, rfl⟩
          go_wp2_with fail
          refine (wire.left_any r Ar cr [] 0 wr HR.out).mono ?_
          rintro e w' ⟨rfl, rfl⟩
          go_wp2_with fail
          refine (wire.awake_any wr).mono ?_
          rintro e w4 ⟨rfl, hb4⟩
          have HB4 := Lib.hid (HB.out.trans (hb4.mono HB.out.size)); clear hb4
          go_wp2
          go_ret
          exact ⟨rfl, HB4.out⟩
    · obtain rfl := hbad1 hq
      clear hok1 hbad1
      go_wp2_with fail
      refine (wire.made_any A n c xs w2 HL.out HIT2.out htot').mono ?_
      rintro e w3 ⟨⟨v2, rfl, -, -⟩, hb3⟩
      rw [hq]
      have HB3 := Lib.hid (HB2.out.trans (hb3.mono HB2.out.size)); clear hb3 hq
      go_wp2_with fail
      refine (wire.awake_any w3).mono ?_
      rintro e w4 ⟨rfl, hb4⟩
      have HB4 := Lib.hid (HB3.out.trans (hb4.mono HB3.out.size)); clear hb4
      go_wp2
      go_ret
      exact ⟨rfl, HB4.out⟩
theorem wire.lawBack (A : Option Addr) (n c : Nat) (xs : List Item) (w : World) (hl : xs.length = n ∧ n ≤ c ∧ c ≤ maxLen) (hit : Items w A xs) :
    Calls Try.prog 7 #[.slice A n c] w fun e w' => e = .returned (.bool true) ∧ Below w.heap.size w w' :=
  wire.lawBackT A n c xs w hl.1 hit (by have := hl.2; omega)
end Go.Proofs.Ytfblfgnnnbcplaa

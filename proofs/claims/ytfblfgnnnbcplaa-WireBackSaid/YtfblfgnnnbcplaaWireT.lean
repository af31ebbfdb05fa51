/- The law package's written (cordwainlaw3). -/
import Derived.Test.YtfblfgnnnbcplaaWireS
import Derived.Deep.RegionLaw
namespace Go.Proofs.Ytfblfgnnnbcplaa
open Go.RowKit

/-- What a Writer holds behind an item: the bytes, whether it is spoilt. -/
def wrStep (st : List Nat × Bool) (x : Item) : List Nat × Bool :=
  if x.kind = 1 then (if wire.fit x.n x.size = true then (st.1 ++ wire.be x.n.toNat x.size.toNat, st.2) else (st.1, true))
  else if x.kind = 2 then (st.1 ++ num.put x.n, st.2)
  else if x.kind = 3 ∨ x.kind = 4 then (st.1 ++ num.put x.s.size ++ strNats x.s, st.2)
  else st
def wrAll (xs : List Item) : List Nat × Bool := xs.foldl wrStep ([], false)
theorem take_get {α : Type} (xs : List α) (k : Nat) (x : α) (h : xs[k]? = some x) : xs.take (k + 1) = xs.take k ++ [x] := by
  have hk : k < xs.length := by
    rcases Nat.lt_or_ge k xs.length with h' | h'
    · exact h'
    · rw [List.getElem?_eq_none h'] at h; cases h
  have hx : xs[k] = x := by rw [List.getElem?_eq_getElem hk] at h; exact Option.some.inj h
  rw [List.take_succ_eq_append_getElem hk, hx]
theorem wrAll_succ (xs : List Item) (k : Nat) (x : Item) (h : xs[k]? = some x) : wrAll (xs.take (k + 1)) = wrStep (wrAll (xs.take k)) x := by
  rw [take_get xs k x h]
  simp [wrAll]
theorem wrStep_len (st : List Nat × Bool) (x : Item) : (wrStep st x).1.length ≤ st.1.length + (x.s.size + 10) := by
  unfold wrStep
  split
  · split
    · rename_i hf
      have h8 : x.size ≤ 8 := by
        unfold wire.fit at hf
        simp only [Bool.and_eq_true, decide_eq_true_eq] at hf
        omega
      simp only [List.length_append, wire.be_len]
      omega
    · simp
  split
  · have := num.put_bd x.n
    simp only [List.length_append]; omega
  split
  · have := num.put_bd (x.s.size : Int)
    simp only [List.length_append, strNats_len]; omega
  · omega
theorem wrAll_len (xs : List Item) : (wrAll xs).1.length ≤ total xs := by
  suffices h : ∀ st : List Nat × Bool, (xs.foldl wrStep st).1.length ≤ st.1.length + total xs by
    have := h ([], false)
    simpa [wrAll] using this
  induction xs with
  | nil => intro st; simp
  | cons x xs ih =>
    intro st
    rw [List.foldl_cons]
    have h1 := ih (wrStep st x)
    have h2 := wrStep_len st x
    have h3 : total (x :: xs) = (x.s.size + 10) + total xs := by simp [total]
    omega
theorem wrAll_take (xs : List Item) (k : Nat) : (wrAll (xs.take k)).1.length ≤ total xs := Nat.le_trans (wrAll_len _) (total_take xs k)
theorem fit_nat {n size : Int} (h : wire.fit n size = true) : 0 ≤ n ∧ 1 ≤ size ∧ size ≤ 8 := by
  unfold wire.fit at h
  simp only [Bool.and_eq_true, decide_eq_true_eq] at h
  omega

/-- Fixed of what does not fit: the Writer is spoilt. -/
theorem wire.fixed_no (B p : Nat) (v : Value) (L : List Nat) (bad : Bool) (n size : Int) (w : World) (h : Wr w B p v L bad) (hn : i64R n) (hfit : wire.fit n size = false) :
    Calls Try.prog 45 #[.pointer (some ⟨p, 0, none⟩), .int .i64 n, .int .i64 size] w (WrPost w B p v L true) := by
  have H := Lib.hid h; clear h
  have HFIT := Lib.hid hfit; clear hfit
  have hn1 := hn.1
  have hn2 := hn.2
  clear hn
  go_enter Try.func45, Try.ntmps45
  go_wp2_with fail
  refine (wire.fits_any n size w hn1 hn2).mono ?_
  rintro e w' ⟨rfl, rfl⟩
  rw [HFIT.out]
  go_wp2_with fail
  refine (wire.spoil_any B p v L bad w H.out).mono ?_
  rintro e w1 ⟨rfl, hd⟩
  have HD := Lib.hid hd; clear hd
  go_wp2
  go_ret
  exact ⟨rfl, HD.out⟩

/-- What the loop of 'written' keeps. -/
def WrtRel (w : World) (xs : List Item) (k : Nat) (wr : World) : Prop := ∃ v, Wr wr w.heap.size w.heap.size v (wrAll (xs.take k)).1 (wrAll (xs.take k)).2 ∧ Below w.heap.size w wr
theorem WrtRel.next {w : World} {xs : List Item} {k : Nat} {wr w1 : World} {v : Value} {x : Item} (hx : xs[k]? = some x) (hb : Below w.heap.size w wr) (hw : Wr wr w.heap.size w.heap.size v (wrAll (xs.take k)).1 (wrAll (xs.take k)).2) {L : List Nat} {b : Bool} (hd : WrDone wr w.heap.size w.heap.size v L b w1)
    (hs : wrStep (wrAll (xs.take k)) x = (L, b)) : WrtRel w xs (k + 1) w1 := by
  obtain ⟨v', h1, h2, _⟩ := hd
  refine ⟨v', ?_, hb.trans (hw.below h2)⟩
  rw [wrAll_succ xs k x hx, hs]
  exact h1

def WrtPost (w : World) (st : List Nat × Bool) (e : Ending) (w' : World) : Prop :=
  (∃ v, e = .returned (.tuple #[v, .bool (!st.2)]) ∧ (st.2 = true → v = .slice none 0 0) ∧ (st.2 = false → w'.ownsRow w.heap.size 5 1 v st.1.length (u8s st.1))) ∧ Below w.heap.size w w'
set_option maxRecDepth 20000 in
set_option maxHeartbeats 2000000 in
theorem wire.written_any (A : Option Addr) (n c : Nat) (xs : List Item) (w : World) (hl : xs.length = n) (hit : Items w A xs) (htot : total xs ≤ 1000) :
    Calls Try.prog 24 #[.slice A n c] w (WrtPost w (wrAll xs)) := by
  have hlen := total_len xs
  have HIT := Lib.hid hit; clear hit
  have HL := Lib.hid hl
  have hn : n ≤ 100 := by omega
  clear hl
  go_enter Try.func24, Try.ntmps24
  go_wp2
  go_loopw [5] (fun i wr => ∃ k : Nat, k ≤ n ∧ i = .int .i64 (k : Int) ∧ WrtRel w xs k wr) (fun i _ => n - (intOf i).toNat)
  case atStart => exact ⟨0, by omega, rfl, _, Wr.new w, (Below.refl _ _).alloc (Nat.le_refl _) _⟩
  case round =>
    obtain ⟨k, hk, rfl, v, hw, hb⟩ := hrel
    have HW := Lib.hid hw; clear hw
    have HB := Lib.hid hb; clear hb
    by_cases hlt : k < n
    · have hlt' : (k : Int) < n := by omega
      have hk0 : (0 : Int) ≤ k := by omega
      obtain ⟨b, off, x, rfl, hbb, hx, c0, c1, c2, c3, r0, r1, r2, hs⟩ := (HIT.out.below HB.out (Nat.le_refl _)).at' k (by rw [HL.out]; exact hlt)
      have HX := Lib.hid hx; clear hx
      have hLk := wrAll_take xs k
      have R1 := Lib.hid r1; clear r1 r0 r2
      have hsz : x.s.size ≤ 1000 := by
        have h1 := total_succ xs k x HX.out
        have h2 := total_take xs (k + 1)
        omega
      clear hs
      by_cases k1 : x.kind = 1
      · have K1 := Lib.hid k1
        rw [k1] at c0
        clear k1
        cases hf : wire.fit x.n x.size
        · have HF := Lib.hid hf; clear hf
          go_wp2
          go_region_law
            (first
              | (go_simp; refine (wire.fixed_no w.heap.size w.heap.size v _ _ x.n x.size _ HW.out.drew R1.out HF.out).mono ?_; rintro e w1 ⟨rfl, hd⟩; have HD := Lib.hid hd; clear hd))
          all_goals
            go_wp2
            go_roundw
            case rel => exact ⟨k + 1, by omega, by go_num, WrtRel.next HX.out (bdrew HB.out 1) HW.out.drew HD.out (by unfold wrStep; rw [if_pos K1.out, if_neg (by rw [HF.out]; simp)])⟩
            case measure => simp [intOf]; omega
        · obtain ⟨f0, f1, f2⟩ := fit_nat hf
          obtain ⟨a, ha⟩ := Int.eq_ofNat_of_zero_le f0
          obtain ⟨z, hz⟩ := Int.eq_ofNat_of_zero_le (show 0 ≤ x.size by omega)
          have hst : wrStep (wrAll (xs.take k)) x = ((wrAll (xs.take k)).1 ++ wire.be a z, (wrAll (xs.take k)).2) := by
            unfold wrStep; rw [if_pos K1.out, if_pos hf, ha, hz]; rfl
          have hfz : wire.fit a z = true := by rw [← ha, ← hz]; exact hf
          rw [ha] at c1
          rw [hz] at c2
          have hz1 : 1 ≤ z := by omega
          have hz8 : z ≤ 8 := by omega
          have ha2 : (a : Int) ≤ 9223372036854775807 := by rw [← ha]; exact R1.out.2
          have HST := Lib.hid hst; clear hst
          have HF := Lib.hid hfz; clear hfz hf ha hz f0 f1 f2
          go_wp2
          go_region_law
            (first
              | (go_simp; refine (wire.fixed_any w.heap.size w.heap.size v _ _ a z _ HW.out.drew (by omega) hz1 hz8 HF.out ha2).mono ?_; rintro e w1 ⟨rfl, hd⟩; have HD := Lib.hid hd; clear hd))
          all_goals
            go_wp2
            go_roundw
            case rel => exact ⟨k + 1, by omega, by go_num, WrtRel.next HX.out (bdrew HB.out 1) HW.out.drew HD.out HST.out⟩
            case measure => simp [intOf]; omega
      · have K1 := Lib.hid k1
        have k1' : (x.kind == 1) = false := by simpa using k1
        clear k1
        by_cases k2 : x.kind = 2
        · have K2 := Lib.hid k2
          rw [k2] at c0
          clear k2 k1'
          go_wp2_with fail
          refine (wire.num_any w.heap.size w.heap.size v _ _ x.n wr HW.out (by omega) R1.out.1 R1.out.2).mono ?_
          rintro e w1 ⟨rfl, hd⟩
          have HD := Lib.hid hd; clear hd
          go_wp2
          go_roundw
          case rel => exact ⟨k + 1, by omega, by go_num, WrtRel.next HX.out HB.out HW.out HD.out (by unfold wrStep; rw [if_neg K1.out, if_pos K2.out])⟩
          case measure => simp [intOf]; omega
        · have K2 := Lib.hid k2
          have k2' : (x.kind == 2) = false := by simpa using k2
          clear k2
          by_cases k3 : x.kind = 3
          · have K3 := Lib.hid k3
            rw [k3] at c0
            clear k3 k1' k2'
            obtain ⟨A1, cc, w1, hrun, hat, hb1, hA1, hcc⟩ := conv_str Try.underlying9 Try.underlying23 Try.underlying5 wr x.s
            have HAT := Lib.hid hat; clear hat
            have HB1 := Lib.hid hb1; clear hb1
            have HA1 := Lib.hid hA1; clear hA1
            go_wp2_with fail
            have hw1 := HW.out.keep HB1.out
            refine (wire.bytes_any w.heap.size w.heap.size v _ _ A1 x.s.size cc (strNats x.s) w1 hw1 (by omega) (strNats_len _) HAT.out (fun _ b off hA hv => by have := HA1.out b off hA; have := (HW.out.row.lt b hv).2; omega)).mono ?_
            rintro e w2 ⟨rfl, hd⟩
            have HD := Lib.hid hd; clear hd
            have HW1 := Lib.hid hw1; clear hw1
            go_wp2
            go_roundw
            case rel => exact ⟨k + 1, by omega, by go_num, WrtRel.next HX.out (HB.out.trans (HB1.out.mono HB.out.size)) HW1.out HD.out (by unfold wrStep; rw [if_neg K1.out, if_neg K2.out, if_pos (.inl K3.out)])⟩
            case measure => simp [intOf]; omega
          · have K3 := Lib.hid k3
            have k3' : (x.kind == 3) = false := by simpa using k3
            clear k3
            by_cases k4 : x.kind = 4
            · have K4 := Lib.hid k4
              rw [k4] at c0
              clear k4 k1' k2' k3'
              go_wp2_with fail
              refine (wire.text_any w.heap.size w.heap.size v _ _ x.s wr HW.out (by omega)).mono ?_
              rintro e w1 ⟨rfl, hd⟩
              have HD := Lib.hid hd; clear hd
              go_wp2
              go_roundw
              case rel => exact ⟨k + 1, by omega, by go_num, WrtRel.next HX.out HB.out HW.out HD.out (by unfold wrStep; rw [if_neg K1.out, if_neg K2.out, if_pos (.inr K4.out)])⟩
              case measure => simp [intOf]; omega
            · have K4 := Lib.hid k4
              have k4' : (x.kind == 4) = false := by simpa using k4
              clear k4
              have hst : wrStep (wrAll (xs.take k)) x = wrAll (xs.take k) := by
                unfold wrStep; rw [if_neg K1.out, if_neg K2.out, if_neg (by have := K3.out; have := K4.out; omega)]
              have HST := Lib.hid hst; clear hst
              go_wp2
              go_roundw
              case rel => exact ⟨k + 1, by omega, by go_num, v, by rw [wrAll_succ xs k x HX.out, HST.out]; exact HW.out, HB.out⟩
              case measure => simp [intOf]; omega
    · obtain rfl : k = n := by omega
      clear hlt
      have hall : xs.take k = xs := List.take_of_length_le (by rw [HL.out]; exact Nat.le_refl _)
      have hLk := wrAll_take xs k
      rw [hall] at HW hLk
      clear hall
      obtain ⟨⟨L, bad⟩, hq⟩ : ∃ q, wrAll xs = q := ⟨_, rfl⟩
      rw [hq] at HW hLk
      cases bad
      all_goals have HQ := Lib.hid hq
      all_goals clear hq
      · go_wp2_with fail
        refine (wire.done_any w.heap.size w.heap.size v L wr HW.out (by simpa using (show L.length ≤ 70368744177664 by omega))).mono ?_
        rintro e w1 ⟨⟨u, rfl, hown⟩, hb1⟩
        have HO := Lib.hid hown; clear hown
        have HB1 := Lib.hid hb1; clear hb1
        go_wp2
        go_ret2
        exact ⟨⟨_, by rw [HQ.out]; rfl, fun h => by rw [HQ.out] at h; (cases h), fun _ => by rw [HQ.out]; exact ownsRow_base HO.out HB.out.size⟩, HB.out.trans (HB1.out.mono HB.out.size)⟩
      · go_wp2_with fail
        refine (wire.done_bad w.heap.size w.heap.size v L wr HW.out).mono ?_
        rintro e w1 ⟨rfl, rfl⟩
        go_wp2
        go_ret2
        exact ⟨⟨_, by rw [HQ.out]; rfl, fun _ => rfl, fun h => by rw [HQ.out] at h; (cases h)⟩, HB.out⟩
end Go.Proofs.Ytfblfgnnnbcplaa

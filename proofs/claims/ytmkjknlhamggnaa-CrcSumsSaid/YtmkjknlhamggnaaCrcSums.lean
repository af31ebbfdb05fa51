/- The walk of the law CrcSums: it answers true, whatever the input. -/
import Derived.Test.YtmkjknlhamggnaaCrcR
import Derived.Test.YtmkjknlhamggnaaCrcGoes
import Derived.Test.YtmkjknlhamggnaaAlikeB
import Derived.Test.YtmkjknlhamggnaaOpenB
namespace Go.Proofs.Ytmkjknlhamggnaa
open Go.RowKit

/-- How much k lists weigh. -/
def crc.wt (Ls : List (List Nat)) (k : Nat) : Int := ((Ls.take k).map fun L => (L.length : Int) + 1).sum
theorem crc.wt_succ (Ls : List (List Nat)) (k : Nat) (h : k < Ls.length) : crc.wt Ls (k + 1) = crc.wt Ls k + ((Ls.getD k []).length + 1) := by
  unfold crc.wt
  rw [List.take_succ_eq_append_getElem h, List.map_append, List.sum_append]
  simp [List.getD, List.getElem?_eq_getElem h]
theorem crc.wt_mono (Ls : List (List Nat)) (k : Nat) (h : k < Ls.length) : ((Ls.getD k []).length : Int) < crc.wt Ls Ls.length := by
  have hpos : ∀ j, 0 ≤ crc.wt Ls j := fun j => sum_pos fun x hx => by
    simp only [List.mem_map] at hx
    obtain ⟨L, _, rfl⟩ := hx
    omega
  have hup : ∀ d, k + 1 + d ≤ Ls.length → crc.wt Ls (k + 1) ≤ crc.wt Ls (k + 1 + d) := by
    intro d
    induction d with
    | zero => intro _; exact Int.le_refl _
    | succ d ih =>
      intro hd
      have h3 := ih (by omega)
      have h4 := crc.wt_succ Ls (k + 1 + d) (by omega)
      rw [show k + 1 + (d + 1) = (k + 1 + d) + 1 by omega]
      omega
  have h1 := crc.wt_succ Ls k h
  have h2 := hup (Ls.length - (k + 1)) (by omega)
  rw [show k + 1 + (Ls.length - (k + 1)) = Ls.length by omega] at h2
  have := hpos k
  omega
def crc.flat (Ls : List (List Nat)) (k : Nat) : List Nat := (Ls.take k).flatten
theorem crc.flat_succ (Ls : List (List Nat)) (k : Nat) (h : k < Ls.length) : crc.flat Ls (k + 1) = crc.flat Ls k ++ Ls.getD k [] := by
  unfold crc.flat
  rw [List.take_succ_eq_append_getElem h, List.flatten_append]
  simp [List.getD, List.getElem?_eq_getElem h]
theorem crc.flat_len (Ls : List (List Nat)) (k : Nat) (h : k ≤ Ls.length) : ((crc.flat Ls k).length : Int) + k = crc.wt Ls k := by
  induction k with
  | zero => rfl
  | succ k ih =>
    have := ih (by omega)
    rw [crc.flat_succ Ls k (by omega), crc.wt_succ Ls k (by omega), List.length_append]
    push_cast; omega
theorem crc.flat_byte (Ls : List (List Nat)) (k : Nat) (h : k ≤ Ls.length) (hb : ∀ j, j < Ls.length → ∀ x ∈ Ls.getD j [], x < 256) : ∀ x ∈ crc.flat Ls k, x < 256 := by
  induction k with
  | zero => intro x hx; cases hx
  | succ k ih =>
    intro x hx
    rw [crc.flat_succ Ls k (by omega), List.mem_append] at hx
    rcases hx with hx | hx
    · exact ih (by omega) x hx
    · exact hb k (by omega) x hx
theorem crc.sums_flat (Ls : List (List Nat)) (k : Nat) (h : k ≤ Ls.length) (hb : ∀ j, j < Ls.length → ∀ x ∈ Ls.getD j [], x < 256) : crc.sums (Ls.take k) = crc.more 0 (crc.flat Ls k) := by
  induction k with
  | zero => exact (crc.more_nil 0 (by omega)).symm
  | succ k ih =>
    rw [crc.sums_take Ls k (by omega), ih (by omega), crc.flat_succ Ls k (by omega), crc.more_append _ _ _ (crc.flat_byte Ls k (by omega) hb)]

theorem crc.flat_le (Ls : List (List Nat)) (k : Nat) (h : k ≤ Ls.length) (hb : ∀ j, j < Ls.length → (Ls.getD j []).length ≤ 2000) : (crc.flat Ls k).length ≤ 2000 * k := by
  induction k with
  | zero => simp [crc.flat]
  | succ k ih =>
    have h1 := ih (by omega)
    have h2 := hb k (by omega)
    rw [crc.flat_succ Ls k (by omega), List.length_append]
    omega
theorem Raw.below {w w' : World} {v : Value} {L : List Nat} (h : Raw w v L) (hb : Below w.heap.size w w') : Raw w' v L := by
  obtain ⟨A, c, rfl, h0, h1, h2, h3⟩ := h
  exact ⟨A, c, rfl, h0, h1, h2.below hb (Nat.le_refl _), h3⟩
theorem Raw.bytes {w : World} {v : Value} {L : List Nat} (h : Raw w v L) (hl : L.length ≤ 1099511627776) : Bytes w v L := by
  obtain ⟨A, c, rfl, h0, h1, h2, h3⟩ := h
  exact ⟨A, c, rfl, hl, h2, h3⟩

theorem at_two (w : World) (a b : Int) (t : TypeId) : At (w.alloc (.cells #[.int .i64 a, .int .i64 b] t)) (some ⟨w.heap.size, 0, none⟩) 2 (fun j => .int .i64 ([a, b].getD j 0)) :=
  (At.new w #[.int .i64 a, .int .i64 b] t (fr := (0, 0)) (n := 2) rfl).congr fun j hj => by
    have hj' : j = 0 ∨ j = 1 := by omega
    rcases hj' with rfl | rfl <;> rfl

set_option maxRecDepth 20000 in
set_option maxHeartbeats 2000000 in
theorem crc.lawSums (X : Option Addr) (n c : Nat) (V : Nat → Value) (Ls : List (List Nat)) (w : World) (hn : Ls.length = n ∧ n ≤ c ∧ c ≤ maxLen) (hat : At w X n V) (hV : ∀ j, j < n → Raw w (V j) (Ls.getD j [])) :
    Calls Try.prog 4 #[.slice X n c] w fun e w' => e = .returned (.bool true) ∧ Below w.heap.size w w' := by
  obtain ⟨hl, hnc, hcm⟩ := hn
  unfold maxLen at hcm
  have HAT := Lib.hid hat; clear hat
  have HV := Lib.hid hV; clear hV
  have HL := Lib.hid hl; clear hl
  go_enter Try.func4, Try.ntmps4
  go_wp2
  go_loopw [3, 4] (fun x i wr => ∃ (k : Nat) (t : Int), k ≤ n ∧ i = .int .i64 (k : Int) ∧ x = .int .i64 t ∧ 0 ≤ t ∧ t ≤ 1099511627776 ∧ (t ≤ 2000 → t = crc.wt Ls k) ∧ Below w.heap.size w wr) (fun _ i _ => n - (intOf i).toNat)
  case atStart => exact ⟨0, 0, by omega, rfl, rfl, by omega, by omega, fun _ => rfl, Below.refl _ _⟩
  case round =>
    obtain ⟨k, t, hk, rfl, rfl, ht0, ht1, ht, hb⟩ := hrel
    have HT := Lib.hid ht; clear ht
    have HB := Lib.hid hb; clear hb
    by_cases hgo : k < n ∧ t ≤ 2000
    · obtain ⟨hlt, ht2⟩ := hgo
      obtain ⟨b, off, rfl, hbb, hc⟩ := HAT.out (by omega)
      obtain ⟨Ai, ci, hvi, hli, hci, _, _⟩ := HV.out k hlt
      obtain ⟨L, hL⟩ : ∃ L, L = Ls.getD k [] := ⟨_, rfl⟩
      rw [← hL] at hvi hli
      have hc1 : wr.cell? ⟨b, off + k, none⟩ = some (.slice Ai L.length ci) := by rw [HB.out.cell (by exact hbb), hc k hlt, hvi]
      clear hc hvi
      unfold maxLen at hci
      have HLL := Lib.hid hL; clear hL
      go_wp2_with fail
      refine (alike.sum_any t _ 2 2 [(L.length : Int), 1] _ ht0 ht1 (by omega) rfl (at_two _ _ _ _) (fun x hx => by simp at hx; omega)).mono ?_
      rintro e w' ⟨rfl, rfl⟩
      have hsm : alike.sum t [(L.length : Int), 1] = min (t + L.length + 1) 1099511627776 := by unfold alike.sum; simp; omega
      rw [hsm]
      clear hsm
      go_wp2
      go_roundw
      case rel =>
        refine ⟨k + 1, min (t + L.length + 1) 1099511627776, by omega, by go_num, rfl, by omega, by omega, fun h => ?_, HB.out.alloc HB.out.size _⟩
        have h1 := HT.out (by omega)
        rw [crc.wt_succ Ls k (by rw [HL.out]; exact hlt), ← HLL.out]
        omega
      case measure => simp [intOf]; omega
    · by_cases hbig : 2000 < t
      · clear hgo
        have hnb : ¬ t ≤ 2000 := by omega
        go_wp2_with (go_at_call 14; refine (crc.awake_any _).mono ?_; rintro e w' ⟨rfl, hb⟩)
        all_goals
          go_ret
          exact ⟨rfl, HB.out.trans (Below.mono (by assumption) HB.out.size)⟩
      · have hkn : ¬ k < n := by omega
        obtain rfl : k = n := by omega
        clear hgo hkn
        have ht2 : t ≤ 2000 := by omega
        have hwt : t = crc.wt Ls Ls.length := by rw [HL.out]; exact HT.out ht2
        have hlen : ∀ j, j < Ls.length → (Ls.getD j []).length ≤ 2000 := fun j hj => by have := crc.wt_mono Ls j hj; omega
        have hcnt : Ls.length ≤ 2000 ∧ (crc.flat Ls Ls.length).length ≤ 2000 := by have := crc.flat_len Ls Ls.length (Nat.le_refl _); omega
        have hbyte : ∀ j, j < Ls.length → ∀ x ∈ Ls.getD j [], x < 256 := fun j hj => by
          obtain ⟨_, _, _, _, _, _, h⟩ := HV.out j (by rw [← HL.out]; exact hj)
          exact h
        have hVb : ∀ j, j < k → Bytes w (V j) (Ls.getD j []) := fun j hj => (HV.out j hj).bytes (by have := hlen j (by rw [HL.out]; exact hj); omega)
        have HVB := Lib.hid hVb; clear hVb
        have HBY := Lib.hid hbyte; clear hbyte
        have HLEN := Lib.hid hlen; clear hlen
        have HCNT := Lib.hid hcnt; clear hcnt
        clear hwt
        go_wp2_with fail
        refine (crc.sum_any none 0 0 (fun _ => undef) [] _ (by omega) rfl (fun h => absurd h (by omega)) (fun j hj => absurd hj (by omega))).mono ?_
        rintro e w' ⟨rfl, rfl⟩
        have e0 : crc.sums [] = 0 := rfl
        rw [e0]
        clear e0
        have hg0 : (wr.alloc (.cells #[.int .u32 0] 37)).cell? ⟨wr.heap.size, 0, none⟩ = some (.int .u32 ((0 : Nat) : Int)) := by simp [go_sem]
        have hf0 : (wr.alloc (.cells #[.int .u32 0] 37)).frozen? ⟨wr.heap.size, 0, none⟩ = false := by simp [go_sem]
        have HG0 := Lib.hid hg0; clear hg0
        have HF0 := Lib.hid hf0; clear hf0
        obtain ⟨g, hg⟩ : ∃ g, g = wr.heap.size := ⟨_, rfl⟩
        have hgw : w.heap.size ≤ g := by rw [hg]; exact HB.out.size
        rw [← hg] at HG0 HF0 ⊢
        have hb0 : Below g wr (wr.alloc (.cells #[.int .u32 0] 37)) := (Below.refl _ _).alloc (by omega) _
        have HB0 := Lib.hid hb0; clear hb0
        have hbg : Below w.heap.size w wr := HB.out
        have HBG := Lib.hid hbg; clear hbg
        have HG := Lib.hid hg; clear hg
        clear HB
        obtain ⟨i0, hi, hz0, hz1, hz2⟩ := info_parts infoByte
        obtain ⟨wo, rfl⟩ : ∃ wo : World, wo = wr := ⟨_, rfl⟩
        go_wp2
        go_loopw [5, 7, 8] (fun v x i w2 => ∃ (j s : Nat) (A' : Option Addr) (c' : Nat), j ≤ k ∧ i = .int .i64 (j : Int) ∧ v = .slice A' (crc.flat Ls j).length c' ∧ x = .int .u32 (s : Int) ∧ s < 4294967296 ∧ s = crc.more 0 (crc.flat Ls j) ∧
            w2.ownsRow (g + 1) 5 1 v (crc.flat Ls j).length (u8s (crc.flat Ls j)) ∧ w2.cell? ⟨g, 0, none⟩ = some (.int .u32 (s : Int)) ∧ w2.frozen? ⟨g, 0, none⟩ = false ∧ g + 1 ≤ w2.heap.size ∧ Below g wo w2) (fun _ _ i _ => k - (intOf i).toNat)
        case atStart => exact ⟨0, 0, none, 0, by omega, rfl, rfl, rfl, by omega, (crc.more_nil 0 (by omega)).symm, World.ownsRow_nil _ _ _ _, HG0.out, HF0.out, by have := HG.out; simp; omega, HB0.out⟩
        case round =>
          obtain ⟨j, s, A', c', hj, rfl, rfl, rfl, hs, hse, hown, hcr, hfr, hgz, hb⟩ := hrel
          have HSE := Lib.hid hse; clear hse
          have HOWN := Lib.hid hown; clear hown
          have HB := Lib.hid hb; clear hb
          have hwr : Below w.heap.size w wr := HBG.out.trans (HB.out.mono hgw)
          have HWR := Lib.hid hwr; clear hwr
          by_cases hlt : j < k
          · obtain ⟨b, off, rfl, hbb, hc⟩ := HAT.out (by omega)
            have hbv := HVB.out j hlt
            obtain ⟨L, hL⟩ : ∃ L, L = Ls.getD j [] := ⟨_, rfl⟩
            rw [← hL] at hbv
            have hbv0 := hbv
            obtain ⟨Ai, ci, hvi, hli, hati, hbi⟩ := hbv
            have hc0 : w.cell? ⟨b, off + j, none⟩ = some (.slice Ai L.length ci) := by rw [hc j hlt, hvi]
            rw [hvi] at hbv0
            have hc1 : wr.cell? ⟨b, off + j, none⟩ = some (.slice Ai L.length ci) := (HWR.out.cell (by exact hbb)).trans hc0
            have HC0 := Lib.hid hc0; clear hc0
            have HBV := Lib.hid hbv0; clear hbv0
            have HATI := Lib.hid hati; clear hati
            have hlen2 : L.length ≤ 2000 := by rw [hL]; exact HLEN.out j (by rw [HL.out]; exact hlt)
            have HLL := Lib.hid hL; clear hL
            have HBI := Lib.hid hbi; clear hbi
            clear hc hvi
            have hfl : (crc.flat Ls j).length ≤ 4000000 := by
              have h1 := crc.flat_le Ls j (by rw [HL.out]; exact hj) HLEN.out
              have h2 := HCNT.out.1
              rw [HL.out] at h2
              omega
            go_wp2_with (at_builtin; refine wpList_app _ rfl (.tmp 38) (.tmp 42) 23 rfl (g + 1) 5 i0 _ 1 1 Try.underlying23 hi hz0 hz1 hz2 rfl (by decide) _ _ _ rfl HOWN.out Ai L.length ci (byteAt L) rfl ((Nat.mul_one L.length).symm ▸ HATI.out.below HWR.out (Nat.le_refl _)) (fun _ _ => rfl) (by unfold maxLen; omega) (by omega) hgz ?_)
            intro v3 w3 hown3 hg3
            rw [byteAt_c _ rfl, ← u8s_append] at hown3
            obtain ⟨A3, c3, rfl, _, _, _⟩ := own_bytes hown3
            have hb3 : Below g wo w3 := HB.out.grown hg3 (by omega) (fun q hq => by have := (HOWN.out.lt q hq).1; omega)
            have hne : some g ≠ (Value.slice A' (crc.flat Ls j).length c').ownBlock := fun hq => by have := (HOWN.out.lt g hq.symm).1; omega
            have hcr3 : w3.cell? ⟨g, 0, none⟩ = some (.int .u32 (s : Int)) := (hg3.cell_far ⟨g, 0, none⟩ (by show g < _; omega) hne).trans hcr
            have hfr3 : w3.frozen? ⟨g, 0, none⟩ = false := (hg3.frozen_far ⟨g, 0, none⟩ (by show g < _; omega) hne).trans hfr
            have hgz3 : g + 1 ≤ w3.heap.size := Nat.le_trans hgz hg3.size
            have hw3 : Below w.heap.size w w3 := HBG.out.trans (hb3.mono hgw)
            have hc3 : w3.cell? ⟨b, off + j, none⟩ = some (.slice Ai L.length ci) := (hw3.cell (by exact hbb)).trans HC0.out
            have hbl3 : Bytes w3 (.slice Ai L.length ci) L := HBV.out.below hw3
            have HOWN3 := Lib.hid hown3; clear hown3
            have HB3 := Lib.hid hb3; clear hb3
            have HBL3 := Lib.hid hbl3; clear hbl3
            have HW3 := Lib.hid hw3; clear hw3
            have HATI3 := Lib.hid (HATI.out.below HW3.out (Nat.le_refl _))
            clear hg3 hc1 hcr hfr hne
            go_wp2_with fail
            refine (crc.more_any s Ai L.length ci L w3 hs (by omega) rfl HATI3.out (fun q hq => getD_lt HBI.out q hq)).mono ?_
            rintro e w' ⟨rfl, rfl⟩
            go_wp2_with fail
            refine (crc.add_any g s _ L w3 hs hcr3 hfr3 HBL3.out).mono ?_
            rintro e w' ⟨rfl, rfl⟩
            have hsn : crc.more s L = crc.more 0 (crc.flat Ls (j + 1)) := by
              rw [crc.flat_succ Ls j (by rw [HL.out]; exact hlt), crc.more_append _ _ _ (crc.flat_byte Ls j (by rw [HL.out]; exact hj) HBY.out), ← HSE.out, ← HLL.out]
            have HSN := Lib.hid hsn; clear hsn
            have hfs : crc.flat Ls (j + 1) = crc.flat Ls j ++ L := by rw [crc.flat_succ Ls j (by rw [HL.out]; exact hlt), ← HLL.out]
            have hfl1 : (crc.flat Ls j).length + L.length = (crc.flat Ls (j + 1)).length := by rw [hfs, List.length_append]
            have HFS := Lib.hid hfs; clear hfs
            have HFL := Lib.hid hfl1; clear hfl1
            go_wp2
            go_roundw
            case rel =>
              refine ⟨j + 1, crc.more s L, A3, c3, by omega, by go_num, by rw [HFL.out], rfl, crc.more_lt _ _, HSN.out, ?_, World.cell?_setCell_same w3 _ _ hcr3, by rw [World.frozen?_setCell]; exact hfr3, by simpa using hgz3, HB3.out.setCell (p := ⟨g, 0, none⟩) (Nat.le_refl _) _⟩
              rw [← HFL.out, HFS.out]
              exact ownsRow_setCell_below HOWN3.out (a := ⟨g, 0, none⟩) (by show g < g + 1; omega) _
            case measure => simp [intOf]; omega
          · obtain rfl : j = k := by omega
            have hjl : j = Ls.length := HL.out.symm
            have hfl : (crc.flat Ls j).length ≤ 2000 := by rw [hjl]; exact HCNT.out.2
            have hfb : ∀ x ∈ crc.flat Ls j, x < 256 := crc.flat_byte Ls j (by rw [HL.out]; exact hj) HBY.out
            obtain ⟨A4, c4, he4, _, _, hat4⟩ := own_bytes HOWN.out
            injection he4 with f1 _ f3
            subst f1; subst f3
            have hbf : Bytes wr (.slice A' (crc.flat Ls j).length c') (crc.flat Ls j) := ⟨A', c', rfl, by omega, hat4, hfb⟩
            have HBF := Lib.hid hbf; clear hbf
            have hss : crc.sums Ls = s := by
              have h1 := crc.sums_flat Ls j (by rw [HL.out]; exact hj) HBY.out
              rw [List.take_of_length_le (by omega)] at h1
              rw [h1, HSE.out]
            have HSS := Lib.hid hss; clear hss
            clear hat4 hfb hjl
            go_wp2_with fail
            refine (crc.refsum_any _ (crc.flat Ls j) wr HBF.out).mono ?_
            rintro e w' ⟨rfl, rfl⟩
            rw [← HSE.out]
            go_wp2_with fail
            refine (crc.sum_any _ 1 1 _ [crc.flat Ls j] _ (by omega) rfl (At.one _ _ _) (one_val (HBF.out.below ((Below.refl _ _).alloc (Nat.le_refl _) _)))).mono ?_
            rintro e w' ⟨rfl, rfl⟩
            rw [crc.one, ← HSE.out]
            have hba : ∀ o, Below wr.heap.size wr (wr.alloc o) := fun o => (Below.refl _ _).alloc (Nat.le_refl _) _
            have hwa : ∀ o, Below w.heap.size w (wr.alloc o) := fun o => HWR.out.trans ((hba o).mono HWR.out.size)
            have HWA := Lib.hid hwa; clear hwa
            clear hba
            go_wp2_with fail
            refine (crc.sum_any X j c V Ls _ (by omega) HL.out (HAT.out.below (HWA.out _) (Nat.le_refl _)) (fun q hq => (HVB.out q hq).below (HWA.out _))).mono ?_
            rintro e w' ⟨rfl, rfl⟩
            rw [HSS.out]
            go_wp2_with fail
            refine (crc.told_any g _ _ ((World.cell?_alloc_lt wr _ ⟨g, 0, none⟩ (by show g < _; omega)).trans hcr)).mono ?_
            rintro e w' ⟨rfl, rfl⟩
            go_wp2_with fail
            refine (crc.awake_any _).mono ?_
            rintro e w7 ⟨rfl, hb7⟩
            have HB7 := Lib.hid hb7; clear hb7
            go_wp2
            go_ret
            exact ⟨rfl, (HWA.out _).trans (HB7.out.mono (HWA.out _).size)⟩
end Go.Proofs.Ytmkjknlhamggnaa

/- The reference's Records (cordwainref10): all records of batches, one behind the other. -/
import Derived.Test.YtnlfdhoabbbheaaApp2
import Derived.Test.YtnlfdhoabbbheaaBats
namespace Go.Proofs.Ytnlfdhoabbbheaa
open Go.RowKit

theorem rc.info : (Try.prog.info? 34).map (fun i => (i.zero, i.size, i.bytes)) = some (some (.agg #[.int .i64 0, .int .i64 0, .bool false, .slice none 0 0, .bool false, .slice none 0 0]), 6, 80) := by kernel_rfl
/-- A row of cells is these records. -/
def rc.Row (w : World) (xs : List Value) (rs : List Rec) : Prop := xs.length = rs.length * 6 ∧ ∀ (i : Nat) (r : Rec), rs[i]? = some r → RecR w (cellsAt (fun j => xs.getD j undef) i 6) r
theorem cellsAt_congr {V V' : Nat → Value} {i i' m : Nat} (h : ∀ k, k < m → V (i * m + k) = V' (i' * m + k)) : cellsAt V i m = cellsAt V' i' m := by
  unfold cellsAt
  exact List.map_congr_left fun k hk => h k (List.mem_range.1 hk)
theorem rc.Row.nil (w : World) : rc.Row w [] [] := ⟨rfl, fun i r h => by cases h⟩
theorem rc.Row.append {w : World} {xs ys : List Value} {rs ts : List Rec} (h : rc.Row w xs rs) (g : rc.Row w ys ts) : rc.Row w (xs ++ ys) (rs ++ ts) := by
  refine ⟨by rw [List.length_append, List.length_append, h.1, g.1]; omega, fun i r hr => ?_⟩
  by_cases hi : i < rs.length
  · rw [List.getElem?_append_left hi] at hr
    rw [show cellsAt (fun j => (xs ++ ys).getD j undef) i 6 = cellsAt (fun j => xs.getD j undef) i 6 from cellsAt_congr fun k hk => by
      simp only [List.getD]
      rw [List.getElem?_append_left (by rw [h.1]; omega)]]
    exact h.2 i r hr
  · rw [List.getElem?_append_right (by omega)] at hr
    rw [show cellsAt (fun j => (xs ++ ys).getD j undef) i 6 = cellsAt (fun j => ys.getD j undef) (i - rs.length) 6 from cellsAt_congr fun k hk => by
      simp only [List.getD]
      rw [List.getElem?_append_right (by rw [h.1]; omega), h.1, show i * 6 + k - rs.length * 6 = (i - rs.length) * 6 + k by omega]]
    exact g.2 _ r hr
theorem rc.Row.below {w w' : World} {xs : List Value} {rs : List Rec} {B : Nat} (h : rc.Row w xs rs) (hb : Below B w w') (hB : w.heap.size ≤ B) : rc.Row w' xs rs := ⟨h.1, fun i r hr => (h.2 i r hr).below hb hB⟩
theorem rc.Row.cells {w : World} {V : Nat → Value} {rs : List Rec} (h : ∀ (i : Nat) (r : Rec), rs[i]? = some r → RecR w (cellsAt V i 6) r) : rc.Row w (cellsOf (rs.length * 6) V) rs := by
  refine ⟨cellsOf_len _ _, fun i r hr => ?_⟩
  have hi := (List.getElem?_eq_some_iff.1 hr).1
  rw [show cellsAt (fun j => (cellsOf (rs.length * 6) V).getD j undef) i 6 = cellsAt V i 6 from cellsAt_congr fun k hk => by
    simp only [List.getD]
    rw [cellsOf_get _ _ _ (by omega)]
    rfl]
  exact h i r hr
theorem rc.one {w : World} {V : Nat → Value} {rs : List Rec} (h : ∀ (i : Nat) (r : Rec), rs[i]? = some r → RecR w (cellsAt V i 6) r) : ∀ j, j < rs.length * 6 → (V j).oneCell' = true := fun j hj => by
  obtain ⟨r, hr⟩ : ∃ r, rs[j / 6]? = some r := ⟨_, List.getElem?_eq_getElem (by omega)⟩
  obtain ⟨k, v, hc, ⟨A1, c1, rfl, -⟩, ⟨A2, c2, rfl, -⟩, -⟩ := h _ r hr
  have e : j = j / 6 * 6 + j % 6 := by omega
  have hm : j % 6 < 6 := Nat.mod_lt _ (by omega)
  rw [e]
  generalize j % 6 = q at hm
  match q, hm with
  | 0, _ => rw [cellsAt_cell hc 0 (by omega) rfl]; rfl
  | 1, _ => rw [cellsAt_cell hc 1 (by omega) rfl]; rfl
  | 2, _ => rw [cellsAt_cell hc 2 (by omega) rfl]; rfl
  | 3, _ => rw [cellsAt_cell hc 3 (by omega) rfl]; rfl
  | 4, _ => rw [cellsAt_cell hc 4 (by omega) rfl]; rfl
  | 5, _ => rw [cellsAt_cell hc 5 (by omega) rfl]; rfl
theorem rc.Row.recsV {w : World} {B : Nat} {v : Value} {n : Nat} {xs : List Value} {rs : List Rec} (h : rc.Row w xs rs) (hn : rs.length = n) (ho : w.ownsRow B 34 6 v n xs) : ∃ A c, v = .slice A n c ∧ RecsV w (.slice A n c) rs := by
  have hcap := own_at ho
  obtain ⟨A, c, rfl, hc, hat⟩ := hcap
  have hcm := own_cap ho
  refine ⟨A, c, rfl, A, c, fun j => xs.getD j undef, by rw [hn], by omega, hcm, by rw [hn]; exact hat, h.2⟩
/-- All records of batches. -/
def rc.flat (bs : List Bat) : List Rec := (bs.map fun b => b.recs).flatten
theorem rc.flat_take {bs : List Bat} {k : Nat} {b : Bat} (h : bs[k]? = some b) : rc.flat (bs.take (k + 1)) = rc.flat (bs.take k) ++ b.recs := by
  obtain ⟨hk, e⟩ := List.getElem?_eq_some_iff.1 h
  unfold rc.flat
  rw [List.take_succ_eq_append_getElem hk, e]
  simp
theorem rc.flat_le {bs : List Bat} (k : Nat) : (rc.flat (bs.take k)).length ≤ (rc.flat bs).length := by
  have : rc.flat bs = rc.flat (bs.take k) ++ rc.flat (bs.drop k) := by
    unfold rc.flat
    rw [← List.flatten_append, ← List.map_append, List.take_append_drop]
  rw [this, List.length_append]
  omega
/-- What Records answers. -/
def rc.Post (bs : List Bat) (w : World) (e : Ending) (w' : World) : Prop := (∃ A c, e = .returned (.slice A (rc.flat bs).length c) ∧ RecsV w' (.slice A (rc.flat bs).length c) (rc.flat bs)) ∧ Below w.heap.size w w'

set_option maxRecDepth 20000 in
set_option maxHeartbeats 2000000 in
theorem rc.records_any (A : Option Addr) (bs : List Bat) (n c : Nat) (w : World) (hat : BatsAt w A bs) (hn : bs.length = n) (hn1 : n ≤ 1000000) (hN : (rc.flat bs).length ≤ 1000000) :
    Calls Try.prog 25 #[.slice A n c] w (rc.Post bs w) := by
  obtain ⟨i0, hi, hz0, hz1, hz2⟩ := info_parts rc.info
  have HAT := Lib.hid hat; clear hat
  have HN := Lib.hid hn; clear hn
  have HNN := Lib.hid hN; clear hN
  go_enter Try.func25, Try.ntmps25
  go_wp2
  go_loopw [3, 4] (fun v i wr => ∃ (k : Nat) (xs : List Value) (u : Value), u = v ∧ k ≤ n ∧ i = .int .i64 (k : Int) ∧ wr.ownsRow w.heap.size 34 6 u (rc.flat (bs.take k)).length xs ∧ rc.Row w xs (rc.flat (bs.take k)) ∧ Below w.heap.size w wr) (fun _ i _ => n - (intOf i).toNat)
  case atStart => exact ⟨0, [], _, rfl, by omega, rfl, World.ownsRow_nil _ _ _ _, rc.Row.nil _, Below.refl _ _⟩
  case round =>
    obtain ⟨k, xs, v, rfl, hk, rfl, hown, hrow, hb⟩ := hrel
    have HO := Lib.hid hown; clear hown
    have HR := Lib.hid hrow; clear hrow
    have HB := Lib.hid hb; clear hb
    by_cases hlt : k < n
    · obtain ⟨x, hx⟩ : ∃ x, bs[k]? = some x := ⟨_, List.getElem?_eq_getElem (by rw [HN.out]; exact hlt)⟩
      obtain ⟨b2, off2, v2, hA2, hb2, -, -, -, -, -, c5, hrecs, -⟩ := HAT.out.at' hx
      subst hA2
      obtain ⟨A4, c4, V4, rfl, hmc, hc4, hv4, hr4⟩ := id hrecs
      have e5 : wr.cell? ⟨b2, off2 + k * 6 + 5, none⟩ = some (.slice A4 x.recs.length c4) := (HB.out.cell (p := ⟨b2, off2 + k * 6 + 5, none⟩) hb2).trans c5
      have hfl := rc.flat_take hx
      have hle := rc.flat_le (bs := bs) (k + 1)
      have hNN := HNN.out
      rw [hfl, List.length_append] at hle
      have hrow2 := HR.out.append (rc.Row.cells hr4)
      rw [← hfl] at hrow2
      have hone := rc.one hr4
      have hl2 : (rc.flat (bs.take (k + 1))).length = (rc.flat (bs.take k)).length + x.recs.length := by rw [hfl, List.length_append]
      have HR2 := Lib.hid (And.intro hrow2 hl2); clear hrow2 hl2 hfl
      have HV4 := Lib.hid (hv4.below HB.out (Nat.le_refl _)); clear hv4
      have HONE := Lib.hid hone; clear hone hr4 hrecs hx c5
      generalize x.recs.length = m at *
      generalize (rc.flat (bs.take k)).length = N at *
      go_wp2_with (at_builtin; go_loud (refine wpList_app2 _ rfl (.tmp 11) (.tmp 16) 44 rfl w.heap.size 34 i0 _ 6 80 Try.underlying44 hi hz0 hz1 hz2 rfl (by decide) v N xs rfl HO.out A4 m c4 V4 rfl HV4.out HONE.out (by unfold maxLen; omega) (by omega) HB.out.size ?_); intro v' w2 hown2 hg2 hl2; have HO2 := Lib.hid hown2; have HB2 := Lib.hid (HB.out.grown hg2 HB.out.size (fun g hg => (HO.out.lt g hg).1)); clear hown2 hg2 hl2)
      go_roundw
      case rel => exact ⟨k + 1, _, v', rfl, by omega, by go_num, by rw [HR2.out.2]; exact HO2.out, HR2.out.1, HB2.out⟩
      case measure => simp [intOf]; omega
    · obtain rfl : n = k := by omega
      have htk : bs.take n = bs := List.take_of_length_le (by rw [HN.out]; exact Nat.le_refl _)
      rw [htk] at HO HR
      have hrv := (HR.out.below HB.out (Nat.le_refl _)).recsV rfl HO.out
      have HRV := Lib.hid hrv; clear hrv htk
      obtain ⟨A5, c5, rfl, h5⟩ := HRV.out
      have H5 := Lib.hid h5; clear h5
      go_wp2
      go_ret
      exact ⟨⟨A5, c5, rfl, H5.out⟩, HB.out⟩
end Go.Proofs.Ytnlfdhoabbbheaa

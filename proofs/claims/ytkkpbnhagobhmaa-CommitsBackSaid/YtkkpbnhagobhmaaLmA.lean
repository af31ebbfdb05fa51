/- batch: the records that the law BatchLimits makes. -/
import Derived.Test.YtkkpbnhagobhmaaBlk
import Derived.Laws.Rows
import Derived.Laws.ResultCell
import Derived.Test.YtkkpbnhagobhmaaBtF
import Derived.Test.YtkkpbnhagobhmaaRdY
import Derived.Test.YtkkpbnhagobhmaaRdB
namespace Go.Proofs.Ytkkpbnhagobhmaa
open Go.RowKit

theorem res_cell2 {P : Program} {fn : Func} {p u : Tmp} {ty T : TypeId} (h : fn.results = #[.cell p ty, .tmp u]) (tmps : Array Value) (w : World) (g : Nat) (cs : Array Value) (d : TypeDesc) (hp : tmps.getD p undef = .pointer (some ⟨g, 0, none⟩)) (hg : Blk w g T cs)
    (hu : P.underlying ty = some d) (hd : (match d with | .struct _ | .array _ _ => true | _ => false) = true) (hi : (P.info? ty).map (·.size) = some cs.size) :
    (results fn tmps).run P w = .ok (.tuple #[.agg cs, tmps.getD u undef]) w := by
  have hp' : tmps[p]?.getD undef = .pointer (some ⟨g, 0, none⟩) := by simpa using hp
  simp [results, h, hp', asAddr, run_loadVar_row w g T ty cs (0, 0) d hg hu hd hi]
theorem res_cell3 {P : Program} {fn : Func} {p u v : Tmp} {ty T : TypeId} (h : fn.results = #[.cell p ty, .tmp u, .tmp v]) (tmps : Array Value) (w : World) (g : Nat) (cs : Array Value) (d : TypeDesc) (hp : tmps.getD p undef = .pointer (some ⟨g, 0, none⟩)) (hg : Blk w g T cs)
    (hu : P.underlying ty = some d) (hd : (match d with | .struct _ | .array _ _ => true | _ => false) = true) (hi : (P.info? ty).map (·.size) = some cs.size) :
    (results fn tmps).run P w = .ok (.tuple #[.agg cs, tmps.getD u undef, tmps.getD v undef]) w := by
  have hp' : tmps[p]?.getD undef = .pointer (some ⟨g, 0, none⟩) := by simpa using hp
  simp [results, h, hp', asAddr, run_loadVar_row w g T ty cs (0, 0) d hg hu hd hi]
theorem below_set {B b : Nat} {w0 w : World} (h : Below B w0 w ∧ B ≤ w.heap.size) (hb : B ≤ b) (j : Nat) (v : Value) : Below B w0 (w.setCell ⟨b, j, none⟩ v) ∧ B ≤ (w.setCell ⟨b, j, none⟩ v).heap.size :=
  have hc := Chg.setCell w b j v
  ⟨h.1.trans (hc.below h.2 fun k hk => by have hk : k = b := hk; omega), Nat.le_trans h.2 hc.size⟩
theorem Blk.row {w : World} {p : Nat} {T : TypeId} {cs : Array Value} (h : Blk w p T cs) (c2 : Array Value) : Blk (w.setRow p c2) p T c2 := setRow_heap w p cs c2 T _ h
theorem Chg.setRow (w : World) (g : Nat) (cs : Array Value) : Chg w (w.setRow g cs) (fun k => k = g) :=
  ⟨rfl, rfl, rfl, by simp, fun k _ hk => setRow_other w g k cs hk⟩

theorem RecsV.none5 (w : World) : RecsV w (.slice none 0 0) [] :=
  ⟨none, 0, fun _ => undef, rfl, Nat.le_refl _, Nat.zero_le _, At.none0 rfl, fun i r h => by simp at h⟩
theorem Bat.bytes_len0 (b : Bat) (h : b.recs = []) : b.bytes.length = 50 := by
  have h1 := b.head_len
  unfold Bat.bytes Bat.front Bat.summed Bat.body
  rw [h]
  simp only [List.length_append, wire.be_len, h1, List.take_nil, List.map_nil, List.flatten_nil, List.length_nil]

def lim.rec (i : Nat) : Rec := ⟨i, 0, false, [], false, []⟩
def lim.recs (s n : Nat) : List Rec := (List.range' s n).map lim.rec
def lim.cells (i : Nat) : List Value := [.int .i64 (i : Int), .int .i64 0, .bool false, .slice none 0 0, .bool false, .slice none 0 0]
def lim.row (n : Nat) : List Value := ((List.range n).map lim.cells).flatten
theorem lim.row_len (n : Nat) : (lim.row n).length = n * 6 := by
  induction n with
  | zero => rfl
  | succ n ih =>
    unfold lim.row at ih ⊢
    rw [List.range_succ, List.map_append, List.flatten_append, List.length_append, ih]
    show n * 6 + 6 = _
    omega
theorem lim.row_succ (n : Nat) : lim.row (n + 1) = lim.row n ++ lim.cells n := by
  unfold lim.row
  rw [List.range_succ, List.map_append, List.flatten_append]
  simp
theorem lim.row_get (n : Nat) : ∀ i k, i < n → k < 6 → (lim.row n).getD (i * 6 + k) undef = (lim.cells i).getD k undef := by
  induction n with
  | zero => intro i k h; omega
  | succ n ih =>
    intro i k hi hk
    have hl := lim.row_len n
    rw [lim.row_succ]
    rcases Nat.lt_or_ge i n with h | h
    · have := ih i k h hk
      rw [← this]
      simp only [List.getD, List.getElem?_append_left (show i * 6 + k < (lim.row n).length by omega)]
    · obtain rfl : i = n := by omega
      simp only [List.getD, List.getElem?_append_right (show (lim.row i).length ≤ i * 6 + k by omega)]
      rw [hl, show i * 6 + k - i * 6 = k by omega]
theorem lim.recs_len (s n : Nat) : (lim.recs s n).length = n := by unfold lim.recs; simp
theorem lim.recs_get (n i : Nat) (r : Rec) (h : (lim.recs 0 n)[i]? = some r) : r = lim.rec i := by
  obtain ⟨h1, h2⟩ := List.getElem?_eq_some_iff.1 h
  rw [← h2]
  simp [lim.recs]
theorem sum_le_all {α : Type} (f : α → Int) (m : Int) (rs : List α) (h : ∀ r ∈ rs, f r ≤ m) : (rs.map f).sum ≤ m * rs.length := by
  induction rs with
  | nil => simp
  | cons r rs ih =>
    have h1 := h r (List.mem_cons_self ..)
    have h2 := ih fun x hx => h x (List.mem_cons_of_mem _ hx)
    simp only [List.map_cons, List.sum_cons, List.length_cons]
    rw [show ((rs.length + 1 : Nat) : Int) = (rs.length : Int) + 1 by omega, Int.mul_add]
    omega
theorem lim.chks (last : Int) (n : Nat) : ∀ s : Nat, (s : Int) + n - 1 ≤ last → bat.chks last ((s : Int) - 1) (lim.recs s n) = 0 := by
  induction n with
  | zero => intro s _; rfl
  | succ n ih =>
    intro s hs
    unfold lim.recs
    rw [List.range'_succ, List.map_cons, bat.chks_cons, if_neg (by show ¬ ((s : Int) ≤ s - 1 ∨ last < (s : Int)); omega), if_neg (by unfold lim.rec Rec.chk; simp)]
    have := ih (s + 1) (by omega)
    unfold lim.recs at this
    rw [show ((s + 1 : Nat) : Int) - 1 = (lim.rec s).off by show ((s + 1 : Nat) : Int) - 1 = (s : Int); omega] at this
    exact this
def lim.bat (n : Nat) : Bat := ⟨0, max ((n : Int) - 1) 0, 0, 0, 0, lim.recs 0 n⟩
theorem lim.bat_check (n : Nat) (h : n ≤ 110) : (lim.bat n).check = if 100 < n then 3 else 0 := by
  have hmay : (lim.bat n).may := by unfold lim.bat Bat.may; simp; omega
  have hl : (lim.bat n).recs.length = n := lim.recs_len 0 n
  have hc : bat.chks (lim.bat n).last ((lim.bat n).base - 1) (lim.bat n).recs = 0 := by
    have := lim.chks (max ((n : Int) - 1) 0) n 0 (by omega)
    exact this
  have hs : ¬ 65536 < (lim.bat n).size := by
    have h2 : (lim.bat n).size ≤ 50 + 50 * ((lim.bat n).recs.length : Int) := by
      unfold Bat.size Bat.sum
      have := sum_le_all (fun r => ((num.widI (r.body (Bat.first (lim.bat n).recs) (lim.bat n).base) : Nat) : Int) + r.body (Bat.first (lim.bat n).recs) (lim.bat n).base) 50 (lim.bat n).recs (fun r hr => by
        obtain ⟨i, hi⟩ := List.mem_iff_getElem?.1 hr
        obtain rfl := lim.recs_get n i r hi
        have z0 := num.widI_le ((lim.rec i).body (Bat.first (lim.bat n).recs) (lim.bat n).base)
        have z1 := num.widI_le ((lim.rec i).time - Bat.first (lim.bat n).recs)
        have z2 := num.widI_le ((lim.rec i).off - (lim.bat n).base)
        have z3 := num.widI_le (bat.len (lim.rec i).hasKey (lim.rec i).key.length)
        have z4 := num.widI_le (bat.len (lim.rec i).hasVal (lim.rec i).val.length)
        have k1 : (lim.rec i).key.length = 0 := rfl
        have k2 : (lim.rec i).val.length = 0 := rfl
        have hb : (lim.rec i).body (Bat.first (lim.bat n).recs) (lim.bat n).base ≤ 40 := by unfold Rec.body; omega
        show ((num.widI ((lim.rec i).body (Bat.first (lim.bat n).recs) (lim.bat n).base) : Nat) : Int) + (lim.rec i).body (Bat.first (lim.bat n).recs) (lim.bat n).base ≤ 50
        omega)
      omega
    rw [hl] at h2
    omega
  unfold Bat.check
  rw [if_neg (fun h => h hmay), hl, hc]
  simp only [ne_eq, not_true, if_false]
  rw [if_neg hs]
theorem bat.infoRec : (Try.prog.info? 37).map (fun i => (i.zero, i.size, i.bytes)) = some (some (.agg #[.int .i64 0, .int .i64 0, .bool false, .slice none 0 0, .bool false, .slice none 0 0]), 6, 80) := by kernel_rfl
theorem lim.recsV {w : World} {base : Nat} {v : Value} {n : Nat} (h : w.ownsRow base 37 6 v n (lim.row n)) (hn : n ≤ 110) : ∃ A c, v = .slice A n c ∧ RecsV w (.slice A (lim.recs 0 n).length c) (lim.recs 0 n) := by
  obtain ⟨A, c, rfl, hc, hat⟩ := own_at h
  refine ⟨A, c, rfl, A, c, _, rfl, by rw [lim.recs_len]; exact hc, own_cap h, by rw [lim.recs_len]; exact hat, fun i r hi => ?_⟩
  have hlt : i < n := by have := (List.getElem?_eq_some_iff.1 hi).1; rwa [lim.recs_len] at this
  obtain rfl := lim.recs_get n i r hi
  have hb : BytesV w (.slice none 0 0) [] := ⟨none, 0, rfl, fun h => absurd h (by simp), Nat.le_refl _, Nat.zero_le _, fun x hx => by cases hx⟩
  refine ⟨.slice none 0 0, .slice none 0 0, ?_, hb, hb, by unfold i64ok lim.rec; simp; omega, by unfold i64ok lim.rec; simp⟩
  have hg := fun k hk => lim.row_get n i k hlt hk
  show (List.range 6).map (fun j => (lim.row n).getD (i * 6 + j) undef) = _
  simp only [List.range, List.range.loop, List.map_cons, List.map_nil]
  rw [hg 0 (by omega), hg 1 (by omega), hg 2 (by omega), hg 3 (by omega), hg 4 (by omega), hg 5 (by omega)]
  rfl
end Go.Proofs.Ytkkpbnhagobhmaa

/- batch: the records that the law BatchLimits makes. -/
import Derived.Test.YtahncanmfjmfnaaBlk
import Derived.Laws.Rows
import Derived.Laws.ResultCell
import Derived.Test.YtahncanmfjmfnaaBtF
import Derived.Test.YtahncanmfjmfnaaRdY
import Derived.Test.YtahncanmfjmfnaaRdB
namespace Go.Proofs.Ytahncanmfjmfnaa
open Go.RowKit

theorem res_cell2 {P : Program} {fn : Func} {p u : Tmp} {ty T : TypeId} (h : fn.results = #[.cell p ty, .tmp u]) (tmps : Array Value) (w : World) (g : Nat) (cs : Array Value) (d : TypeDesc) (hp : tmps.getD p undef = .pointer (some ⟨g, 0, none⟩)) (hg : Blk w g T cs)
    (hu : P.underlying ty = some d) (hd : (match d with | .struct _ | .array _ _ => true | _ => false) = true) (hi : (P.info? ty).map (·.size) = some cs.size) :
    (results fn tmps).run P w = .ok (.tuple #[.agg cs, tmps.getD u undef]) w := by
  have hp' : tmps[p]?.getD undef = .pointer (some ⟨g, 0, none⟩) := by simpa using hp
  simp [results, h, hp', asAddr, run_loadVar_row w g T ty cs (0, 0) d hg hu hd hi]
theorem res_cell3 {P : Program} {fn : Func} {p u v : Tmp} {ty T : TypeId} (h : fn.results = #[.cell p ty, .tmp u, .tmp v]) (tmps : Array Value) (w : World) (g : Nat) (cs : Array Value) (d : TypeDesc) (hp : tmps.getD p undef = .pointer (some ⟨g, 0, none⟩)) (hg : Blk w g T cs)
    (hu : P.underlying ty = some d) (hd : (match d with | .struct _ | .array _ _ => true | _ => false) = true) (hi : (P.info? ty).map (·.size) = some cs.size) :
    (results fn tmps).run P w = .ok (.tuple #[.agg cs, tmps.getD u undef, tmps.getD v undef]) w := by
  have hp' : tmps[p]?.getD undef = .pointer (some ⟨g, 0, none⟩) := by simpa using hp
  simp [results, h, hp', asAddr, run_loadVar_row w g T ty cs (0, 0) d hg hu hd hi]
theorem below_set {B b : Nat} {w0 w : World} (h : Below B w0 w ∧ B ≤ w.heap.size) (hb : B ≤ b) (j : Nat) (v : Value) : Below B w0 (w.setCell ⟨b, j, none⟩ v) ∧ B ≤ (w.setCell ⟨b, j, none⟩ v).heap.size :=
  have hc := Chg.setCell w b j v
  ⟨h.1.trans (hc.below h.2 fun k hk => by have hk : k = b := hk; omega), Nat.le_trans h.2 hc.size⟩
theorem Blk.row {w : World} {p : Nat} {T : TypeId} {cs : Array Value} (h : Blk w p T cs) (c2 : Array Value) : Blk (w.setRow p c2) p T c2 := setRow_heap w p cs c2 T _ h
theorem Chg.setRow (w : World) (g : Nat) (cs : Array Value) : Chg w (w.setRow g cs) (fun k => k = g) :=
  ⟨rfl, rfl, rfl, by simp, fun k _ hk => setRow_other w g k cs hk⟩

theorem bat.info6 : (Try.prog.info? 42).map (·.size) = some 6 := by kernel_rfl
theorem RecsV.none5 (w : World) : RecsV w (.slice none 0 0) [] :=
  ⟨none, 0, fun _ => undef, rfl, Nat.le_refl _, Nat.zero_le _, At.none0 rfl, fun i r h => by simp at h⟩
theorem Bat.bytes_len0 (b : Bat) (h : b.recs = []) : b.bytes.length = 50 := by
  have h1 := b.head_len
  unfold Bat.bytes Bat.front Bat.summed Bat.body
  rw [h]
  simp only [List.length_append, wire.be_len, h1, List.take_nil, List.map_nil, List.flatten_nil, List.length_nil]

set_option maxRecDepth 20000 in
set_option maxHeartbeats 1000000 in
theorem bat.first_nil (w : World) :
    Calls Try.prog 57 #[.slice none 0 0] w fun e w' => e = .returned (.tuple #[.agg #[.int .i64 0, .int .i64 0, .int .i64 0, .int .i64 0, .int .i64 0, .slice none 0 0], .int .i64 0, .int .i64 2]) ∧ Below w.heap.size w w' := by
  go_enter Try.func57, Try.ntmps57
  go_wp2_with fail
  obtain ⟨w1, hw1⟩ : ∃ w1, w1 = w.alloc (.cells #[.int .i64 0, .int .i64 0, .int .i64 0, .int .i64 0, .int .i64 0, .slice none 0 0] 42) := ⟨_, rfl⟩
  try rw [← hw1]
  have hbk : Blk w1 w.heap.size 42 #[.int .i64 0, .int .i64 0, .int .i64 0, .int .i64 0, .int .i64 0, .slice none 0 0] := by rw [hw1]; exact Blk.new _ _ _
  have hb1 : Below w.heap.size w w1 := by rw [hw1]; exact (Below.refl _ w).alloc (Nat.le_refl _) _
  clear hw1
  have HBK := Lib.hid hbk; clear hbk
  have HB1 := Lib.hid hb1; clear hb1
  refine (wire.borrow_at none 0 [] w1 (At.none0 rfl) (Nat.le_refl _) (Nat.zero_le _) (fun _ h => by cases h)).mono ?_
  rintro e w2 ⟨r, rfl, hr, hle, hb2⟩
  have hne : w.heap.size ≠ r := by have := HBK.out.lt; omega
  have hge : w.heap.size ≤ r := by have := HBK.out.lt; omega
  have HR := Lib.hid hr; clear hr
  have hk2 := (chg_of (P := fun _ => False) hb2).blk HBK.out id
  have HB2 := Lib.hid (HB1.out.trans (hb2.mono HB1.out.size)); clear hb2
  have c0 := hk2.cell 0 (v := .int .i64 0) rfl
  have f0 := hk2.frozen 0
  have HK2 := Lib.hid hk2; clear hk2
  go_wp2_with fail
  have hf1 := wire.rfixed_any r none 0 [] 0 8 w2 HR.out
  rw [show rd.fixed [] 0 8 = (0, [], 2) by decide] at hf1
  refine hf1.mono ?_
  clear hf1
  rintro e w3 ⟨rfl, ⟨A3, c3, hr3⟩, hc3⟩
  have hk3 := hc3.blk HK2.out hne
  have hb3 : Below w.heap.size w w3 := HB2.out.trans (hc3.below HB2.out.size fun k hk => by have hk : k = r := hk; omega)
  clear hc3 c0 f0
  have HR3 := Lib.hid hr3; clear hr3
  have HB3 := Lib.hid hb3; clear hb3
  have c0 := hk3.cell 0 (v := .int .i64 0) rfl
  have f0 := hk3.frozen 0
  have HK3 := Lib.hid hk3; clear hk3
  go_wp2_with fail
  obtain ⟨w4, hw4⟩ : ∃ w4, w4 = w3.setCell ⟨w.heap.size, 0, none⟩ (.int .i64 0) := ⟨_, rfl⟩
  rw [← hw4]
  have hch : Chg w3 w4 (fun k => k = w.heap.size) := by rw [hw4]; exact Chg.setCell w3 _ 0 _
  have hk4 : Blk w4 w.heap.size 42 #[.int .i64 0, .int .i64 0, .int .i64 0, .int .i64 0, .int .i64 0, .slice none 0 0] := by rw [hw4]; exact HK3.out.set 0 _
  have hr4 : Rd w4 r A3 c3 [] 2 := ⟨hch.blk HR3.out.blk fun h => hne h.symm, At.none0 rfl, HR3.out.len, HR3.out.cap, HR3.out.byte⟩
  have hb4 : Below w.heap.size w w4 := HB3.out.trans (hch.below HB3.out.size fun k hk => by have hk : k = w.heap.size := hk; omega)
  clear hw4 hch c0 f0
  have HK4 := Lib.hid hk4; clear hk4
  have HR4 := Lib.hid hr4; clear hr4
  have HB4 := Lib.hid hb4; clear hb4
  have hf1 := wire.rfixed_any r A3 c3 [] 2 4 w4 HR4.out
  rw [show rd.fixed [] 2 4 = (0, [], 2) by decide] at hf1
  refine hf1.mono ?_
  clear hf1
  rintro e w5 ⟨rfl, ⟨A5, cap5, hr5⟩, hc5⟩
  have hk5 := hc5.blk HK4.out hne
  have hb5 : Below w.heap.size w w5 := HB4.out.trans (hc5.below HB4.out.size fun k hk => by have hk : k = r := hk; omega)
  clear hc5
  have HR5 := Lib.hid hr5; clear hr5
  have HB5 := Lib.hid hb5; clear hb5
  have c0 : w5.cell? ⟨w.heap.size, 0, none⟩ = some (.int .i64 0) := hk5.cell 0 rfl
  have f0 : w5.frozen? ⟨w.heap.size, 0, none⟩ = false := hk5.frozen 0
  have c1 : w5.cell? ⟨w.heap.size, 1, none⟩ = some (.int .i64 0) := hk5.cell 1 rfl
  have f1 : w5.frozen? ⟨w.heap.size, 1, none⟩ = false := hk5.frozen 1
  have c2 : w5.cell? ⟨w.heap.size, 2, none⟩ = some (.int .i64 0) := hk5.cell 2 rfl
  have f2 : w5.frozen? ⟨w.heap.size, 2, none⟩ = false := hk5.frozen 2
  have c3 : w5.cell? ⟨w.heap.size, 3, none⟩ = some (.int .i64 0) := hk5.cell 3 rfl
  have f3 : w5.frozen? ⟨w.heap.size, 3, none⟩ = false := hk5.frozen 3
  have c4 : w5.cell? ⟨w.heap.size, 4, none⟩ = some (.int .i64 0) := hk5.cell 4 rfl
  have f4 : w5.frozen? ⟨w.heap.size, 4, none⟩ = false := hk5.frozen 4
  have c5 : w5.cell? ⟨w.heap.size, 5, none⟩ = some (.slice none 0 0) := hk5.cell 5 rfl
  have f5 : w5.frozen? ⟨w.heap.size, 5, none⟩ = false := hk5.frozen 5
  have HK5 := Lib.hid hk5; clear hk5
  go_wp2_with fail
  refine (wire.err_any r A5 cap5 [] 2 w5 HR5.out).mono ?_
  rintro e wx ⟨rfl, rfl⟩
  go_wp2_with fail
  have hk6 := ((((((HK5.out.set 0 (.int .i64 0)).set 1 (.int .i64 0)).set 2 (.int .i64 0)).set 3 (.int .i64 0)).set 4 (.int .i64 0)).set 5 (.slice none 0 0))
  refine bodyPost_ret (res_cell3 rfl _ _ _ _ _ rfl hk6 Try.underlying42 rfl bat.info6) rfl ?_
  exact ⟨rfl, (below_set (below_set (below_set (below_set (below_set (below_set ⟨HB5.out, HB5.out.size⟩ (Nat.le_refl _) 0 _) (Nat.le_refl _) 1 _) (Nat.le_refl _) 2 _) (Nat.le_refl _) 3 _) (Nat.le_refl _) 4 _) (Nat.le_refl _) 5 _).1⟩

set_option maxRecDepth 20000 in
set_option maxHeartbeats 1000000 in
theorem bat.decode_nil (w : World) :
    Calls Try.prog 35 #[.slice none 0 0] w fun e w' => e = .returned (.tuple #[.agg #[.int .i64 0, .int .i64 0, .int .i64 0, .int .i64 0, .int .i64 0, .slice none 0 0], .int .i64 2]) ∧ Below w.heap.size w w' := by
  have hf := fun wx => bat.first_nil wx
  have HF := Lib.hid hf; clear hf
  go_enter Try.func35, Try.ntmps35
  go_wp2_with fail
  have hbk : Blk (w.alloc (.cells #[.int .i64 0, .int .i64 0, .int .i64 0, .int .i64 0, .int .i64 0, .slice none 0 0] 42)) w.heap.size 42 #[.int .i64 0, .int .i64 0, .int .i64 0, .int .i64 0, .int .i64 0, .slice none 0 0] := Blk.new _ _ _
  have hb1 : Below w.heap.size w (w.alloc (.cells #[.int .i64 0, .int .i64 0, .int .i64 0, .int .i64 0, .int .i64 0, .slice none 0 0] 42)) := (Below.refl _ w).alloc (Nat.le_refl _) _
  refine (HF.out _).mono ?_
  rintro e w5 ⟨rfl, hb2⟩
  have hk5 := (chg_of (P := fun _ => False) hb2).blk hbk id
  have HB5 := Lib.hid (hb1.trans (hb2.mono hb1.size)); clear hb1 hb2 hbk
  have hlt := hk5.lt
  have HK5 := Lib.hid hk5; clear hk5
  have hk6 := (Chg.alloc w5 (.cells #[.int .i64 0, .int .i64 0, .int .i64 0, .int .i64 0, .int .i64 0, .slice none 0 0] 42) (fun _ => False)).blk HK5.out id
  have HK6 := Lib.hid hk6; clear hk6
  go_wp2_with (show Go.wpList _ _ _ (⟨_, .store _ (.tmp 2) (.tmp 21), _, _, _, _⟩ :: _) _ _; go_loud (refine wpList_store_row rfl 42 (.tmp 2) (.tmp 21) rfl w.heap.size #[.int .i64 0, .int .i64 0, .int .i64 0, .int .i64 0, .int .i64 0, .slice none 0 0] rfl rfl _ _ HK6.out bat.info6 rfl (by simp [Value.oneCell']) ?_))

  have hk7 := HK6.out.row #[.int .i64 0, .int .i64 0, .int .i64 0, .int .i64 0, .int .i64 0, .slice none 0 0]
  have hb6 := HB5.out.alloc HB5.out.size (.cells #[.int .i64 0, .int .i64 0, .int .i64 0, .int .i64 0, .int .i64 0, .slice none 0 0] 42)
  refine bodyPost_ret (res_cell2 rfl _ _ _ _ _ rfl hk7 Try.underlying42 rfl bat.info6) rfl ?_
  exact ⟨rfl, hb6.trans ((Chg.setRow _ _ _).below hb6.size fun k hk => by have hk : k = w.heap.size := hk; omega)⟩

def lim.rec (i : Nat) : Rec := ⟨i, 0, false, [], false, []⟩
def lim.recs (s n : Nat) : List Rec := (List.range' s n).map lim.rec
def lim.cells (i : Nat) : List Value := [.int .i64 (i : Int), .int .i64 0, .bool false, .slice none 0 0, .bool false, .slice none 0 0]
def lim.row (n : Nat) : List Value := ((List.range n).map lim.cells).flatten
theorem lim.row_len (n : Nat) : (lim.row n).length = n * 6 := by
  induction n with
  | zero => rfl
  | succ n ih =>
    unfold lim.row at ih ⊢
    rw [List.range_succ, List.map_append, List.flatten_append, List.length_append, ih]
    show n * 6 + 6 = _
    omega
theorem lim.row_succ (n : Nat) : lim.row (n + 1) = lim.row n ++ lim.cells n := by
  unfold lim.row
  rw [List.range_succ, List.map_append, List.flatten_append]
  simp
theorem lim.row_get (n : Nat) : ∀ i k, i < n → k < 6 → (lim.row n).getD (i * 6 + k) undef = (lim.cells i).getD k undef := by
  induction n with
  | zero => intro i k h; omega
  | succ n ih =>
    intro i k hi hk
    have hl := lim.row_len n
    rw [lim.row_succ]
    rcases Nat.lt_or_ge i n with h | h
    · have := ih i k h hk
      rw [← this]
      simp only [List.getD, List.getElem?_append_left (show i * 6 + k < (lim.row n).length by omega)]
    · obtain rfl : i = n := by omega
      simp only [List.getD, List.getElem?_append_right (show (lim.row i).length ≤ i * 6 + k by omega)]
      rw [hl, show i * 6 + k - i * 6 = k by omega]
theorem lim.recs_len (s n : Nat) : (lim.recs s n).length = n := by unfold lim.recs; simp
theorem lim.recs_get (n i : Nat) (r : Rec) (h : (lim.recs 0 n)[i]? = some r) : r = lim.rec i := by
  obtain ⟨h1, h2⟩ := List.getElem?_eq_some_iff.1 h
  rw [← h2]
  simp [lim.recs]
theorem sum_le_all {α : Type} (f : α → Int) (m : Int) (rs : List α) (h : ∀ r ∈ rs, f r ≤ m) : (rs.map f).sum ≤ m * rs.length := by
  induction rs with
  | nil => simp
  | cons r rs ih =>
    have h1 := h r (List.mem_cons_self ..)
    have h2 := ih fun x hx => h x (List.mem_cons_of_mem _ hx)
    simp only [List.map_cons, List.sum_cons, List.length_cons]
    rw [show ((rs.length + 1 : Nat) : Int) = (rs.length : Int) + 1 by omega, Int.mul_add]
    omega
theorem lim.chks (last : Int) (n : Nat) : ∀ s : Nat, (s : Int) + n - 1 ≤ last → bat.chks last ((s : Int) - 1) (lim.recs s n) = 0 := by
  induction n with
  | zero => intro s _; rfl
  | succ n ih =>
    intro s hs
    unfold lim.recs
    rw [List.range'_succ, List.map_cons, bat.chks_cons, if_neg (by show ¬ ((s : Int) ≤ s - 1 ∨ last < (s : Int)); omega), if_neg (by unfold lim.rec Rec.chk; simp)]
    have := ih (s + 1) (by omega)
    unfold lim.recs at this
    rw [show ((s + 1 : Nat) : Int) - 1 = (lim.rec s).off by show ((s + 1 : Nat) : Int) - 1 = (s : Int); omega] at this
    exact this
def lim.bat (n : Nat) : Bat := ⟨0, max ((n : Int) - 1) 0, 0, 0, 0, lim.recs 0 n⟩
theorem lim.bat_check (n : Nat) (h : n ≤ 110) : (lim.bat n).check = if 100 < n then 3 else 0 := by
  have hmay : (lim.bat n).may := by unfold lim.bat Bat.may; simp; omega
  have hl : (lim.bat n).recs.length = n := lim.recs_len 0 n
  have hc : bat.chks (lim.bat n).last ((lim.bat n).base - 1) (lim.bat n).recs = 0 := by
    have := lim.chks (max ((n : Int) - 1) 0) n 0 (by omega)
    exact this
  have hs : ¬ 65536 < (lim.bat n).size := by
    have h2 : (lim.bat n).size ≤ 50 + 50 * ((lim.bat n).recs.length : Int) := by
      unfold Bat.size Bat.sum
      have := sum_le_all (fun r => ((num.widI (r.body (Bat.first (lim.bat n).recs) (lim.bat n).base) : Nat) : Int) + r.body (Bat.first (lim.bat n).recs) (lim.bat n).base) 50 (lim.bat n).recs (fun r hr => by
        obtain ⟨i, hi⟩ := List.mem_iff_getElem?.1 hr
        obtain rfl := lim.recs_get n i r hi
        have z0 := num.widI_le ((lim.rec i).body (Bat.first (lim.bat n).recs) (lim.bat n).base)
        have z1 := num.widI_le ((lim.rec i).time - Bat.first (lim.bat n).recs)
        have z2 := num.widI_le ((lim.rec i).off - (lim.bat n).base)
        have z3 := num.widI_le (bat.len (lim.rec i).hasKey (lim.rec i).key.length)
        have z4 := num.widI_le (bat.len (lim.rec i).hasVal (lim.rec i).val.length)
        have k1 : (lim.rec i).key.length = 0 := rfl
        have k2 : (lim.rec i).val.length = 0 := rfl
        have hb : (lim.rec i).body (Bat.first (lim.bat n).recs) (lim.bat n).base ≤ 40 := by unfold Rec.body; omega
        show ((num.widI ((lim.rec i).body (Bat.first (lim.bat n).recs) (lim.bat n).base) : Nat) : Int) + (lim.rec i).body (Bat.first (lim.bat n).recs) (lim.bat n).base ≤ 50
        omega)
      omega
    rw [hl] at h2
    omega
  unfold Bat.check
  rw [if_neg (fun h => h hmay), hl, hc]
  simp only [ne_eq, not_true, if_false]
  rw [if_neg hs]
theorem bat.infoRec : (Try.prog.info? 44).map (fun i => (i.zero, i.size, i.bytes)) = some (some (.agg #[.int .i64 0, .int .i64 0, .bool false, .slice none 0 0, .bool false, .slice none 0 0]), 6, 80) := by kernel_rfl
theorem lim.recsV {w : World} {base : Nat} {v : Value} {n : Nat} (h : w.ownsRow base 44 6 v n (lim.row n)) (hn : n ≤ 110) : ∃ A c, v = .slice A n c ∧ RecsV w (.slice A (lim.recs 0 n).length c) (lim.recs 0 n) := by
  obtain ⟨A, c, rfl, hc, hat⟩ := own_at h
  refine ⟨A, c, rfl, A, c, _, rfl, by rw [lim.recs_len]; exact hc, own_cap h, by rw [lim.recs_len]; exact hat, fun i r hi => ?_⟩
  have hlt : i < n := by have := (List.getElem?_eq_some_iff.1 hi).1; rwa [lim.recs_len] at this
  obtain rfl := lim.recs_get n i r hi
  have hb : BytesV w (.slice none 0 0) [] := ⟨none, 0, rfl, fun h => absurd h (by simp), Nat.le_refl _, Nat.zero_le _, fun x hx => by cases hx⟩
  refine ⟨.slice none 0 0, .slice none 0 0, ?_, hb, hb, by unfold i64ok lim.rec; simp; omega, by unfold i64ok lim.rec; simp⟩
  have hg := fun k hk => lim.row_get n i k hlt hk
  show (List.range 6).map (fun j => (lim.row n).getD (i * 6 + j) undef) = _
  simp only [List.range, List.range.loop, List.map_cons, List.map_nil]
  rw [hg 0 (by omega), hg 1 (by omega), hg 2 (by omega), hg 3 (by omega), hg 4 (by omega), hg 5 (by omega)]
  rfl
end Go.Proofs.Ytahncanmfjmfnaa

/- fold: a copy of a record (copyRecord). -/
import Derived.Laws.Rows
import Derived.Laws.Tables
import Derived.Deep.Cut
import Derived.Test.YtnlfdhoabbbheaaEch
import Derived.Test.YtnlfdhoabbbheaaBats
namespace Go.Proofs.Ytnlfdhoabbbheaa
open Go.RowKit
set_option maxRecDepth 20000

theorem res_cell1 {P : Program} {fn : Func} {p : Tmp} {ty T : TypeId} (h : fn.results = #[.cell p ty]) (tmps : Array Value) (w : World) (g : Nat) (cs : Array Value) (d : TypeDesc) (hp : tmps.getD p undef = .pointer (some ⟨g, 0, none⟩)) (hg : Blk w g T cs)
    (hu : P.underlying ty = some d) (hd : (match d with | .struct _ | .array _ _ => true | _ => false) = true) (hi : (P.info? ty).map (·.size) = some cs.size) :
    (results fn tmps).run P w = .ok (.agg cs) w := by
  have hp' : tmps[p]?.getD undef = .pointer (some ⟨g, 0, none⟩) := by simpa using hp
  simp [results, h, hp', asAddr, run_loadVar_row w g T ty cs (0, 0) d hg hu hd hi]
theorem fo.blk_row {w : World} {p : Nat} {T : TypeId} {cs : Array Value} (h : Blk w p T cs) (c2 : Array Value) : Blk (w.setRow p c2) p T c2 := setRow_heap w p cs c2 T _ h
theorem fo.chg_row (w : World) (g : Nat) (cs : Array Value) : Chg w (w.setRow g cs) (fun k => k = g) :=
  ⟨rfl, rfl, rfl, by simp, fun k _ hk => setRow_other w g k cs hk⟩
theorem fo.info6 : (Try.prog.info? 34).map (·.size) = some 6 := by kernel_rfl
/-- The cells of a record, wherever its key and its value lie. -/
def fo.cells (r : Rec) (Ak : Option Addr) (nk ck : Nat) (Av : Option Addr) (nv cv : Nat) : Array Value := #[.int .i64 r.off, .int .i64 r.time, .bool r.hasKey, .slice Ak nk ck, .bool r.hasVal, .slice Av nv cv]
/-- A slice of one's own. -/
def fo.Own (B : Nat) (w : World) (A : Option Addr) (n c : Nat) (L : List Nat) : Prop := At w A n (byteAt L) ∧ n ≤ c ∧ c ≤ maxLen ∧ (0 < n → ∀ b off, A = some ⟨b, off, none⟩ → B ≤ b) ∧ ∀ k, (Value.slice A n c).ownBlock = some k → B ≤ k ∧ k < w.heap.size
theorem fo.Own.of {B : Nat} {w : World} {v : Value} {n : Nat} {L : List Nat} (h : w.ownsRow B 5 1 v n (u8s L)) : ∃ A c, v = .slice A n c ∧ fo.Own B w A n c L := by
  have hlt := h.lt
  obtain ⟨A, c, rfl, h1, -, h3⟩ := own_bytes h
  exact ⟨A, c, rfl, h3, h1, own_cap h, fun _ b off e => (hlt b (by rw [e]; rfl)).1, hlt⟩
theorem fo.Own.move {B : Nat} {w w' : World} {P : Nat → Prop} {A : Option Addr} {n c : Nat} {L : List Nat} (h : fo.Own B w A n c L) (hc : Chg w w' P) (hp : ∀ k, P k → k < B) : fo.Own B w' A n c L :=
  ⟨hc.at' h.1 fun hn b off e hk => by have := h.2.2.2.1 hn b off e; have := hp _ hk; omega, h.2.1, h.2.2.1, h.2.2.2.1, fun k hk => ⟨(h.2.2.2.2 k hk).1, Nat.lt_of_lt_of_le (h.2.2.2.2 k hk).2 hc.size⟩⟩
theorem fo.Own.up {B B' : Nat} {w : World} {A : Option Addr} {n c : Nat} {L : List Nat} (h : fo.Own B w A n c L) (hB : B' ≤ B) : fo.Own B' w A n c L :=
  ⟨h.1, h.2.1, h.2.2.1, fun hn b off e => Nat.le_trans hB (h.2.2.2.1 hn b off e), fun k hk => ⟨Nat.le_trans hB (h.2.2.2.2 k hk).1, (h.2.2.2.2 k hk).2⟩⟩
theorem fo.Own.below {B : Nat} {w w' : World} {A : Option Addr} {n c : Nat} {L : List Nat} (h : fo.Own B w A n c L) (hb : Below w.heap.size w w') : fo.Own B w' A n c L := h.move (chg_of (P := fun _ => False) hb) fun _ q => q.elim

def fo.CopyPost (r : Rec) (nk nv : Nat) (w : World) (e : Ending) (w' : World) : Prop :=
  ∃ Ak ck Av cv, e = .returned (.agg (fo.cells r Ak nk ck Av nv cv)) ∧ fo.Own w.heap.size w' Ak nk ck r.key ∧ fo.Own w.heap.size w' Av nv cv r.val ∧ Below w.heap.size w w'
set_option maxHeartbeats 2000000 in
theorem fo.copy_any (r : Rec) (Ak : Option Addr) (nk ck : Nat) (Av : Option Addr) (nv cv : Nat) (w : World) (hk : At w Ak nk (byteAt r.key)) (hkl : r.key.length = nk) (hk1 : nk ≤ 1000000) (hv : At w Av nv (byteAt r.val)) (hvl : r.val.length = nv) (hv1 : nv ≤ 1000000) :
    Calls Try.prog 52 #[.agg (fo.cells r Ak nk ck Av nv cv)] w (fo.CopyPost r nk nv w) := by
  have HK := Lib.hid hk; clear hk
  have HV := Lib.hid hv; clear hv
  have HL := Lib.hid (And.intro hkl hvl); clear hkl hvl
  unfold fo.cells
  go_enter Try.func52, Try.ntmps52
  go_wp2_with fail
  obtain ⟨g, hg⟩ : ∃ g, g = w.heap.size := ⟨_, rfl⟩
  obtain ⟨w1, hw1⟩ : ∃ w1, w1 = (w.alloc (.cells #[.int .i64 r.off, .int .i64 r.time, .bool r.hasKey, .slice Ak nk ck, .bool r.hasVal, .slice Av nv cv] 34)).alloc (.cells #[.int .i64 0, .int .i64 0, .bool false, .slice none 0 0, .bool false, .slice none 0 0] 34) := ⟨_, rfl⟩
  rw [← hw1, ← hg]
  have hb1 : Below w.heap.size w w1 := by rw [hw1]; exact ((Below.refl _ _).alloc (Nat.le_refl _) _).alloc (by simp) _
  have hk1' : Blk w1 g 34 #[.int .i64 r.off, .int .i64 r.time, .bool r.hasKey, .slice Ak nk ck, .bool r.hasVal, .slice Av nv cv] := by rw [hw1, hg]; exact (Below.heap_alloc _ _ _ (by simp)).trans (Blk.new w _ _)
  have hz1 : Blk w1 (g + 1) 34 #[.int .i64 0, .int .i64 0, .bool false, .slice none 0 0, .bool false, .slice none 0 0] := by
    have h := Blk.new (w.alloc (.cells #[.int .i64 r.off, .int .i64 r.time, .bool r.hasKey, .slice Ak nk ck, .bool r.hasVal, .slice Av nv cv] 34)) 34 #[.int .i64 0, .int .i64 0, .bool false, .slice none 0 0, .bool false, .slice none 0 0]
    rw [World.size_alloc, ← hg, ← hw1] at h
    exact h
  have hs1 : w1.heap.size = g + 2 := by rw [hw1, hg]; simp
  have HG := Lib.hid hg; clear hw1 hg
  refine (clone_any Ak nk ck r.key w1 HL.out.1 (by omega) (HK.out.below hb1 (Nat.le_refl _))).mono ?_
  rintro e w2 ⟨⟨v, rfl, ho2⟩, hb2⟩
  rw [hs1] at ho2
  obtain ⟨A2, c2, rfl, hO2⟩ := fo.Own.of ho2
  have hk2 : Blk w2 g 34 #[.int .i64 r.off, .int .i64 r.time, .bool r.hasKey, .slice Ak nk ck, .bool r.hasVal, .slice Av nv cv] := (hb2.block g hk1'.lt).trans hk1'
  have hz2 : Blk w2 (g + 1) 34 #[.int .i64 0, .int .i64 0, .bool false, .slice none 0 0, .bool false, .slice none 0 0] := (hb2.block (g + 1) hz1.lt).trans hz1
  have hw12 : Below w.heap.size w w2 := hb1.trans (hb2.mono hb1.size)
  have c3 := hk2.cell 3 rfl
  have f3 := hk2.frozen 3
  have c5 := hk2.cell 5 rfl
  have H2 := Lib.hid (And.intro hk2 (And.intro hz2 (And.intro hw12 hO2))); clear hk2 hz2 hw12 hO2 hb1 hb2 hk1' hz1 ho2 hs1
  go_wp2_with fail
  clear c3 f3 c5
  obtain ⟨w3, hw3⟩ : ∃ w3, w3 = w2.setCell ⟨g, 3, none⟩ (.slice A2 nk c2) := ⟨_, rfl⟩
  rw [← hw3]
  have hc3 : Chg w2 w3 (fun k => k = g) := by rw [hw3]; exact Chg.setCell _ _ _ _
  have hk3 : Blk w3 g 34 #[.int .i64 r.off, .int .i64 r.time, .bool r.hasKey, .slice A2 nk c2, .bool r.hasVal, .slice Av nv cv] := by rw [hw3]; exact H2.out.1.set 3 _
  have hz3 : Blk w3 (g + 1) 34 #[.int .i64 0, .int .i64 0, .bool false, .slice none 0 0, .bool false, .slice none 0 0] := hc3.blk H2.out.2.1 (by omega)
  have hw13 : Below w.heap.size w w3 := H2.out.2.2.1.trans (hc3.below H2.out.2.2.1.size fun k hk => by have hk : k = g := hk; rw [hk, HG.out]; exact Nat.le_refl _)
  have hO3 : fo.Own (g + 2) w3 A2 nk c2 r.key := H2.out.2.2.2.move hc3 fun k hk => by have hk : k = g := hk; omega
  clear H2 hw3 hc3
  refine (clone_any Av nv cv r.val w3 HL.out.2 (by omega) (HV.out.below hw13 (Nat.le_refl _))).mono ?_
  rintro e w4 ⟨⟨v, rfl, ho4⟩, hb4⟩
  obtain ⟨A4, c4, rfl, hO4⟩ := fo.Own.of ho4
  have hg3 := hz3.lt
  have hO4 : fo.Own (g + 2) w4 A4 nv c4 r.val := hO4.up (by omega)
  have hO4k := hO3.below hb4
  have hk4 : Blk w4 g 34 #[.int .i64 r.off, .int .i64 r.time, .bool r.hasKey, .slice A2 nk c2, .bool r.hasVal, .slice Av nv cv] := (hb4.block g hk3.lt).trans hk3
  have hz4 : Blk w4 (g + 1) 34 #[.int .i64 0, .int .i64 0, .bool false, .slice none 0 0, .bool false, .slice none 0 0] := (hb4.block (g + 1) hz3.lt).trans hz3
  have hw14 : Below w.heap.size w w4 := hw13.trans (hb4.mono hw13.size)
  obtain ⟨w5, hw5⟩ : ∃ w5, w5 = w4.setCell ⟨g, 5, none⟩ (.slice A4 nv c4) := ⟨_, rfl⟩
  have hc5 : Chg w4 w5 (fun k => k = g) := by rw [hw5]; exact Chg.setCell _ _ _ _
  have hk5 : Blk w5 g 34 #[.int .i64 r.off, .int .i64 r.time, .bool r.hasKey, .slice A2 nk c2, .bool r.hasVal, .slice A4 nv c4] := by rw [hw5]; exact hk4.set 5 _
  have hz5 : Blk w5 (g + 1) 34 #[.int .i64 0, .int .i64 0, .bool false, .slice none 0 0, .bool false, .slice none 0 0] := hc5.blk hz4 (by omega)
  have c5 := hk4.cell 5 rfl
  have f5 := hk4.frozen 5
  have HW5 := Lib.hid hw5; clear hw5
  have hown5 : ∀ {A : Option Addr} {n c : Nat} {L : List Nat}, fo.Own (g + 2) w4 A n c L → fo.Own (g + 2) w5 A n c L := fun h => h.move hc5 fun k hk => by have hk : k = g := hk; omega
  have hw15 : Below w.heap.size w w5 := hw14.trans (hc5.below hw14.size fun k hk => by have hk : k = g := hk; rw [hk, HG.out]; exact Nat.le_refl _)
  have H5 := Lib.hid (And.intro (hown5 hO4k) (And.intro (hown5 hO4) hw15)); clear hown5 hO4k hO4 hw15 hw14 hw13 hc5 hk3 hz3 hO3 hb4 hk4 hz4 ho4 hg3
  have k0 := hk5.cell 0 rfl
  have k1 := hk5.cell 1 rfl
  have k2 := hk5.cell 2 rfl
  have k3 := hk5.cell 3 rfl
  have k4 := hk5.cell 4 rfl
  have k5 := hk5.cell 5 rfl
  have HZ := Lib.hid hz5; clear hz5 hk5
  go_upto_region 3 with fail
  rw [← HW5.out]
  clear HW5 c5 f5
  go_wp2_with (refine wpList_store_row rfl 34 (.tmp 2) (.tmp 11) rfl (g + 1) #[.int .i64 r.off, .int .i64 r.time, .bool r.hasKey, .slice A2 nk c2, .bool r.hasVal, .slice A4 nv c4] rfl rfl 34 _ HZ.out fo.info6 rfl (by simp [Value.oneCell']) ?_)
  have hc6 := fo.chg_row w5 (g + 1) #[.int .i64 r.off, .int .i64 r.time, .bool r.hasKey, .slice A2 nk c2, .bool r.hasVal, .slice A4 nv c4]
  have hz6 := fo.blk_row HZ.out #[.int .i64 r.off, .int .i64 r.time, .bool r.hasKey, .slice A2 nk c2, .bool r.hasVal, .slice A4 nv c4]
  generalize w5.setRow (g + 1) #[.int .i64 r.off, .int .i64 r.time, .bool r.hasKey, .slice A2 nk c2, .bool r.hasVal, .slice A4 nv c4] = w6 at *
  have hown6 : ∀ {A : Option Addr} {n c : Nat} {L : List Nat}, fo.Own (g + 2) w5 A n c L → fo.Own w.heap.size w6 A n c L := fun h => (h.move hc6 fun k hk => by have hk : k = g + 1 := hk; omega).up (by have := HG.out; omega)
  refine bodyPost_ret (res_cell1 rfl _ _ _ _ _ rfl hz6 Try.underlying34 rfl fo.info6) rfl ?_
  exact ⟨A2, c2, A4, c4, rfl, hown6 H5.out.1, hown6 H5.out.2.1, H5.out.2.2.trans (hc6.below H5.out.2.2.size fun k hk => by have hk : k = g + 1 := hk; have := HG.out; omega)⟩
end Go.Proofs.Ytnlfdhoabbbheaa

/- The document's side of cleaning (cordwainref10): Build, Stays, CleanSegment. -/
import Derived.Test.YtnlfdhoabbbheaaEch
import Derived.Test.YtnlfdhoabbbheaaConv
import Derived.Test.YtnlfdhoabbbheaaPlan
import Derived.OwnWalk
import Derived.Deep.Cut
import Derived.Test.YtnlfdhoabbbheaaClB
import Derived.Test.YtnlfdhoabbbheaaMapS
import Derived.Test.YtnlfdhoabbbheaaKeyA
import Derived.Sort.Walk0
import Derived.BigRegionIn
import Derived.Test.YtnlfdhoabbbheaaKit
import Derived.Test.YtnlfdhoabbbheaaPlanE
import Derived.Test.YtnlfdhoabbbheaaKbB
import Derived.Test.YtnlfdhoabbbheaaKbW
import Derived.Deep.LoopGhost
import Derived.BigQuiet
import Derived.Deep.QuietTactic
namespace Go.Proofs.Ytnlfdhoabbbheaa
open Go.RowKit Go.Maps
set_option maxRecDepth 100000

/-- A pair. -/
structure PItm where
  A : Option Addr
  k : Nat
  c : Nat
  bs : List Nat
  VA : Option Addr
  vk : Nat
  vc : Nat
  vs : List Nat
  off : Int
def PItm.cells (x : PItm) : List Value := [.slice x.A x.k x.c, .slice x.VA x.vk x.vc, .int .i64 x.off]
def pf.row (l : List PItm) : List Value := (l.map PItm.cells).flatten
theorem pf.row_len (l : List PItm) : (pf.row l).length = l.length * 3 := flat_len PItm.cells 3 (fun _ => rfl) l
theorem pf.row_append (a b : List PItm) : pf.row (a ++ b) = pf.row a ++ pf.row b := by simp [pf.row]
theorem pf.row_at {l : List PItm} {i : Nat} {x : PItm} (h : l[i]? = some x) : (pf.row l).getD (i * 3) undef = .slice x.A x.k x.c ∧ (pf.row l).getD (i * 3 + 1) undef = .slice x.VA x.vk x.vc ∧ (pf.row l).getD (i * 3 + 2) undef = .int .i64 x.off :=
  ⟨flat_get PItm.cells 3 (fun _ => rfl) l i 0 x h (by omega), flat_get PItm.cells 3 (fun _ => rfl) l i 1 x h (by omega), flat_get PItm.cells 3 (fun _ => rfl) l i 2 x h (by omega)⟩
/-- Its key and its value, readable. -/
def PBytes (w : World) (x : PItm) : Prop := x.bs.length = x.k ∧ x.k ≤ 1000000 ∧ At w x.A x.k (byteAt x.bs) ∧ x.vs.length = x.vk ∧ x.vk ≤ 1000000 ∧ At w x.VA x.vk (byteAt x.vs)
theorem PBytes.below {w w' : World} {x : PItm} {B : Nat} (h : PBytes w x) (hb : Below B w w') (hB : w.heap.size ≤ B) : PBytes w' x :=
  ⟨h.1, h.2.1, h.2.2.1.below hb hB, h.2.2.2.1, h.2.2.2.2.1, h.2.2.2.2.2.below hb hB⟩
def PItm.key (x : PItm) : ByteArray := strOf x.bs
def pf.lt (s t : ByteArray) : Bool := Op.bytesLess s.toList t.toList
/-- How many keys stand ahead of one. -/
def pf.place (l : List PItm) (s : ByteArray) : Nat := (l.takeWhile fun x => pf.lt x.key s).length
theorem while_step {α : Type} (p : α → Bool) : ∀ (l : List α) (k : Nat) (x : α), k ≤ (l.takeWhile p).length → l[k]? = some x → (p x = true → k + 1 ≤ (l.takeWhile p).length) ∧ (p x = false → (l.takeWhile p).length = k)
  | [], _, _, _, h => by simp at h
  | y :: l, 0, x, _, h => by
    obtain rfl : y = x := by simpa using h
    by_cases hp : p y = true
    · simp [hp]
    · simp [hp]
  | y :: l, k + 1, x, hk, h => by
    by_cases hp : p y = true
    · rw [List.takeWhile_cons_of_pos hp, List.length_cons] at hk ⊢
      have := while_step p l k x (by omega) (by simpa using h)
      exact ⟨fun e => by have := this.1 e; omega, fun e => by have := this.2 e; omega⟩
    · rw [List.takeWhile_cons_of_neg hp] at hk
      simp at hk
theorem pf.place_le (l : List PItm) (s : ByteArray) : pf.place l s ≤ l.length := (List.takeWhile_prefix _).length_le
def pf.has (l : List PItm) (s : ByteArray) : Bool := match l[pf.place l s]? with | some x => x.key.toList == s.toList | none => false
/-- Pairs lie at A. -/
def PAt (w : World) (A : Option Addr) (l : List PItm) : Prop := At w A (l.length * 3) (fun j => (pf.row l).getD j undef)
theorem PAt.cells {w : World} {A : Option Addr} {l : List PItm} (h : PAt w A l) {i : Nat} {x : PItm} (hx : l[i]? = some x) :
    ∃ b off, A = some ⟨b, off, none⟩ ∧ b < w.heap.size ∧ w.cell? ⟨b, off + i * 3, none⟩ = some (.slice x.A x.k x.c) ∧ w.cell? ⟨b, off + i * 3 + 1, none⟩ = some (.slice x.VA x.vk x.vc) ∧ w.cell? ⟨b, off + i * 3 + 2, none⟩ = some (.int .i64 x.off) := by
  have hi : i < l.length := (List.getElem?_eq_some_iff.1 hx).1
  obtain ⟨b, off, hA, hb, hc⟩ := h (by omega)
  obtain ⟨r0, r1, r2⟩ := pf.row_at hx
  refine ⟨b, off, hA, hb, ?_, ?_, ?_⟩
  · exact (hc _ (by omega)).trans (congrArg some r0)
  · rw [Nat.add_assoc]; exact (hc _ (by omega)).trans (congrArg some r1)
  · rw [Nat.add_assoc]; exact (hc _ (by omega)).trans (congrArg some r2)

set_option maxHeartbeats 2000000 in
theorem pf.find_any (A : Option Addr) (n c : Nat) (l : List PItm) (X : Option Addr) (m cx : Nat) (K : List Nat) (w : World) (hl : l.length = n) (hn : n ≤ 1000000) (hat : PAt w A l) (hb : ∀ x ∈ l, PBytes w x) (hk : K.length = m) (hka : At w X m (byteAt K)) :
    Calls Try.prog 50 #[.slice A n c, .slice X m cx] w fun e w' => e = .returned (.tuple #[.int .i64 (pf.place l (strOf K)), .bool (pf.has l (strOf K))]) ∧ ∃ q, w' = w.drewN q := by
  have HAT := Lib.hid hat; clear hat
  have HB := Lib.hid hb; clear hb
  have HL := Lib.hid hl; clear hl
  have hck := fun q => conv_any (P := Try.prog) Try.underlying32 Try.underlying5 Try.underlying9 (c := cx) K hk (hka.drew q)
  clear hka hk
  generalize strOf K = s at *
  go_enter Try.func50, Try.ntmps50
  go_wp2
  go_loopw [6] (fun i wr => ∃ (k q : Nat), k ≤ pf.place l s ∧ i = .int .i64 (k : Int) ∧ wr = w.drewN q) (fun i _ => n - (intOf i).toNat)
  case atStart => exact ⟨0, 0, by omega, rfl, rfl⟩
  case round =>
    obtain ⟨k, q, hkp, rfl, rfl⟩ := hrel
    by_cases hlt : k < n
    · obtain ⟨x, hx⟩ : ∃ x, l[k]? = some x := ⟨_, List.getElem?_eq_getElem (by rw [HL.out]; exact hlt)⟩
      obtain ⟨b, off, rfl, hbl, c0, -, -⟩ := HAT.out.cells hx
      obtain ⟨hxl, hxk, hxa, -⟩ := HB.out x (List.mem_of_getElem? hx)
      have hcx := fun q => conv_any (P := Try.prog) Try.underlying32 Try.underlying5 Try.underlying9 (c := x.c) x.bs hxl (hxa.drew q)
      have u0 : ∀ q, (w.drewN q).cell? ⟨b, off + k * 3, none⟩ = some (.slice x.A x.k x.c) := fun q => c0
      clear hxa hxl c0
      have HX := Lib.hid hx; clear hx
      generalize hs : strOf x.bs = sx at *
      generalize x.A = XA at *
      generalize x.k = xk at *
      generalize x.c = xc at *
      have hlt' : (k : Int) < n := by omega
      have hd1 : decide ((k : Int) < n) = true := decide_eq_true hlt'
      have hd2 : decide (k < n) = true := decide_eq_true hlt
      have hkey : pf.lt x.key s = Op.bytesLess sx.toList s.toList := by unfold pf.lt PItm.key; rw [hs]
      have hstep := while_step (fun y : PItm => pf.lt y.key s) l k x hkp HX.out
      simp only [hkey] at hstep
      have HSTEP := Lib.hid hstep; clear hstep hkp
      have hhas : pf.place l s = k → pf.has l s = (sx.toList == s.toList) := fun e => by unfold pf.has; rw [e, HX.out]; show (x.key.toList == s.toList) = _; unfold PItm.key; rw [hs]
      have HHAS := Lib.hid hhas; clear hhas hkey hs
      by_cases hless : Op.bytesLess sx.toList s.toList = true
      · go_wp2_with fail
        go_quiet (fail)
        go_wp2_with fail
        go_roundw
        case rel => exact ⟨k + 1, _, HSTEP.out.1 hless, by go_num, rfl⟩
        case measure => simp [intOf]; omega
      · have hless' : Op.bytesLess sx.toList s.toList = false := by simpa using hless
        clear hless
        have hp := HSTEP.out.2 hless'
        have hh := HHAS.out hp
        have HPH := Lib.hid (And.intro (show pf.place l s = k from hp) hh); clear hp hh HSTEP HHAS
        go_wp2_with fail
        go_quiet (fail)
        go_wp2_with fail
        go_quiet (fail)
        go_wp2_with fail
        go_ret2
        exact ⟨by rw [HPH.out.1, HPH.out.2]; rfl, _, by rw [World.drewN_drewN, World.drewN_drewN]⟩
    · have hp : pf.place l s = k := by have := pf.place_le l s; rw [HL.out] at this; omega
      have hh : pf.has l s = false := by unfold pf.has; rw [hp, List.getElem?_eq_none (by rw [HL.out]; omega)]
      have HPH := Lib.hid (And.intro hp hh); clear hkp hp hh
      have hd1 : decide ((k : Int) < n) = false := decide_eq_false (by omega)
      have hd2 : decide (k < n) = false := decide_eq_false hlt
      go_wp2_with fail
      go_quiet (fail)
      go_wp2_with fail
      go_quiet (fail)
      go_wp2_with fail
      go_ret2
      exact ⟨by rw [HPH.out.1, HPH.out.2]; rfl, _, by rw [World.drewN_drewN, World.drewN_drewN]⟩
theorem infoPair : (Try.prog.info? 95).map (fun i => (i.zero, i.size, i.bytes)) = some (some (.agg #[.slice none 0 0, .slice none 0 0, .int .i64 0]), 3, 56) := by kernel_rfl
theorem pf.row_one (l : List PItm) : ∀ j, j < l.length * 3 → ((pf.row l).getD j undef).oneCell' = true := by
  intro j hj
  obtain ⟨x, hx⟩ : ∃ x, l[j / 3]? = some x := ⟨_, List.getElem?_eq_getElem (by omega)⟩
  obtain ⟨r0, r1, r2⟩ := pf.row_at hx
  have : j % 3 = 0 ∨ j % 3 = 1 ∨ j % 3 = 2 := by omega
  rcases this with h | h | h
  · rw [show j = j / 3 * 3 by omega, r0]; rfl
  · rw [show j = j / 3 * 3 + 1 by omega, r1]; rfl
  · rw [show j = j / 3 * 3 + 2 by omega, r2]; rfl
theorem pf.row_all {l : List PItm} {n : Nat} (h : l.length = n) : cellsOf (n * 3) (fun j => (pf.row l).getD j undef) = pf.row l := by
  have := cellsOf_list (pf.row l)
  rw [pf.row_len, h] at this
  exact this
theorem pf.row_take : ∀ (l : List PItm) (i : Nat), (pf.row l).take (i * 3) = pf.row (l.take i)
  | [], i => by simp [pf.row]
  | y :: l, 0 => by simp [pf.row]
  | y :: l, i + 1 => by
    have e : pf.row (y :: l) = .slice y.A y.k y.c :: .slice y.VA y.vk y.vc :: .int .i64 y.off :: pf.row l := rfl
    rw [List.take_succ_cons, e, show (i + 1) * 3 = i * 3 + 3 by omega]
    show _ :: _ :: _ :: (pf.row l).take (i * 3) = _
    rw [pf.row_take l i]
    rfl
theorem pf.row_drop : ∀ (l : List PItm) (i : Nat), (pf.row l).drop (i * 3) = pf.row (l.drop i)
  | [], i => by simp [pf.row]
  | y :: l, 0 => by simp
  | y :: l, i + 1 => by
    have e : pf.row (y :: l) = .slice y.A y.k y.c :: .slice y.VA y.vk y.vc :: .int .i64 y.off :: pf.row l := rfl
    rw [List.drop_succ_cons, ← pf.row_drop l i, e, show (i + 1) * 3 = i * 3 + 3 by omega]
    rfl
theorem PAt.take {w : World} {A : Option Addr} {l : List PItm} (h : PAt w A l) (i : Nat) : PAt w A (l.take i) :=
  (At.le h (by rw [List.length_take]; omega)).congr fun j hj => by
    show (pf.row l).getD j undef = (pf.row (l.take i)).getD j undef
    have hj' : j < i * 3 := by rw [List.length_take] at hj; omega
    rw [← pf.row_take]
    simp only [List.getD]
    rw [List.getElem?_take_of_lt hj']
theorem PAt.drop {w : World} {A : Option Addr} {l : List PItm} (h : PAt w A l) (i : Nat) : PAt w (A.map fun a => a.add (i * 3)) (l.drop i) := fun hn => by
  rw [List.length_drop] at hn
  obtain ⟨b, off, rfl, h2, h3⟩ := h (by omega)
  refine ⟨b, off + i * 3, by simp [Addr.add], h2, fun j hj => ?_⟩
  rw [List.length_drop] at hj
  have h4 := h3 (i * 3 + j) (by omega)
  rw [Nat.add_assoc, h4, ← pf.row_drop]
  simp [List.getD]
theorem pf.run_slice (w : World) (A : Option Addr) (n c l h : Nat) (low high : Option Value) (hlo : (low = none ∧ l = 0) ∨ low = some (.int .i64 (l : Int))) (hhi : (high = none ∧ h = n) ∨ high = some (.int .i64 (h : Int))) (hlh : l ≤ h) (hhn : h ≤ n) (hnc : n ≤ c) :
    ∃ A', (Instr.sliceAt 78 (.slice A n c) low high none).run Try.prog w = .ok (.slice A' (h - l) (c - l)) w ∧ ((A' = A.map fun a => a.add (l * 3)) ∨ h - l = 0) := by
  obtain ⟨i0, hi, hz0, hz1, hz2⟩ := info_parts infoPair
  have h1 : (0 : Int) ≤ (l : Int) ∧ (l : Int) ≤ (h : Int) := by omega
  have h2 : (0 : Int) ≤ (h : Int) ∧ (h : Int) ≤ (c : Int) := by omega
  refine ⟨if c = l then A else A.map fun a => a.add (l * 3), ?_, ?_⟩
  · rcases hlo with ⟨rfl, rfl⟩ | rfl <;> rcases hhi with ⟨rfl, rfl⟩ | rfl <;>
      simp [Instr.sliceAt, Instr.slice, Instr.sliceBounds, Instr.sliceBound, run_underlying Try.underlying78, sizeOf, typeInfo, hi, hz1, asIntOf, hlh, Nat.le_trans hhn hnc]
    all_goals (have hq := Nat.le_trans hhn hnc; intros; omega)
  · by_cases e : c = l
    · exact .inr (by omega)
    · rw [if_neg e]
      exact .inl rfl
theorem pf.wpList_slice {ops : Array Oper} {rest : List Oper} {o : Oper} {a : Act} {w : World} {Q : Exit → Act → World → Prop} (hgd : o.guard = none) (x : Operand) (lo hi : Option Operand)
    (ho : o.op = .slice 78 x lo hi none) (A : Option Addr) (n c l h : Nat) (hx : a.eval x = .slice A n c) (hlo : (lo.map a.eval = none ∧ l = 0) ∨ lo.map a.eval = some (.int .i64 (l : Int))) (hhi : (hi.map a.eval = none ∧ h = n) ∨ hi.map a.eval = some (.int .i64 (h : Int))) (hlh : l ≤ h) (hhn : h ≤ n) (hnc : n ≤ c)
    (hQ : ∀ A' c', (∀ wx (L : List PItm), L.length = n → PAt wx A L → PAt wx A' ((L.drop l).take (h - l))) → h - l ≤ c' → c' ≤ c → wpList Try.prog ops Q rest (a.put o.dst (.slice A' (h - l) c')) w) : wpList Try.prog ops Q (o :: rest) a w :=
  wpList_plain hgd fun _ hK => by
    obtain ⟨A', hr, hA⟩ := pf.run_slice w A n c l h (lo.map a.eval) (hi.map a.eval) hlo hhi hlh hhn hnc
    unfold Oper.wp execOp
    simp only [ho, hx, Option.map_none, Sem.run_bind, Result.andThen_ok, hr]
    refine hK _ _ (hQ A' (c - l) (fun wx L hL hat => ?_) (by omega) (by omega))
    rcases hA with rfl | h0
    · exact (hat.drop l).take _
    · intro hn; rw [List.length_take] at hn; omega

/-- A pair put in its place. -/
def pf.put (l : List PItm) (x : PItm) : List PItm := l.take (pf.place l x.key) ++ [x] ++ l.drop (pf.place l x.key + if pf.has l x.key then 1 else 0)
def PItm.agg (x : PItm) : Value := .agg #[.slice x.A x.k x.c, .slice x.VA x.vk x.vc, .int .i64 x.off]
theorem pf.at_one {w : World} {g : Nat} {T : TypeId} {a b c : Value} (h : Blk w g T #[a, b, c]) : At w (some ⟨g, 0, none⟩) (1 * 3) (fun j => ([a, b, c] : List Value).getD j undef) := fun _ =>
  ⟨g, 0, rfl, h.lt, fun j hj => by
    rw [Nat.zero_add]
    match j, hj with
    | 0, _ => exact h.cell 0 rfl
    | 1, _ => exact h.cell 1 rfl
    | 2, _ => exact h.cell 2 rfl⟩

theorem pf.one_one (XA : Option Addr) (xk xc : Nat) (VA : Option Addr) (vk vc : Nat) (o : Int) : ∀ j, j < 1 * 3 → (([.slice XA xk xc, .slice VA vk vc, .int .i64 o] : List Value).getD j undef).oneCell' = true := fun j hj => match j, hj with
  | 0, _ => rfl
  | 1, _ => rfl
  | 2, _ => rfl
set_option maxHeartbeats 4000000 in
theorem pf.put_any (A : Option Addr) (n c : Nat) (l : List PItm) (x : PItm) (w : World) (hl : l.length = n) (hn : n ≤ 100000) (hnc : n ≤ c) (hat : PAt w A l) (hb : ∀ y ∈ l, PBytes w y) (hx : PBytes w x) :
    Calls Try.prog 51 #[.slice A n c, x.agg] w fun e w' => ∃ v, e = .returned v ∧ w'.ownsRow w.heap.size 95 3 v (pf.put l x).length (pf.row (pf.put l x)) ∧ Below w.heap.size w w' := by
  obtain ⟨XA, xk, xc, bs, VA, vk, vc, vs, xo⟩ := x
  obtain ⟨w1, hw1⟩ : ∃ w1, w1 = w.alloc (.cells #[.slice XA xk xc, .slice VA vk vc, .int .i64 xo] 95) := ⟨_, rfl⟩
  have hb1 : Below w.heap.size w w1 := by rw [hw1]; exact (Below.refl _ _).alloc (Nat.le_refl _) _
  have hx1 := hx.below hb1 (Nat.le_refl _)
  have hf := pf.find_any A n c l XA xk xc bs w1 hl (by omega) (At.below hat hb1 (Nat.le_refl _)) (fun y hy => (hb y hy).below hb1 (Nat.le_refl _)) hx1.1 hx1.2.2.1
  have hbx : Blk w1 w.heap.size 95 #[.slice XA xk xc, .slice VA vk vc, .int .i64 xo] := by rw [hw1]; exact Blk.new _ _ _
  obtain ⟨k, hk⟩ : ∃ k, k = pf.place l (strOf bs) := ⟨_, rfl⟩
  obtain ⟨t, ht⟩ : ∃ t, t = pf.has l (strOf bs) := ⟨_, rfl⟩
  have hput : pf.put l ⟨XA, xk, xc, bs, VA, vk, vc, vs, xo⟩ = l.take k ++ [⟨XA, xk, xc, bs, VA, vk, vc, vs, xo⟩] ++ l.drop (k + if t then 1 else 0) := by rw [hk, ht]; rfl
  rw [hput]
  rw [← hk, ← ht] at hf
  have hkn : k ≤ n := by rw [hk, ← hl]; exact pf.place_le _ _
  have htk : t = true → k < n := fun e => by
    rw [ht] at e
    unfold pf.has at e
    rw [← hk] at e
    cases hg : l[k]? with
    | none => rw [hg] at e; cases e
    | some y => rw [← hl]; exact (List.getElem?_eq_some_iff.1 hg).1
  have hfb : ∀ y : PItm, y.cells = [.slice y.A y.k y.c, .slice y.VA y.vk y.vc, .int .i64 y.off] := fun _ => rfl
  obtain ⟨i0, hinf⟩ := info_parts infoPair
  have HI := Lib.hid hinf; clear hinf
  have HF := Lib.hid hf; clear hf
  have HL := Lib.hid hl; clear hl
  have HAT := Lib.hid hat; clear hat
  have HB1 := Lib.hid hb1; clear hb1
  have HBX := Lib.hid hbx; clear hbx
  have HW1 := Lib.hid hw1.symm; clear hw1
  clear hk ht hput hb hx hx1
  unfold PItm.agg
  dsimp only
  go_enter Try.func51, Try.ntmps51
  go_wp2_with fail
  rw [HW1.out]
  refine HF.out.mono ?_
  rintro e w2 ⟨rfl, q, hw2⟩
  have HB2 := Lib.hid (show Below w.heap.size w w2 from by rw [hw2]; exact bdrew HB1.out q)
  have HBX2 := Lib.hid (show Blk w2 w.heap.size 95 #[.slice XA xk xc, .slice VA vk vc, .int .i64 xo] from by rw [hw2]; exact HBX.out)
  clear hw2 HF HBX HB1 HW1
  have HM := Lib.hid (show (w2.alloc (.cells #[] 95)).ownsRow w.heap.size 95 3 (.slice (some ⟨w2.heap.size, 0, none⟩) 0 0) 0 [] from World.ownsRow_made w2 #[] 0 HB2.out.size (by unfold maxLen; omega) (by simp))
  go_upto_region 3 with (show Go.wpList _ _ _ (⟨_, .slice _ (.tmp 16) _ _ _, _, _, _, _⟩ :: _) _ _; go_loud (refine pf.wpList_slice rfl (.tmp 16) _ _ rfl A n c 0 k rfl (.inl ⟨rfl, rfl⟩) (.inr rfl) (by omega) hkn hnc ?_; intro A1 c1 hp1 hc11 hc12; rw [Nat.sub_zero] at hp1 hc11 ⊢; have HP1 := Lib.hid hp1; clear hp1; refine wpList_app2 _ rfl (.tmp 15) (.tmp 18) 78 rfl w.heap.size 95 i0 _ 3 56 Try.underlying78 HI.out.1 HI.out.2.1 HI.out.2.2.1 HI.out.2.2.2 rfl (by decide) _ 0 [] rfl HM.out A1 k c1 (fun j => (pf.row (l.take k)).getD j undef) rfl (by have h := HP1.out (w2.alloc (.cells #[] 95)) l HL.out (At.below HAT.out (HB2.out.alloc HB2.out.size _) (Nat.le_refl _)); rw [List.drop_zero] at h; unfold PAt at h; rw [List.length_take, HL.out, Nat.min_eq_left hkn] at h; exact h) (by have h := pf.row_one (l.take k); rw [List.length_take, HL.out, Nat.min_eq_left hkn] at h; exact h) (by unfold maxLen; omega) (by omega) (by have := HB2.out.size; simp; omega) ?_; intro v2 w3 hown hg hl3; rw [List.nil_append, pf.row_all (l := l.take k) (n := k) (by rw [List.length_take, HL.out, Nat.min_eq_left hkn]), Nat.zero_add] at hown; have HO3 := Lib.hid hown; have HB3 := Lib.hid ((HB2.out.alloc HB2.out.size _).grown hg (by have := HB2.out.size; simp; omega) fun j hj => (HM.out.lt j hj).1); have HBX3 := Lib.hid (show Blk w3 w.heap.size 95 #[.slice XA xk xc, .slice VA vk vc, .int .i64 xo] from (Chg.grown (show (w2.alloc (.cells #[] 95)).grownBy w3 (Value.slice (some ⟨w2.heap.size, 0, none⟩) 0 0).ownBlock from hg)).blk ((Chg.alloc w2 _ (fun _ => False)).blk HBX2.out id) fun e => by have e2 : w2.heap.size = w.heap.size := (by simpa [Value.ownBlock] using e); have := HBX2.out.lt; omega); clear hown hl3 hg))
  have e0 := HBX3.out.cell 0 rfl
  have e1 := HBX3.out.cell 1 rfl
  have e2 := HBX3.out.cell 2 rfl
  have HM3 := Lib.hid (show (w3.alloc (.cells #[.slice XA xk xc, .slice VA vk vc, .int .i64 xo] 95)).ownsRow w.heap.size 95 3 v2 k (pf.row (l.take k)) from HO3.out.alloc _)
  have HBA3 := Lib.hid (show Below w.heap.size w (w3.alloc (.cells #[.slice XA xk xc, .slice VA vk vc, .int .i64 xo] 95)) from HB3.out.alloc HB3.out.size _)
  go_upto_region 4 with (at_builtin; go_loud (refine wpList_app2 _ rfl (.tmp 20) (.tmp 22) 78 rfl w.heap.size 95 i0 _ 3 56 Try.underlying78 HI.out.1 HI.out.2.1 HI.out.2.2.1 HI.out.2.2.2 rfl (by decide) _ k (pf.row (l.take k)) rfl HM3.out (some ⟨w3.heap.size, 0, none⟩) 1 1 (fun j => ([.slice XA xk xc, .slice VA vk vc, .int .i64 xo] : List Value).getD j undef) rfl (pf.at_one (Blk.new w3 95 _)) (pf.one_one _ _ _ _ _ _ _) (by unfold maxLen; omega) (by omega) (by have := HB3.out.size; simp; omega) ?_; intro v4 w4 hown hg hl4; rw [show cellsOf (1 * 3) (fun j => ([.slice XA xk xc, .slice VA vk vc, .int .i64 xo] : List Value).getD j undef) = pf.row [⟨XA, xk, xc, bs, VA, vk, vc, vs, xo⟩] from cellsOf_list _, ← pf.row_append] at hown; have HO4 := Lib.hid hown; have HB4 := Lib.hid (HBA3.out.grown hg HBA3.out.size fun j hj => (HM3.out.lt j hj).1); clear hown hl4 hg))
  clear e0 e1 e2
  cases t
  · have hkn1 : k ≤ n := hkn
    clear htk
    go_wp2_with (show Go.wpList _ _ _ (⟨_, .slice _ (.tmp 28) _ _ _, _, _, _, _⟩ :: _) _ _; go_loud (refine pf.wpList_slice rfl (.tmp 28) _ _ rfl A n c k n rfl (.inr rfl) (.inl ⟨rfl, rfl⟩) hkn1 (Nat.le_refl _) hnc ?_; intro A2 c2 hp2 hc21 hc22; have HP2 := Lib.hid hp2; clear hp2; refine wpList_app2 _ rfl (.tmp 27) (.tmp 30) 78 rfl w.heap.size 95 i0 _ 3 56 Try.underlying78 HI.out.1 HI.out.2.1 HI.out.2.2.1 HI.out.2.2.2 rfl (by decide) _ (k + 1) _ rfl HO4.out A2 (n - k) c2 (fun j => (pf.row (l.drop k)).getD j undef) rfl (by have h := HP2.out w4 l HL.out (At.below HAT.out HB4.out (Nat.le_refl _)); rw [List.take_of_length_le (by rw [List.length_drop, HL.out]; exact Nat.le_refl _)] at h; unfold PAt at h; rw [List.length_drop, HL.out] at h; exact h) (by have h := pf.row_one (l.drop k); rw [List.length_drop, HL.out] at h; exact h) (by unfold maxLen; omega) (by omega) HB4.out.size ?_; intro v6 w6 hown hg hl6; rw [pf.row_all (l := l.drop k) (n := n - k) (by rw [List.length_drop, HL.out]), ← pf.row_append] at hown; have HO6 := Lib.hid hown; have HB6 := Lib.hid (HB4.out.grown hg HB4.out.size fun j hj => (HO4.out.lt j hj).1); clear hown hl6 hg))
    go_ret
    refine ⟨_, rfl, ?_, HB6.out⟩
    have ex : ∀ y : PItm, l.take k ++ y :: l.drop k = l.take k ++ [y] ++ l.drop k := fun y => by simp
    rw [show min k l.length + (l.length - k + 1) = k + 1 + (n - k) from by rw [HL.out]; omega, ex]
    exact HO6.out
  · have hkn1 : k + 1 ≤ n := htk rfl
    clear htk
    go_wp2_with (show Go.wpList _ _ _ (⟨_, .slice _ (.tmp 28) _ _ _, _, _, _, _⟩ :: _) _ _; go_loud (refine pf.wpList_slice rfl (.tmp 28) _ _ rfl A n c (k + 1) n rfl (.inr (by rw [Int.natCast_add]; rfl)) (.inl ⟨rfl, rfl⟩) hkn1 (Nat.le_refl _) hnc ?_; intro A2 c2 hp2 hc21 hc22; have HP2 := Lib.hid hp2; clear hp2; refine wpList_app2 _ rfl (.tmp 27) (.tmp 30) 78 rfl w.heap.size 95 i0 _ 3 56 Try.underlying78 HI.out.1 HI.out.2.1 HI.out.2.2.1 HI.out.2.2.2 rfl (by decide) _ (k + 1) _ rfl HO4.out A2 (n - (k + 1)) c2 (fun j => (pf.row (l.drop (k + 1))).getD j undef) rfl (by have h := HP2.out w4 l HL.out (At.below HAT.out HB4.out (Nat.le_refl _)); rw [List.take_of_length_le (by rw [List.length_drop, HL.out]; exact Nat.le_refl _)] at h; unfold PAt at h; rw [List.length_drop, HL.out] at h; exact h) (by have h := pf.row_one (l.drop (k + 1)); rw [List.length_drop, HL.out] at h; exact h) (by unfold maxLen; omega) (by omega) HB4.out.size ?_; intro v6 w6 hown hg hl6; rw [pf.row_all (l := l.drop (k + 1)) (n := n - (k + 1)) (by rw [List.length_drop, HL.out]), ← pf.row_append] at hown; have HO6 := Lib.hid hown; have HB6 := Lib.hid (HB4.out.grown hg HB4.out.size fun j hj => (HO4.out.lt j hj).1); clear hown hl6 hg))
    go_ret
    refine ⟨_, rfl, ?_, HB6.out⟩
    have ex : ∀ y : PItm, l.take k ++ y :: l.drop (k + 1) = l.take k ++ [y] ++ l.drop (k + 1) := fun y => by simp
    rw [show min k l.length + (l.length - (k + 1) + 1) = k + 1 + (n - (k + 1)) from by rw [HL.out]; omega, ex]
    exact HO6.out
/-- The document's map at r. -/
def RMapAt (w0 w : World) (r : Nat) (most : Int) (l : List PItm) : Prop :=
  ∃ v, Blk w r 80 #[.int .i64 most, v] ∧ w.ownsRow 0 95 3 v l.length (pf.row l) ∧ ∀ x ∈ l, PBytes w0 x
theorem RMapAt.chg {w0 w w' : World} {r : Nat} {most : Int} {l : List PItm} {P : Nat → Prop} (h : RMapAt w0 w r most l) (hc : Chg w w' P) (hp : ∀ k, P k → ∀ cs T fr, w.heap[k]? = some (.cells cs T fr) → T ≠ 80 ∧ T ≠ 95) : RMapAt w0 w' r most l := by
  obtain ⟨v, h1, h2, h3⟩ := h
  refine ⟨v, hc.blk h1 fun hh => (hp _ hh _ _ _ h1).1 rfl, hc.own h2 fun k hk hh => ?_, h3⟩
  rcases h2.2 with ⟨rfl, _⟩ | ⟨g, cap, cur, rfl, _, hg, _⟩
  · cases hk
  · obtain rfl : g = k := by simpa [Value.ownBlock] using hk
    exact (hp _ hh _ _ _ hg).2 rfl
theorem RMapAt.below {w0 w w' : World} {r : Nat} {most : Int} {l : List PItm} (h : RMapAt w0 w r most l) (hb : Below w.heap.size w w') : RMapAt w0 w' r most l := h.chg (chg_of (P := fun _ => False) hb) fun _ h => h.elim
theorem RMapAt.lt {w0 w : World} {r : Nat} {most : Int} {l : List PItm} (h : RMapAt w0 w r most l) : r < w.heap.size := by
  obtain ⟨v, h1, -⟩ := h
  exact h1.lt
/-- Is there room? -/
def pf.can (l : List PItm) (most : Int) (s : ByteArray) : Bool := pf.has l s || decide ((l.length : Int) < most)
/-- What is offered, as it is put. -/
def pf.raise (l : List PItm) (x : PItm) : PItm := match pf.has l x.key, l[pf.place l x.key]? with | true, some y => { x with off := max x.off y.off } | _, _ => x
def pf.offer (l : List PItm) (most : Int) (x : PItm) : List PItm := if pf.can l most x.key then pf.put l (pf.raise l x) else l
def pf.look (l : List PItm) (s : ByteArray) : Option Int := match pf.has l s, l[pf.place l s]? with | true, some y => some y.off | _, _ => none
theorem pf.has_at {l : List PItm} {s : ByteArray} (h : pf.has l s = true) : ∃ y, l[pf.place l s]? = some y := by
  unfold pf.has at h
  cases hg : l[pf.place l s]? with
  | none => rw [hg] at h; cases h
  | some y => exact ⟨y, rfl⟩

set_option maxHeartbeats 2000000 in
theorem rmap.last_any (w0 : World) (r : Nat) (most : Int) (l : List PItm) (X : Option Addr) (m cx : Nat) (K : List Nat) (w : World) (h : RMapAt w0 w r most l) (h0 : Below w0.heap.size w0 w) (hlen : l.length ≤ 10000) (hk : K.length = m) (hka : At w X m (byteAt K)) :
    Calls Try.prog 38 #[.pointer (some ⟨r, 0, none⟩), .slice X m cx] w fun e w' => e = .returned (.tuple #[.int .i64 ((pf.look l (strOf K)).getD 0), .bool (pf.look l (strOf K)).isSome]) ∧ ∃ q, w' = w.drewN q := by
  obtain ⟨v, h1, h2, h3⟩ := h
  obtain ⟨A, c, rfl, hnc, hat⟩ := own_at h2
  obtain ⟨n, hn⟩ : ∃ n, n = l.length := ⟨_, rfl⟩
  have hf := pf.find_any A n c l X m cx K w hn.symm (by omega) hat (fun x hx => (h3 x hx).below h0 (Nat.le_refl _)) hk hka
  have c1 : w.cell? ⟨r, 1, none⟩ = some (.slice A l.length c) := h1.cell 1 rfl
  rw [← hn] at c1 hlen
  have HF := Lib.hid hf; clear hf
  obtain ⟨t, ht⟩ : ∃ t, t = pf.has l (strOf K) := ⟨_, rfl⟩
  obtain ⟨k, hkp⟩ : ∃ k, k = pf.place l (strOf K) := ⟨_, rfl⟩
  rw [← ht, ← hkp] at HF
  cases t with
  | false =>
    have hl : pf.look l (strOf K) = none := by unfold pf.look; rw [← ht]
    rw [hl]
    clear ht hkp hl h1 h2 h3 hat hn
    go_enter Try.func38, Try.ntmps38
    go_wp2_with fail
    refine HF.out.mono ?_
    rintro e w1 ⟨rfl, q, rfl⟩
    go_wp2_with fail
    go_ret2
    exact ⟨rfl, q, rfl⟩
  | true =>
    obtain ⟨y, hy⟩ := pf.has_at ht.symm
    rw [← hkp] at hy
    have hl : pf.look l (strOf K) = some y.off := by unfold pf.look; rw [← ht, ← hkp, hy]
    rw [hl]
    have hkn : k < n := by rw [hn]; exact (List.getElem?_eq_some_iff.1 hy).1
    obtain ⟨b, off, rfl, -, -, -, d2⟩ := PAt.cells hat hy
    have u1 : ∀ q, (w.drewN q).cell? ⟨r, 1, none⟩ = some (.slice (some ⟨b, off, none⟩) n c) := fun _ => c1
    have u2 : ∀ q, (w.drewN q).cell? ⟨b, off + k * 3 + 2, none⟩ = some (.int .i64 y.off) := fun _ => d2
    generalize y.off = yo at *
    clear ht hkp hl h1 h2 h3 hat hn hy d2
    go_enter Try.func38, Try.ntmps38
    go_wp2_with fail
    refine HF.out.mono ?_
    rintro e w1 ⟨rfl, q, rfl⟩
    go_wp2_with fail
    go_ret2
    exact ⟨rfl, q, rfl⟩
set_option maxHeartbeats 1000000 in
theorem cr.older_any (t n a : Int) (w : World) (ht : 0 ≤ t) (ht' : t ≤ 9223372036854775807) (hn : 0 ≤ n) (hn' : n ≤ 9223372036854775807) (ha : 0 ≤ a) (ha' : a ≤ 9223372036854775807) :
    Calls Try.prog 39 #[.int .i64 n, .int .i64 t, .int .i64 a] w fun e w' => e = .returned (.bool (decide (a < n - t))) ∧ w = w' := by
  have h0 : ¬ t < 0 := by omega
  by_cases hlt : t < n
  · go_enter Try.func39, Try.ntmps39
    go_wp2
    go_ret
    exact ⟨rfl, rfl⟩
  · have hd : decide (a < n - t) = false := by simp; omega
    have Hd := Lib.hid hd; clear hd
    go_enter Try.func39, Try.ntmps39
    go_wp2
    go_ret
    exact ⟨by rw [Hd.out]; rfl, rfl⟩

set_option maxHeartbeats 4000000 in
theorem cr.record_any (r : Rec) (Ak : Option Addr) (ck : Nat) (Av : Option Addr) (nv cv : Nat) (w0 : World) (p : Nat) (most : Int) (l : List PItm) (upto now grace : Int) (w : World) (h : RMapAt w0 w p most l) (h0 : Below w0.heap.size w0 w) (hlen : l.length ≤ 10000) (hl : r.key.length ≤ maxLen) (hat : At w Ak r.key.length (byteAt r.key))
    (ht : 0 ≤ r.time ∧ r.time ≤ 9223372036854775807) (hn : 0 ≤ now ∧ now ≤ 9223372036854775807) (hg : 0 ≤ grace ∧ grace ≤ 9223372036854775807) :
    Calls Try.prog 17 #[.agg #[.int .i64 r.off, .int .i64 r.time, .bool r.hasKey, .slice Ak r.key.length ck, .bool r.hasVal, .slice Av nv cv], .pointer (some ⟨p, 0, none⟩), .int .i64 upto, .int .i64 now, .int .i64 grace] w
      fun e w' => e = .returned (.bool (cl.stays (pf.look l) upto now grace r)) ∧ Below w.heap.size w w' := by
  obtain ⟨off, time, hk, ky, hv, val⟩ := r
  dsimp only at *
  obtain ⟨ht0, ht1⟩ := ht
  obtain ⟨hn0, hn1⟩ := hn
  obtain ⟨hg0, hg1⟩ := hg
  have hlast := fun (wx : World) (hb : Below w.heap.size w wx) => rmap.last_any w0 p most l Ak ky.length ck ky wx (h.chg (P := fun _ => False) (chg_of hb) fun _ h => h.elim) (h0.trans (hb.mono h0.size)) hlen rfl (hat.below hb (Nat.le_refl _))
  have hold := fun wx => cr.older_any time now grace wx ht0 ht1 hn0 hn1 hg0 hg1
  obtain ⟨R, hR⟩ : ∃ R, R = cl.stays (pf.look l) upto now grace (⟨off, time, hk, ky, hv, val⟩ : Rec) := ⟨_, rfl⟩
  rw [← hR]
  unfold cl.stays at hR
  dsimp only at hR
  generalize pf.look l (strOf ky) = G at *
  have HR := Lib.hid hR; clear hR
  have HLAST := Lib.hid hlast; clear hlast h h0 hat hl
  have HOLD := Lib.hid hold; clear hold
  generalize ky.length = nk at *
  obtain ⟨w1, hw1⟩ : ∃ w1, w1 = w.alloc (.cells #[.int .i64 off, .int .i64 time, .bool hk, .slice Ak nk ck, .bool hv, .slice Av nv cv] 34) := ⟨_, rfl⟩
  have hbk : Blk w1 w.heap.size 34 #[.int .i64 off, .int .i64 time, .bool hk, .slice Ak nk ck, .bool hv, .slice Av nv cv] := by rw [hw1]; exact Blk.new _ _ _
  have hb1 : Below w.heap.size w w1 := by rw [hw1]; exact (Below.refl _ w).alloc (Nat.le_refl _) _
  have hlt1 : w.heap.size < w1.heap.size := hbk.lt
  have c0 : ∀ q, (w1.drewN q).cell? ⟨w.heap.size, 0, none⟩ = some (.int .i64 off) := fun _ => hbk.cell 0 rfl
  have c1 : ∀ q, (w1.drewN q).cell? ⟨w.heap.size, 1, none⟩ = some (.int .i64 time) := fun _ => hbk.cell 1 rfl
  have c2 : ∀ q, (w1.drewN q).cell? ⟨w.heap.size, 2, none⟩ = some (.bool hk) := fun _ => hbk.cell 2 rfl
  have c3 : ∀ q, (w1.drewN q).cell? ⟨w.heap.size, 3, none⟩ = some (.slice Ak nk ck) := fun _ => hbk.cell 3 rfl
  have c4 : ∀ q, (w1.drewN q).cell? ⟨w.heap.size, 4, none⟩ = some (.bool hv) := fun _ => hbk.cell 4 rfl
  have e0 : w1.cell? ⟨w.heap.size, 0, none⟩ = some (.int .i64 off) := hbk.cell 0 rfl
  have e2 : w1.cell? ⟨w.heap.size, 2, none⟩ = some (.bool hk) := hbk.cell 2 rfl
  have e3 : w1.cell? ⟨w.heap.size, 3, none⟩ = some (.slice Ak nk ck) := hbk.cell 3 rfl
  have HB1 := Lib.hid hb1; clear hb1 hbk
  have HW1 := Lib.hid hw1; clear hw1
  go_enter Try.func17, Try.ntmps17
  go_upto_region 1 with fail
  rw [← HW1.out]
  clear HW1
  cases hk with
  | false =>
    have hr : R = true := by rw [HR.out, if_pos (Or.inl rfl)]
    subst hr
    go_wp2_with fail
    go_ret
    exact ⟨rfl, HB1.out⟩
  | true =>
    by_cases hup : upto ≤ off
    · have hr : R = true := by rw [HR.out, if_pos (Or.inr hup)]
      subst hr
      go_wp2_with fail
      go_ret
      exact ⟨rfl, HB1.out⟩
    · have hr0 := HR.out
      rw [if_neg (by rintro (h | h); cases h; exact hup h)] at hr0
      have HR0 := Lib.hid hr0; clear hr0 HR
      go_wp2_with fail
      refine (HLAST.out w1 HB1.out).mono ?_
      rintro e w2 ⟨rfl, q, rfl⟩
      have HB2 := Lib.hid (bdrew HB1.out q); clear HB1 HLAST e0 e2 e3
      cases G with
      | none =>
        have hr : R = true := HR0.out
        subst hr
        dsimp only [Option.getD, Option.isSome]
        cases hv
        all_goals
          go_wp2_with fail
          go_ret
          exact ⟨rfl, HB2.out⟩
      | some last =>
        dsimp only [Option.getD, Option.isSome]
        have hr1 : R = if off < last then false else if hv = false ∧ grace < now - time then false else true := HR0.out
        have HR1 := Lib.hid hr1; clear hr1 HR0
        by_cases hlo : off < last
        · have hr : R = false := by rw [HR1.out, if_pos hlo]
          subst hr
          go_wp2_with fail
          go_ret
          exact ⟨rfl, HB2.out⟩
        · cases hv with
          | true =>
            have hr : R = true := by rw [HR1.out, if_neg hlo, if_neg (by rintro ⟨h, -⟩; cases h)]
            subst hr
            go_wp2_with fail
            go_ret
            exact ⟨rfl, HB2.out⟩
          | false =>
            by_cases hgr : grace < now - time
            · have hr : R = false := by rw [HR1.out, if_neg hlo, if_pos ⟨rfl, hgr⟩]
              subst hr
              go_wp2_with fail
              refine (HOLD.out _).mono ?_
              rintro e w3 ⟨rfl, rfl⟩
              go_wp2_with fail
              go_ret
              exact ⟨rfl, HB2.out⟩
            · have hr : R = true := by rw [HR1.out, if_neg hlo, if_neg fun h => hgr h.2]
              have HDG := Lib.hid (show decide (grace < now - time) = false from decide_eq_false hgr)
              subst hr
              go_wp2_with fail
              refine (HOLD.out _).mono ?_
              rintro e w3 ⟨rfl, rfl⟩
              go_wp2_with fail
              go_ret
              refine ⟨?_, HB2.out⟩
              show Ending.returned (Value.bool (!decide (grace < now - time))) = _
              rw [HDG.out]
              rfl

set_option maxHeartbeats 4000000 in
theorem cr.segment_any (A : Option Addr) (n c : Nat) (bs : List Bat) (w0 : World) (p : Nat) (most : Int) (lm : List PItm) (upto now grace : Int) (w : World) (hat : BatsAt w A bs) (hn : bs.length = n) (hsm : fo.Small bs) (htm : ∀ x ∈ bs, ∀ r ∈ x.recs, 0 ≤ r.time) (hkm : RMapAt w0 w p most lm) (h0w : Below w0.heap.size w0 w) (hlm : lm.length ≤ 10000)
    (hnow : 0 ≤ now ∧ now ≤ 9223372036854775807) (hgr : 0 ≤ grace ∧ grace ≤ 9223372036854775807) :
    Calls Try.prog 19 #[.slice A n c, .pointer (some ⟨p, 0, none⟩), .int .i64 upto, .int .i64 now, .int .i64 grace] w (fr.Post (ps.all (cl.stays (pf.look lm) upto now grace) bs) w) := by
  have hn1 : n ≤ 1000000 := by rw [← hn]; exact hsm.1
  have hrec := fun (r : Rec) (Ak : Option Addr) (nk ck : Nat) (Av : Option Addr) (nv cv : Nat) (wx : World) (hb : Below w.heap.size w wx) (hl : r.key.length = nk) (hm : nk ≤ maxLen) (ha : At wx Ak nk (byteAt r.key)) (ht : 0 ≤ r.time ∧ r.time ≤ 9223372036854775807) =>
    show Calls Try.prog 17 #[.agg #[.int .i64 r.off, .int .i64 r.time, .bool r.hasKey, .slice Ak nk ck, .bool r.hasVal, .slice Av nv cv], .pointer (some ⟨p, 0, none⟩), .int .i64 upto, .int .i64 now, .int .i64 grace] wx (fun e w' => e = .returned (.bool (cl.stays (pf.look lm) upto now grace r)) ∧ Below wx.heap.size wx w') from by
      subst hl
      exact cr.record_any r Ak ck Av nv cv w0 p most lm upto now grace wx (hkm.chg (P := fun _ => False) (chg_of hb) fun _ h => h.elim) (h0w.trans (hb.mono h0w.size)) hlm hm ha ht hnow hgr
  generalize cl.stays (pf.look lm) upto now grace = F at *
  have HREC := Lib.hid hrec; clear hrec hkm h0w hlm hnow hgr
  have HAT := Lib.hid hat; clear hat
  have HN := Lib.hid hn; clear hn
  have HSM := Lib.hid (And.intro hsm htm); clear hsm htm
  obtain ⟨i0, hi, hz0, hz1', hz2⟩ := info_parts fo.infoB
  have HI := Lib.hid (And.intro hi (And.intro hz0 (And.intro hz1' hz2))); clear hi hz0 hz1' hz2
  obtain ⟨j0, hi, hz0, hz1', hz2⟩ := info_parts rc.info
  have HJ := Lib.hid (And.intro hi (And.intro hz0 (And.intro hz1' hz2))); clear hi hz0 hz1' hz2
  go_enter Try.func19, Try.ntmps19
  go_wp2_with fail
  go_loopw [11, 12] (fun s7 s8 wx => ∃ (k N : Nat) (v : Value) (xs : List Value), v = s7 ∧ s8 = .int .i64 (k : Int) ∧ k ≤ n ∧ N = (ps.all F (bs.take k)).length ∧ wx.ownsRow w.heap.size 46 6 v N xs ∧ fo.Cps wx v xs (ps.all F (bs.take k)) ∧ Below w.heap.size w wx) (fun _ s8 _ => n - (intOf s8).toNat)
  case atStart => exact ⟨0, 0, _, [], rfl, rfl, by omega, rfl, World.ownsRow_nil _ _ _ _, fun i b h => (by simp [ps.all] at h), Below.refl _ _⟩
  case round =>
    obtain ⟨k, N, v, xs, rfl, rfl, hk, hN, hown, hcps, hbw⟩ := hrel
    have HBW := Lib.hid hbw; clear hbw
    have HOWN := Lib.hid hown; clear hown
    have HCPS := Lib.hid hcps; clear hcps
    have hNn : N ≤ n := by
      have h := ps.all_len F (bs.take k)
      rw [List.length_take] at h
      omega
    have HNL := Lib.hid hN; clear hN
    by_cases hlt : k < n
    · have hlt' : (k : Int) < n := by omega
      obtain ⟨x, hx⟩ : ∃ x, bs[k]? = some x := ⟨_, List.getElem?_eq_getElem (by rw [HN.out]; exact hlt)⟩
      obtain ⟨b2, off2, v2, hA2, hb2, d0, d1, d2, d3, d4, d5, hrecs, i0', i1', i2', i3', i4'⟩ := HAT.out.at' hx
      subst hA2
      obtain ⟨A4, c4, V4, rfl, hmc, hc4, -⟩ := id hrecs
      obtain ⟨m, hm⟩ : ∃ m, m = x.recs.length := ⟨_, rfl⟩
      obtain ⟨hm1, hrs⟩ := HSM.out.1.2 x (List.mem_of_getElem? hx)
      have htx := HSM.out.2 x (List.mem_of_getElem? hx)
      rw [← hm] at d5 hmc hrecs hm1
      have hbw0 := HBW.out
      have e0 := (hbw0.cell (p := ⟨b2, off2 + k * 6, none⟩) hb2).trans d0
      have e1 := (hbw0.cell (p := ⟨b2, off2 + k * 6 + 1, none⟩) hb2).trans d1
      have e2 := (hbw0.cell (p := ⟨b2, off2 + k * 6 + 2, none⟩) hb2).trans d2
      have e3 := (hbw0.cell (p := ⟨b2, off2 + k * 6 + 3, none⟩) hb2).trans d3
      have e4 := (hbw0.cell (p := ⟨b2, off2 + k * 6 + 4, none⟩) hb2).trans d4
      have e5 := (hbw0.cell (p := ⟨b2, off2 + k * 6 + 5, none⟩) hb2).trans d5
      have HRECS := Lib.hid hrecs
      have HTX := Lib.hid (And.intro hrs htx); clear hrs htx
      have HX := Lib.hid (And.intro hx (And.intro hm (And.intro i0' (And.intro i1' (And.intro i2' (And.intro i3' i4')))))); clear hx hm i0' i1' i2' i3' i4' d0 d1 d2 d3 d4 d5 hrecs hbw0
      obtain ⟨Ar, cr, rfl, -, -⟩ := own_at HOWN.out
      have hrlt := HOWN.out.lt
      have hws := HBW.out.size
      obtain ⟨g, hg⟩ : ∃ g, g = wr.heap.size := ⟨_, rfl⟩
      obtain ⟨w3, hw3⟩ : ∃ w3, w3 = wr.alloc (.cells #[.int .i64 x.base, .int .i64 x.last, .int .i64 x.prod, .int .i64 x.epoch, .int .i64 x.seq, .slice A4 m c4] 46) := ⟨_, rfl⟩
      have hk3 : Blk w3 g 46 #[.int .i64 x.base, .int .i64 x.last, .int .i64 x.prod, .int .i64 x.epoch, .int .i64 x.seq, .slice A4 m c4] := by rw [hw3, hg]; exact Blk.new _ _ _
      have hb3 : Below wr.heap.size wr w3 := by rw [hw3]; exact (Below.refl _ _).alloc (Nat.le_refl _) _
      have hgw : w.heap.size ≤ g := by omega
      have hs3 : w3.heap.size = g + 1 := by rw [hw3, hg]; simp
      have c5' : w3.cell? ⟨g, 5, none⟩ = some (.slice A4 m c4) := hk3.cell 5 rfl
      have H3 := Lib.hid (And.intro hk3 hb3)
      have HG := Lib.hid (And.intro hg hw3); clear hk3 hb3 hg hw3
      go_upto_region 6 with fail
      rw [← HG.out.2, ← HG.out.1]
      clear e0 e1 e2 e3 e4 e5
      go_wp2_with fail
      rename_i KO hKO
          go_wp2_with fail
          go_wp2_with fail
      clear c5'
      obtain ⟨wo, rfl⟩ : ∃ wo : World, wo = wr := ⟨_, rfl⟩
      go_loopw [14, 15] (fun s10 s11 wy => ∃ (j M : Nat) (u : Value) (ys : List Value), u = s10 ∧ s11 = .int .i64 (j : Int) ∧ j ≤ m ∧ M = ((x.recs.take j).filter F).length ∧ wy.ownsRow (g + 1) 34 6 u M ys ∧ rc.Row w ys ((x.recs.take j).filter F) ∧ Blk wy g 46 #[.int .i64 x.base, .int .i64 x.last, .int .i64 x.prod, .int .i64 x.epoch, .int .i64 x.seq, .slice A4 m c4] ∧ Below wo.heap.size wo wy) (fun _ s11 _ => m - (intOf s11).toNat)
      case atStart => exact ⟨0, 0, _, [], rfl, rfl, by omega, rfl, World.ownsRow_nil _ _ _ _, rc.Row.nil _, H3.out.1, H3.out.2⟩
      case round =>
        obtain ⟨j, M, u, ys, rfl, rfl, hj, hM, hrown, hrow, hblk, hby⟩ := hrel
        clear H3
        have HBLK := Lib.hid hblk; clear hblk
        have HROWN := Lib.hid hrown; clear hrown
        have HROW := Lib.hid hrow; clear hrow
        have HBY := Lib.hid hby; clear hby
        have HML := Lib.hid hM; clear hM
        have hMj : M ≤ j := by
          rw [HML.out]
          refine Nat.le_trans (List.length_filter_le _ _) ?_
          rw [List.length_take]
          omega
        have hgs : g + 1 ≤ wr.heap.size := HBLK.out.lt
        obtain ⟨Au, cu, rfl, -, -⟩ := own_at HROWN.out
        have hult := HROWN.out.lt
        have hug : (Value.slice Au M cu).ownBlock ≠ some g := HBLK.out.not_row (by decide) HROWN.out
        by_cases hjm : j < m
        · have hjm' : (j : Int) < m := by omega
          obtain ⟨y, hy⟩ : ∃ y, x.recs[j]? = some y := ⟨_, List.getElem?_eq_getElem (by rw [← HX.out.2.1]; exact hjm)⟩
          obtain ⟨pr, off, c', kv, vv, hA, -, -, hpr, d0, d1, d2, d3, d4, d5, hkv0, hvv0, hio, hti⟩ := HRECS.out.at' hy
          obtain ⟨rfl, rfl⟩ : A4 = some ⟨pr, off, none⟩ ∧ c4 = c' := by simp at hA; exact ⟨hA.1, hA.2.2⟩
          have hrec1 : RecR w [.int .i64 y.off, .int .i64 y.time, .bool y.hasKey, kv, .bool y.hasVal, vv] y := ⟨kv, vv, rfl, hkv0, hvv0, hio, hti⟩
          obtain ⟨Ak, ck, rfl, hka, hk1, hk2, -⟩ := hkv0
          obtain ⟨Av, cv, rfl, -⟩ := hvv0
          obtain ⟨nk, hnk⟩ : ∃ nk, nk = y.key.length := ⟨_, rfl⟩
          obtain ⟨nv, hnv⟩ : ∃ nv, nv = y.val.length := ⟨_, rfl⟩
          rw [← hnk] at d3 hrec1 hka hk1
          rw [← hnv] at d5 hrec1
          have hb0 : Below w.heap.size w wr := HBW.out.trans (HBY.out.mono hws)
          have hty := HTX.out.2 y (List.mem_of_getElem? hy)
          have hcall := fun (wx : World) (hb : Below w.heap.size w wx) => HREC.out y Ak nk ck Av nv cv wx hb hnk.symm (Nat.le_trans hk1 hk2) (hka.below hb (Nat.le_refl _)) ⟨hty, hti.2⟩
          have HCALL := Lib.hid hcall; clear hcall hnk hnv hty hka hk1 hk2
          have e0 := (hb0.cell (p := ⟨pr, off + j * 6, none⟩) hpr).trans d0
          have e1 := (hb0.cell (p := ⟨pr, off + j * 6 + 1, none⟩) hpr).trans d1
          have e2 := (hb0.cell (p := ⟨pr, off + j * 6 + 2, none⟩) hpr).trans d2
          have e3 := (hb0.cell (p := ⟨pr, off + j * 6 + 3, none⟩) hpr).trans d3
          have e4 := (hb0.cell (p := ⟨pr, off + j * 6 + 4, none⟩) hpr).trans d4
          have e5 := (hb0.cell (p := ⟨pr, off + j * 6 + 5, none⟩) hpr).trans d5
          have HY := Lib.hid (And.intro hy hrec1); clear hy hrec1 d0 d1 d2 d3 d4 d5 hA hio hti
          have c5 : wr.cell? ⟨g, 5, none⟩ = some (.slice (some ⟨pr, off, none⟩) m c4) := HBLK.out.cell 5 rfl
          have hprw : pr < wr.heap.size := Nat.lt_of_lt_of_le hpr hb0.size
          go_wp2_with fail
          refine (HCALL.out wr hb0).mono ?_
          rintro e w5 ⟨rfl, hb5⟩
          have hg5 : Blk w5 g 46 #[.int .i64 x.base, .int .i64 x.last, .int .i64 x.prod, .int .i64 x.epoch, .int .i64 x.seq, .slice (some ⟨pr, off, none⟩) m c4] := (hb5.block g hgs).trans HBLK.out
          have hr5 := (chg_of (P := fun _ => False) hb5).own HROWN.out fun _ _ h => h.elim
          have s0 := (hb5.cell (p := ⟨pr, off + j * 6, none⟩) hprw).trans e0
          have s1 := (hb5.cell (p := ⟨pr, off + j * 6 + 1, none⟩) hprw).trans e1
          have s2 := (hb5.cell (p := ⟨pr, off + j * 6 + 2, none⟩) hprw).trans e2
          have s3 := (hb5.cell (p := ⟨pr, off + j * 6 + 3, none⟩) hprw).trans e3
          have s4 := (hb5.cell (p := ⟨pr, off + j * 6 + 4, none⟩) hprw).trans e4
          have s5 := (hb5.cell (p := ⟨pr, off + j * 6 + 5, none⟩) hprw).trans e5
          have hpr5 : pr < w5.heap.size := Nat.lt_of_lt_of_le hprw hb5.size
          have k5 : w5.cell? ⟨g, 5, none⟩ = some (.slice (some ⟨pr, off, none⟩) m c4) := hg5.cell 5 rfl
          have H5 := Lib.hid (And.intro hg5 (And.intro hg5 (And.intro hr5 (HBY.out.trans (hb5.mono HBY.out.size))))); clear hg5 hr5 hb5 HCALL hb0
          clear e0 e1 e2 e3 e4 e5 c5
          have hstay : ∀ t : Bool, F y = t → (x.recs.take (j + 1)).filter F = (x.recs.take j).filter F ++ if t = true then [y] else [] := fun t h => by rw [ps.recs_succ HY.out.1, h]
          have HST := Lib.hid hstay; clear hstay
          obtain ⟨t, ht⟩ : ∃ t, F y = t := ⟨_, rfl⟩
          rw [ht]
          have hsucc := HST.out t ht
          clear HST
          have HT := Lib.hid ht; clear ht
          cases t with
          | true =>
            rw [if_pos rfl] at hsucc
            have hrow2 : rc.Row w (ys ++ [.int .i64 y.off, .int .i64 y.time, .bool y.hasKey, .slice Ak nk ck, .bool y.hasVal, .slice Av nv cv]) ((x.recs.take (j + 1)).filter F) := by
              rw [hsucc]
              exact HROW.out.append (rc.Row.one HY.out.2 rfl)
            have hM2 : M + 1 = ((x.recs.take (j + 1)).filter F).length := by rw [hsucc, List.length_append, ← HML.out]; rfl
            have HSU := Lib.hid (And.intro hrow2 hM2); clear hsucc hrow2 hM2
            have hb6 : Below w5.heap.size w5 (w5.alloc (.cells #[.int .i64 y.off, .int .i64 y.time, .bool y.hasKey, .slice Ak nk ck, .bool y.hasVal, .slice Av nv cv] 34)) := (Below.refl _ _).alloc (Nat.le_refl _) _
            have hg6 : Blk (w5.alloc (.cells #[.int .i64 y.off, .int .i64 y.time, .bool y.hasKey, .slice Ak nk ck, .bool y.hasVal, .slice Av nv cv] 34)) g 46 #[.int .i64 x.base, .int .i64 x.last, .int .i64 x.prod, .int .i64 x.epoch, .int .i64 x.seq, .slice (some ⟨pr, off, none⟩) m c4] := (hb6.block g H5.out.2.1.lt).trans H5.out.2.1
            have hs5 : g + 1 ≤ w5.heap.size := H5.out.2.1.lt
            have H6 := Lib.hid (And.intro hg6 (And.intro (H5.out.2.2.1.alloc (.cells #[.int .i64 y.off, .int .i64 y.time, .bool y.hasKey, .slice Ak nk ck, .bool y.hasVal, .slice Av nv cv] 34)) (H5.out.2.2.2.trans (hb6.mono H5.out.2.2.2.size)))); clear hg6 hb6
            go_wp2_with (at_builtin; go_loud (refine wpList_append_own_at _ rfl (.tmp 43) (.tmp 49) 44 rfl (g + 1) 34 j0 _ 6 80 Try.underlying44 HJ.out.1 HJ.out.2.1 HJ.out.2.2.1 HJ.out.2.2.2 rfl (by decide) (.slice Au M cu) M ys rfl H6.out.2.1 ⟨w5.heap.size, 0, none⟩ 1 1 [.int .i64 y.off, .int .i64 y.time, .bool y.hasKey, .slice Ak nk ck, .bool y.hasVal, .slice Av nv cv] rfl rfl (cells_new _ [.int .i64 y.off, .int .i64 y.time, .bool y.hasKey, .slice Ak nk ck, .bool y.hasVal, .slice Av nv cv] _ _ rfl) (by simp [Value.oneCell']) (by unfold maxLen; omega) (by omega) (by simp; omega) ?_; intro v2 w9 h1 h2 _ h3; have H9 := Lib.hid (And.intro h1 (And.intro ((Chg.grown h2).blk H6.out.1 hug) (H6.out.2.2.grown h2 (by simp; have := H5.out.2.2.2.size; omega) (fun q' hq' => by have := (hult q' hq').1; have := HG.out.1; omega)))); clear h1 h2 h3))
            go_wp2_with fail
            go_roundw
            case rel => exact ⟨j + 1, M + 1, v2, _, rfl, by go_num, by omega, HSU.out.2, H9.out.1, HSU.out.1, H9.out.2.1, H9.out.2.2⟩
            case measure => simp [intOf]; omega
          | false =>
            rw [if_neg (by decide), List.append_nil] at hsucc
            have HSU := Lib.hid hsucc; clear hsucc
            go_wp2_with fail
            go_roundw
            case rel => exact ⟨j + 1, M, _, ys, rfl, by go_num, by omega, by rw [HSU.out]; exact HML.out, H5.out.2.2.1, by rw [HSU.out]; exact HROW.out, H5.out.2.1, H5.out.2.2.2⟩
            case measure => simp [intOf]; omega
        · obtain rfl : j = m := by omega
          have hfull : (ps.cut F x).recs = (x.recs.take j).filter F := by
            rw [List.take_of_length_le (by rw [← HX.out.2.1]; exact Nat.le_refl _)]
            rfl
          have hts := ps.take_succ (F := F) HX.out.1
          rw [hfull, ← HML.out] at hts
          have HTS := Lib.hid (And.intro hts hfull); clear hts hfull
          have c5 : wr.cell? ⟨g, 5, none⟩ = some (.slice A4 j c4) := HBLK.out.cell 5 rfl
          have f5 := HBLK.out.frozen 5
          obtain ⟨w4, hw4⟩ : ∃ w4, w4 = wr.setCell ⟨g, 5, none⟩ (.slice Au M cu) := ⟨_, rfl⟩
          have hc4 : Chg wr w4 (fun k => k = g) := by rw [hw4]; exact Chg.setCell _ _ _ _
          have hk4 : Blk w4 g 46 #[.int .i64 x.base, .int .i64 x.last, .int .i64 x.prod, .int .i64 x.epoch, .int .i64 x.seq, .slice Au M cu] := by rw [hw4]; exact HBLK.out.set 5 _
          have hb4 : Below wo.heap.size wo w4 := HBY.out.trans (hc4.below HBY.out.size fun k hk => by have hk : k = g := hk; have := HG.out.1; omega)
          have hr4 : w4.ownsRow (g + 1) 34 6 (.slice Au M cu) M ys := hc4.own HROWN.out fun q' hq' hh => by have hh : q' = g := hh; rw [hh] at hq'; exact hug hq'
          have H4 := Lib.hid (And.intro hk4 (And.intro hb4 hr4)); clear hc4 hk4 hb4 hr4
          have HW4 := Lib.hid hw4; clear hw4
          go_upto_region 13 with fail
          rw [← HW4.out]
          clear c5 f5 HBLK HBY HROWN HW4
          by_cases hM0 : 0 < M
          · have hM0' : (0 : Int) < (M : Int) := by omega
            have hb1 : Below wo.heap.size wo w4 := H4.out.2.1
            obtain ⟨w5, hw5⟩ : ∃ w5, w5 = w4.alloc (.cells #[.int .i64 x.base, .int .i64 x.last, .int .i64 x.prod, .int .i64 x.epoch, .int .i64 x.seq, .slice Au M cu] 46) := ⟨_, rfl⟩
            have hb45 : Below w4.heap.size w4 w5 := by rw [hw5]; exact (Below.refl _ _).alloc (Nat.le_refl _) _
            have hb15 : Below wo.heap.size wo w5 := hb1.trans (hb45.mono hb1.size)
            have hs5 : w5.heap.size = w4.heap.size + 1 := by rw [hw5]; simp
            have hs1 := hb1.size
            have hown5 := (chg_of (P := fun _ => False) hb15).own HOWN.out fun _ _ h => h.elim
            have hcps5 : fo.Cps w5 (.slice Ar N cr) xs (ps.all F (bs.take k)) := fun i b hi => (HCPS.out i b hi).below hb15
            have hrow := HROW.out
            rw [← HTS.out.2] at hrow
            have hdep := rs.dep hrow (HBW.out.trans (hb1.mono hws)) (by rw [HTS.out.2]; exact HML.out.symm) H4.out.2.2
            have hcp5 : fo.Cp w5 (.slice Ar N cr) [.int .i64 x.base, .int .i64 x.last, .int .i64 x.prod, .int .i64 x.epoch, .int .i64 x.seq, .slice Au M cu] (ps.cut F x) := by
              refine ⟨_, rfl, (hdep.below hb45).weak fun q' hq' _ e => ?_, HX.out.2.2⟩
              have h1 := hrlt q' e
              rcases hq' with h2 | h2
              · omega
              · have := (hult q' h2).1
                have := HG.out.1
                omega
            have hxl := hown5.1
            have happ : ∀ v2 w9, w9.ownsRow w.heap.size 46 6 v2 (N + 1) (xs ++ [.int .i64 x.base, .int .i64 x.last, .int .i64 x.prod, .int .i64 x.epoch, .int .i64 x.seq, .slice Au M cu]) → w5.grownBy w9 (Value.slice Ar N cr).ownBlock → (v2.ownBlock = (Value.slice Ar N cr).ownBlock ∨ v2.ownBlock = some w5.heap.size) →
                N + 1 = (ps.all F (bs.take (k + 1))).length ∧ fo.Cps w9 v2 (xs ++ [.int .i64 x.base, .int .i64 x.last, .int .i64 x.prod, .int .i64 x.epoch, .int .i64 x.seq, .slice Au M cu]) (ps.all F (bs.take (k + 1))) ∧ Below w.heap.size w w9 := fun v2 w9 h1 h2 h3 => by
              rw [HTS.out.1, if_pos hM0]
              refine ⟨by rw [List.length_append, ← HNL.out]; rfl, hcps5.snoc (by rw [← HNL.out]; exact hxl) hcp5 rfl h2 h3, (HBW.out.trans (hb15.mono hws)).grown h2 (by omega) (fun q' hq' => (hrlt q' hq').1)⟩
            have HAPP := Lib.hid happ; clear happ hcps5 hcp5 hxl hrow hdep
            have HOWN5 := Lib.hid hown5; clear hown5 hb45 hb15 hb1
            have l0 := H4.out.1.cell 0 rfl
            have l1 := H4.out.1.cell 1 rfl
            have l2 := H4.out.1.cell 2 rfl
            have l3 := H4.out.1.cell 3 rfl
            have l4 := H4.out.1.cell 4 rfl
            have l5 := H4.out.1.cell 5 rfl
            rw [hw5] at HAPP HOWN5 hs5
            clear hw5
            go_wp2_with (at_builtin; go_loud (refine wpList_append_own_at _ rfl (.tmp 56) (.tmp 58) 31 rfl w.heap.size 46 i0 _ 6 64 Try.underlying31 HI.out.1 HI.out.2.1 HI.out.2.2.1 HI.out.2.2.2 rfl (by decide) (.slice Ar N cr) N xs rfl HOWN5.out ⟨w4.heap.size, 0, none⟩ 1 1 [.int .i64 x.base, .int .i64 x.last, .int .i64 x.prod, .int .i64 x.epoch, .int .i64 x.seq, .slice Au M cu] rfl rfl (cells_new _ [.int .i64 x.base, .int .i64 x.last, .int .i64 x.prod, .int .i64 x.epoch, .int .i64 x.seq, .slice Au M cu] _ _ rfl) (by simp [Value.oneCell']) (by unfold maxLen; omega) (by omega) (by rw [hs5]; omega) ?_; intro v2 w9 h1 h2 _ h3; have HN2 := Lib.hid (And.intro h1 (HAPP.out v2 w9 h1 h2 h3)); clear h1 h2 h3))
            go_wp2_with fail
            go_roundw
            case rel => exact ⟨k + 1, N + 1, v2, _, rfl, by go_num, by omega, HN2.out.2.1, HN2.out.1, HN2.out.2.2.1, HN2.out.2.2.2⟩
            case measure => simp [intOf]; omega
          · obtain rfl : M = 0 := by omega
            have hall : ps.all F (bs.take (k + 1)) = ps.all F (bs.take k) := by rw [HTS.out.1, if_neg (by omega), List.append_nil]
            have HALL := Lib.hid hall; clear hall hM0
            go_wp2_with fail
            go_roundw
            case rel => exact ⟨k + 1, N, .slice Ar N cr, xs, rfl, by go_num, by omega, by rw [HALL.out]; exact HNL.out, (chg_of (P := fun _ => False) H4.out.2.1).own HOWN.out fun _ _ h => h.elim, by rw [HALL.out]; exact fun i b hi => (HCPS.out i b hi).below H4.out.2.1, HBW.out.trans (H4.out.2.1.mono hws)⟩
            case measure => simp [intOf]; omega
    · obtain rfl : k = n := by omega
      have hcps := HCPS.out
      have hN := HNL.out
      rw [List.take_of_length_le (by rw [HN.out]; exact Nat.le_refl _)] at hcps hN
      obtain ⟨A9, c9, rfl, h1, h2, h3⟩ := hcps.bats hN.symm HOWN.out
      have H9 := Lib.hid (And.intro hN (And.intro h1 (And.intro h2 h3))); clear h1 h2 h3 hcps hN
      go_wp2_with fail
      go_ret
      exact ⟨A9, c9, by rw [← H9.out.1]; rfl, by rw [← H9.out.1]; exact H9.out.2.1, H9.out.2.2.1, H9.out.2.2.2, HBW.out⟩
def POff (X : Option Addr) (m c : Nat) (K : List Nat) (o : Int) : PItm := ⟨X, m, c, K, none, 0, 0, [], o⟩
theorem POff.bytes {w : World} {X : Option Addr} {m c : Nat} {K : List Nat} (o : Int) (hk : K.length = m) (hm : m ≤ 1000000) (h : At w X m (byteAt K)) : PBytes w (POff X m c K o) := ⟨hk, hm, h, rfl, Nat.zero_le _, fun h => absurd h (Nat.lt_irrefl 0)⟩
theorem pf.put_mem {l : List PItm} {x y : PItm} (h : y ∈ pf.put l x) : y = x ∨ y ∈ l := by
  unfold pf.put at h
  rcases List.mem_append.1 h with h | h
  · rcases List.mem_append.1 h with h | h
    · exact .inr (List.mem_of_mem_take h)
    · exact .inl (List.mem_singleton.1 h)
  · exact .inr (List.mem_of_mem_drop h)

/-- What a store of the new row leaves. -/
theorem RMapAt.stored {w0 w w1 w2 wf : World} {r : Nat} {most : Int} {l : List PItm} {v v' : Value} {x : PItm} (hr : Blk w r 80 #[.int .i64 most, v]) (hb : ∀ y ∈ l, PBytes w0 y) (hx : PBytes w0 x)
    (h1 : Below w.heap.size w w1) (h2 : Below w1.heap.size w1 w2) (ho : w2.ownsRow w1.heap.size 95 3 v' (pf.put l x).length (pf.row (pf.put l x))) (e : wf = w2.setCell ⟨r, 1, none⟩ v') :
    RMapAt w0 wf r most (pf.put l x) ∧ Chg w wf (fun k => k = r) := by
  have h12 : Below w.heap.size w w2 := h1.trans (h2.mono h1.size)
  have hr2 := (chg_of (P := fun _ => False) h12).blk hr fun h => h
  have hrf : Blk wf r 80 #[.int .i64 most, v'] := by rw [e]; exact hr2.set 1 _
  have hcf : Chg w2 wf (fun k => k = r) := by rw [e]; exact Chg.setCell _ _ _ _
  have hof := hcf.own ho fun k hk e => by subst e; exact hr2.not_row (by decide) ho hk
  exact ⟨⟨v', hrf, ownsRow_base hof (Nat.zero_le _), fun y hy => (pf.put_mem hy).elim (fun e => e ▸ hx) (hb y)⟩, (chg_of (P := fun k => k = r) h12).trans hcf fun _ _ h => h⟩

def rmap.OfferPost (w0 w : World) (r : Nat) (most : Int) (l : List PItm) (x : PItm) (e : Ending) (w' : World) : Prop :=
  e = .returned (.bool (pf.can l most x.key)) ∧ RMapAt w0 w' r most (pf.offer l most x) ∧ Chg w w' (fun k => k = r)

set_option maxHeartbeats 400000 in
theorem rmap.offer_any (w0 : World) (r : Nat) (most : Int) (l : List PItm) (X : Option Addr) (m cx : Nat) (K : List Nat) (o : Int) (w : World) (h : RMapAt w0 w r most l) (h0 : Below w0.heap.size w0 w) (hlen : l.length ≤ 10000) (hk : K.length = m) (hm : m ≤ 1000000) (hka : At w0 X m (byteAt K)) :
    Calls Try.prog 36 #[.pointer (some ⟨r, 0, none⟩), .slice X m cx, .int .i64 o] w (rmap.OfferPost w0 w r most l (POff X m cx K o)) := by
  obtain ⟨v, h1, h2, h3⟩ := h
  obtain ⟨A, c, rfl, hnc, hat⟩ := own_at h2
  obtain ⟨n, hn⟩ : ∃ n, n = l.length := ⟨_, rfl⟩
  have hb := fun x hx => (h3 x hx).below h0 (Nat.le_refl _)
  have hf := pf.find_any A n c l X m cx K w hn.symm (by omega) hat hb hk (hka.below h0 (Nat.le_refl _))
  have hput : ∀ (o' : Int) (q : Nat), Calls Try.prog 51 #[.slice A n c, (POff X m cx K o').agg] (w.drewN q) fun e w' => ∃ v, e = .returned v ∧ w'.ownsRow w.heap.size 95 3 v (pf.put l (POff X m cx K o')).length (pf.row (pf.put l (POff X m cx K o'))) ∧ Below w.heap.size (w.drewN q) w' := fun o' q =>
    pf.put_any A n c l (POff X m cx K o') (w.drewN q) hn.symm (by omega) (by rw [hn]; exact hnc) hat hb ((POff.bytes o' hk hm hka).below (bdrew h0 q) (Nat.le_refl _))
  have hfin : ∀ (q : Nat) (o' : Int) (w2 wf : World) (v' : Value), Below w.heap.size (w.drewN q) w2 → w2.ownsRow w.heap.size 95 3 v' (pf.put l (POff X m cx K o')).length (pf.row (pf.put l (POff X m cx K o'))) → wf = w2.setCell ⟨r, 1, none⟩ v' → RMapAt w0 wf r most (pf.put l (POff X m cx K o')) ∧ Chg w wf (fun k => k = r) := fun q o' w2 wf v' hb2 ho e =>
    RMapAt.stored (w1 := w.drewN q) h1 h3 (POff.bytes o' hk hm hka) (bdrew (Below.refl _ w) q) hb2 ho e
  have hstill : RMapAt w0 w r most l := ⟨_, h1, h2, h3⟩
  have hblk : ∀ (q : Nat) (w2 : World), Below w.heap.size (w.drewN q) w2 → Blk w2 r 80 #[.int .i64 most, .slice A n c] := fun q w2 hb2 => by
    have h1' : Blk w r 80 #[.int .i64 most, .slice A n c] := by rw [hn]; exact h1
    exact (hb2.block r h1.lt).trans h1'
  have u1 : ∀ q, (w.drewN q).cell? ⟨r, 1, none⟩ = some (.slice A n c) := fun _ => by rw [hn]; exact h1.cell 1 rfl
  have u0 : ∀ q, (w.drewN q).cell? ⟨r, 0, none⟩ = some (.int .i64 most) := fun _ => h1.cell 0 rfl
  have c1 : w.cell? ⟨r, 1, none⟩ = some (.slice A n c) := u1 0
  have HF := Lib.hid hf; clear hf
  have HPUT := Lib.hid hput; clear hput
  have HFIN := Lib.hid hfin; clear hfin
  have HST := Lib.hid hstill; clear hstill
  have HBLK := Lib.hid hblk; clear hblk
  rw [← hn] at hlen
  obtain ⟨t, ht⟩ : ∃ t, t = pf.has l (strOf K) := ⟨_, rfl⟩
  obtain ⟨k, hkp⟩ : ∃ k, k = pf.place l (strOf K) := ⟨_, rfl⟩
  rw [← ht, ← hkp] at HF
  have hkey : (POff X m cx K o).key = strOf K := rfl
  cases t with
  | false =>
    by_cases hroom : (n : Int) < most
    · have hcan : pf.can l most (POff X m cx K o).key = true := by unfold pf.can; rw [hkey, ← ht, ← hn]; simpa using hroom
      have hoff : pf.offer l most (POff X m cx K o) = pf.put l (POff X m cx K o) := by unfold pf.offer; rw [if_pos hcan]; unfold pf.raise; rw [hkey, ← ht]
      have HE := Lib.hid (And.intro hcan hoff); clear hcan hoff
      clear ht hkp h1 h2 h3 hat hb hk hka hkey hn
      have hd : decide (most ≤ (n : Int)) = false := decide_eq_false (by omega)
      go_enter Try.func36, Try.ntmps36
      go_wp2_with fail
      refine HF.out.mono ?_
      rintro e w1 ⟨rfl, q, rfl⟩
      go_wp2_with fail
      go_quiet (fail)
      go_wp2_with fail
      refine (HPUT.out o (q + nq)).mono ?_
      rintro e w2 ⟨v', rfl, ho, hb2⟩
      obtain ⟨A9, c9, rfl, -⟩ := own_at ho
      have hbk := HBLK.out (q + nq) w2 hb2
      have d1 := hbk.cell 1 rfl
      have ff := hbk.frozen 1
      have HFI := Lib.hid (fun wf => HFIN.out (q + nq) o w2 wf _ hb2 ho); clear hbk ho hb2
      generalize (pf.put l (POff X m cx K o)).length = nl at *
      go_wp2
      go_ret
      obtain ⟨g1, g2⟩ := HFI.out _ rfl
      exact ⟨by rw [HE.out.1]; rfl, by rw [HE.out.2]; exact g1, g2⟩
    · have hcan : pf.can l most (POff X m cx K o).key = false := by unfold pf.can; rw [hkey, ← ht, ← hn]; simpa using hroom
      have hoff : pf.offer l most (POff X m cx K o) = l := by unfold pf.offer; rw [if_neg (by rw [hcan]; decide)]
      have HE := Lib.hid (And.intro hcan hoff); clear hcan hoff
      clear ht hkp h1 h2 h3 hat hb hk hka hkey hn
      have hd : decide (most ≤ (n : Int)) = true := decide_eq_true (by omega)
      go_enter Try.func36, Try.ntmps36
      go_wp2_with fail
      refine HF.out.mono ?_
      rintro e w1 ⟨rfl, q, rfl⟩
      go_wp2_with fail
      go_quiet (fail)
      go_wp2
      go_ret
      have hbd : Below w.heap.size w ((w.drewN q).drewN nq) := bdrew (bdrew (Below.refl _ w) _) _
      exact ⟨by rw [HE.out.1]; rfl, by rw [HE.out.2]; exact HST.out.below hbd, chg_of hbd⟩
  | true =>
    obtain ⟨y, hy⟩ := pf.has_at ht.symm
    rw [← hkp] at hy
    have hcan : pf.can l most (POff X m cx K o).key = true := by unfold pf.can; rw [hkey, ← ht]; rfl
    have hoff : pf.offer l most (POff X m cx K o) = pf.put l (POff X m cx K (max o y.off)) := by unfold pf.offer; rw [if_pos hcan]; unfold pf.raise; rw [hkey, ← ht, ← hkp, hy]; rfl
    have HE := Lib.hid (And.intro hcan hoff); clear hcan hoff
    have hkn : k < n := by rw [hn]; exact (List.getElem?_eq_some_iff.1 hy).1
    obtain ⟨b, off, rfl, -, -, -, d2⟩ := PAt.cells hat hy
    have u2 : ∀ q, (w.drewN q).cell? ⟨b, off + k * 3 + 2, none⟩ = some (.int .i64 y.off) := fun _ => d2
    generalize y.off = yo at *
    obtain ⟨oo, hoo⟩ : ∃ oo, oo = max o yo := ⟨_, rfl⟩
    have hmax : (if o < yo then yo else o) = oo := by rw [hoo]; split <;> omega
    have hmax2 : max o yo = oo := hoo.symm
    rw [hmax2] at HE
    clear ht hkp h1 h2 h3 hat hb hk hka hkey hn hy d2 hoo
    go_enter Try.func36, Try.ntmps36
    go_wp2_with fail
    refine HF.out.mono ?_
    rintro e w1 ⟨rfl, q, rfl⟩
    go_wp2_with fail
    go_quiet (fail)
    go_wp2_with fail
    refine (HPUT.out oo (q + nq)).mono ?_
    rintro e w2 ⟨v', rfl, ho, hb2⟩
    obtain ⟨A9, c9, rfl, -⟩ := own_at ho
    have hbk := HBLK.out (q + nq) w2 hb2
    have d1 := hbk.cell 1 rfl
    have ff := hbk.frozen 1
    have HFI := Lib.hid (fun wf => HFIN.out (q + nq) oo w2 wf _ hb2 ho); clear hbk ho hb2
    generalize (pf.put l (POff X m cx K oo)).length = nl at *
    go_wp2
    go_ret
    obtain ⟨g1, g2⟩ := HFI.out _ rfl
    exact ⟨by rw [HE.out.1]; rfl, by rw [HE.out.2]; exact g1, g2⟩
theorem pf.lt_iff (s t : ByteArray) : pf.lt s t = true ↔ s.toList < t.toList := by unfold pf.lt; rw [bytesLess_eq]; simp
theorem pf.lt_irrefl (s : ByteArray) : pf.lt s s = false := by
  rw [Bool.eq_false_iff]
  intro h
  exact List.lt_irrefl _ ((pf.lt_iff s s).1 h)
theorem pf.lt_trans {s t u : ByteArray} (h : pf.lt s t = true) (g : pf.lt t u = true) : pf.lt s u = true := (pf.lt_iff _ _).2 (List.lt_trans ((pf.lt_iff _ _).1 h) ((pf.lt_iff _ _).1 g))
theorem pf.toList_inj {s t : ByteArray} (h : s.toList = t.toList) : s = t := by
  rw [ByteArray.toList_eq, ByteArray.toList_eq] at h
  exact ByteArray.ext (Array.ext' h)
theorem pf.eq_of {s t : ByteArray} (h : pf.lt s t = false) (g : pf.lt t s = false) : s = t := by
  have h' : ¬ s.toList < t.toList := fun e => by rw [(pf.lt_iff s t).2 e] at h; cases h
  have g' : ¬ t.toList < s.toList := fun e => by rw [(pf.lt_iff t s).2 e] at g; cases g
  exact pf.toList_inj (List.le_antisymm (List.not_lt.1 g') (List.not_lt.1 h'))
theorem pf.lt_ne {s t : ByteArray} (h : pf.lt s t = true) : s ≠ t := fun e => by rw [e, pf.lt_irrefl] at h; cases h
/-- Keys rise. -/
abbrev Rises (l : List PItm) : Prop := l.Pairwise fun x y => pf.lt x.key y.key = true
theorem take_while_take {α : Type} (p : α → Bool) : ∀ (l : List α), l.take (l.takeWhile p).length = l.takeWhile p
  | [] => rfl
  | x :: l => by
    by_cases h : p x = true
    · rw [List.takeWhile_cons_of_pos h, List.length_cons, List.take_succ_cons, take_while_take p l]
    · rw [List.takeWhile_cons_of_neg h]; rfl
theorem mem_while {α : Type} (p : α → Bool) : ∀ (l : List α) (x : α), x ∈ l.takeWhile p → p x = true
  | [], _, h => by cases h
  | y :: l, x, h => by
    by_cases hp : p y = true
    · rw [List.takeWhile_cons_of_pos hp] at h
      rcases List.mem_cons.1 h with rfl | h
      · exact hp
      · exact mem_while p l x h
    · rw [List.takeWhile_cons_of_neg hp] at h; cases h
theorem pf.take_lt (l : List PItm) (s : ByteArray) : ∀ x ∈ l.take (pf.place l s), pf.lt x.key s = true := by
  intro x hx
  unfold pf.place at hx
  rw [take_while_take] at hx
  exact mem_while (fun y : PItm => pf.lt y.key s) _ _ hx
/-- What stands behind the place. -/
theorem pf.drop_gt {l : List PItm} (h : Rises l) (s : ByteArray) : ∀ x ∈ l.drop (pf.place l s + if pf.has l s then 1 else 0), pf.lt s x.key = true := by
  intro x hx
  obtain ⟨i, hi⟩ := List.getElem?_of_mem hx
  rw [List.getElem?_drop] at hi
  obtain ⟨y, hy⟩ : ∃ y, l[pf.place l s]? = some y := by
    have : pf.place l s < l.length := by have := (List.getElem?_eq_some_iff.1 hi).1; split at this <;> omega
    exact ⟨_, List.getElem?_eq_getElem this⟩
  have hstep := (while_step (fun y : PItm => pf.lt y.key s) l (pf.place l s) y (Nat.le_refl _) hy)
  have hny : pf.lt y.key s = false := by
    rw [Bool.eq_false_iff]
    intro e
    have h1 := hstep.1 e
    have h2 : (l.takeWhile fun y : PItm => pf.lt y.key s).length = pf.place l s := rfl
    omega
  have hle : ∀ j, pf.place l s < j → l[j]? = some x → pf.lt y.key x.key = true := fun j hj hx => by
    obtain ⟨a1, a2⟩ := List.getElem?_eq_some_iff.1 hy
    obtain ⟨b1, b2⟩ := List.getElem?_eq_some_iff.1 hx
    have := List.pairwise_iff_getElem.1 h _ _ a1 b1 hj
    rw [a2, b2] at this
    exact this
  cases hh : pf.has l s with
  | true =>
    rw [hh, if_pos rfl] at hi
    have hk : y.key = s := by
      unfold pf.has at hh
      rw [hy] at hh
      exact pf.toList_inj (by simpa using hh)
    have := hle _ (by omega) hi
    rwa [hk] at this
  | false =>
    rw [hh] at hi
    have hk : y.key ≠ s := fun e => by
      unfold pf.has at hh
      rw [hy] at hh
      simp [e] at hh
    have hys : pf.lt s y.key = true := by
      rw [← Bool.not_eq_false]
      intro e
      exact hk (pf.eq_of hny e)
    simp only [Bool.false_eq_true, if_false, Nat.add_zero] at hi
    by_cases hi0 : i = 0
    · subst hi0
      rw [Nat.add_zero, hy] at hi
      cases hi
      exact hys
    · exact pf.lt_trans hys (hle _ (by omega) hi)
theorem pf.has_key {l : List PItm} {s : ByteArray} {y : PItm} (h : pf.has l s = true) (hy : l[pf.place l s]? = some y) : y.key = s := by
  unfold pf.has at h
  rw [hy] at h
  exact pf.toList_inj (by simpa using h)
theorem pf.has_mem {l : List PItm} (h : Rises l) {s : ByteArray} : pf.has l s = true ↔ ∃ y ∈ l, y.key = s := by
  constructor
  · intro hh
    obtain ⟨y, hy⟩ := pf.has_at hh
    exact ⟨y, List.mem_of_getElem? hy, pf.has_key hh hy⟩
  · rintro ⟨y, hy, hk⟩
    rw [← Bool.not_eq_false]
    intro hh
    have hd := pf.drop_gt h s
    rw [hh] at hd
    rw [← List.take_append_drop (pf.place l s) l] at hy
    rcases List.mem_append.1 hy with hy | hy
    · exact pf.lt_ne (pf.take_lt l s y hy) hk
    · exact pf.lt_ne (hd y (by simpa using hy)) hk.symm
theorem pf.key_once {l : List PItm} (h : Rises l) {x y : PItm} (hx : x ∈ l) (hy : y ∈ l) (hk : x.key = y.key) : x = y := by
  obtain ⟨i, hi⟩ := List.getElem?_of_mem hx
  obtain ⟨j, hj⟩ := List.getElem?_of_mem hy
  obtain ⟨a1, a2⟩ := List.getElem?_eq_some_iff.1 hi
  obtain ⟨b1, b2⟩ := List.getElem?_eq_some_iff.1 hj
  rcases Nat.lt_trichotomy i j with hh | hh | hh
  · have := List.pairwise_iff_getElem.1 h i j a1 b1 hh
    rw [a2, b2] at this
    exact absurd hk (pf.lt_ne this)
  · subst hh; rw [← a2, ← b2]
  · have := List.pairwise_iff_getElem.1 h j i b1 a1 hh
    rw [a2, b2] at this
    exact absurd hk.symm (pf.lt_ne this)
theorem pf.look_mem {l : List PItm} (h : Rises l) {x : PItm} (hx : x ∈ l) : pf.look l x.key = some x.off := by
  have hh := (pf.has_mem h (s := x.key)).2 ⟨x, hx, rfl⟩
  obtain ⟨y, hy⟩ := pf.has_at hh
  have := pf.key_once h (List.mem_of_getElem? hy) hx (pf.has_key hh hy)
  subst this
  unfold pf.look
  rw [hh, hy]
theorem pf.look_none {l : List PItm} (h : Rises l) {s : ByteArray} (hn : ∀ y ∈ l, y.key ≠ s) : pf.look l s = none := by
  have hh : pf.has l s = false := by
    rw [Bool.eq_false_iff]
    intro e
    obtain ⟨y, hy, hk⟩ := (pf.has_mem h).1 e
    exact hn y hy hk
  unfold pf.look
  rw [hh]
theorem pf.look_some {l : List PItm} {s : ByteArray} : (pf.look l s).isSome = pf.has l s := by
  unfold pf.look
  cases hh : pf.has l s with
  | false => rfl
  | true =>
    obtain ⟨y, hy⟩ := pf.has_at hh
    rw [hy]
    rfl
theorem pf.put_rises {l : List PItm} (h : Rises l) (x : PItm) : Rises (pf.put l x) := by
  unfold pf.put
  rw [List.append_assoc]
  refine List.pairwise_append.2 ⟨h.sublist (List.take_sublist _ _), List.pairwise_cons.2 ⟨fun y hy => pf.drop_gt h _ y (by simpa using hy), h.sublist (List.drop_sublist _ _)⟩, fun a ha b hb => ?_⟩
  have h1 := pf.take_lt l x.key a ha
  rcases List.mem_cons.1 hb with rfl | hb
  · exact h1
  · exact pf.lt_trans h1 (pf.drop_gt h _ b (by simpa using hb))
theorem pf.put_has {l : List PItm} {x y : PItm} (hy : y ∈ l) (hk : y.key ≠ x.key) : y ∈ pf.put l x := by
  unfold pf.put
  rw [← List.take_append_drop (pf.place l x.key) l] at hy
  rcases List.mem_append.1 hy with hy | hy
  · exact List.mem_append.2 (.inl (List.mem_append.2 (.inl hy)))
  · refine List.mem_append.2 (.inr ?_)
    cases hh : pf.has l x.key with
    | false => simpa using hy
    | true =>
      obtain ⟨z, hz⟩ := pf.has_at hh
      obtain ⟨z1, z2⟩ := List.getElem?_eq_some_iff.1 hz
      rw [List.drop_eq_getElem_cons z1, z2] at hy
      rcases List.mem_cons.1 hy with rfl | hy
      · exact absurd (pf.has_key hh hz) hk
      · simpa using hy
theorem pf.look_put {l : List PItm} (h : Rises l) (x : PItm) (u : ByteArray) : pf.look (pf.put l x) u = if u = x.key then some x.off else pf.look l u := by
  have hr := pf.put_rises h x
  by_cases hu : u = x.key
  · rw [if_pos hu, hu]
    exact pf.look_mem hr (by unfold pf.put; simp)
  · rw [if_neg hu]
    by_cases he : ∃ y ∈ l, y.key = u
    · obtain ⟨y, hy, rfl⟩ := he
      rw [pf.look_mem h hy, pf.look_mem hr (pf.put_has hy hu)]
    · rw [pf.look_none h fun y hy e => he ⟨y, hy, e⟩]
      refine pf.look_none hr fun y hy e => ?_
      rcases pf.put_mem hy with rfl | hy
      · exact hu e.symm
      · exact he ⟨y, hy, e⟩
theorem pf.put_len {l : List PItm} (x : PItm) : (pf.put l x).length = l.length + if pf.has l x.key then 0 else 1 := by
  have hp := pf.place_le l x.key
  unfold pf.put
  rw [List.length_append, List.length_append, List.length_take, List.length_drop, List.length_singleton]
  cases hh : pf.has l x.key with
  | false => simp; omega
  | true =>
    obtain ⟨z, hz⟩ := pf.has_at hh
    have := (List.getElem?_eq_some_iff.1 hz).1
    simp; omega

/-- The program's map and the document's. -/
structure MapIs (N : Nat) (g : ByteArray → Option Int) (l : List PItm) : Prop where
  len : N = l.length
  rises : Rises l
  look : ∀ s, g s = pf.look l s
theorem MapIs.nil : MapIs 0 (fun _ => none) [] := ⟨rfl, List.Pairwise.nil, fun _ => rfl⟩
theorem MapIs.can {N : Nat} {g : ByteArray → Option Int} {l : List PItm} (h : MapIs N g l) (most : Int) (s : ByteArray) : key.can N most g s = pf.can l most s := by
  unfold key.can pf.can
  rw [h.look s, pf.look_some, h.len]
theorem MapIs.offer {N : Nat} {g : ByteArray → Option Int} {l : List PItm} (h : MapIs N g l) (most : Int) (x : PItm) : MapIs (key.cnt N most g x.key) (key.put N most g x.key x.off) (pf.offer l most x) := by
  have hs : (g x.key).isSome = pf.has l x.key := by rw [h.look, pf.look_some]
  cases hh : pf.has l x.key with
  | true =>
    rw [hh] at hs
    obtain ⟨y, hy⟩ := pf.has_at hh
    have hg : g x.key = some y.off := by rw [h.look]; unfold pf.look; rw [hh, hy]
    have hc : pf.can l most x.key = true := by unfold pf.can; rw [hh]; rfl
    have ho : pf.offer l most x = pf.put l { x with off := max x.off y.off } := by unfold pf.offer; rw [if_pos hc]; unfold pf.raise; rw [hh, hy]
    rw [ho]
    refine ⟨?_, pf.put_rises h.rises _, fun u => ?_⟩
    · unfold key.cnt
      rw [if_pos hs, pf.put_len]
      show N = l.length + if pf.has l x.key then 0 else 1
      rw [hh, h.len]
      rfl
    · rw [pf.look_put h.rises]
      show key.put N most g x.key x.off u = if u = x.key then some (max x.off y.off) else pf.look l u
      unfold key.put
      rw [hg]
      show (if y.off < x.off then upd g x.key x.off else g) u = _
      by_cases hu : u = x.key
      · rw [if_pos hu, hu]
        split
        · unfold upd; rw [if_pos rfl]; congr 1; omega
        · rw [hg]; congr 1; omega
      · rw [if_neg hu, ← h.look]
        split
        · unfold upd; rw [if_neg hu]
        · rfl
  | false =>
    rw [hh] at hs
    have hg : g x.key = none := by cases e : g x.key with | none => rfl | some _ => rw [e] at hs; cases hs
    by_cases hroom : (N : Int) < most
    · have hc : pf.can l most x.key = true := by unfold pf.can; rw [← h.len]; simpa using .inr hroom
      have ho : pf.offer l most x = pf.put l x := by unfold pf.offer; rw [if_pos hc]; unfold pf.raise; rw [hh]
      rw [ho]
      refine ⟨?_, pf.put_rises h.rises _, fun u => ?_⟩
      · unfold key.cnt
        rw [if_neg (by rw [hs]; decide), if_pos hroom, pf.put_len, hh, h.len]
        rfl
      · rw [pf.look_put h.rises]
        unfold key.put
        rw [hg]
        show (if (N : Int) < most then upd g x.key x.off else g) u = _
        rw [if_pos hroom]
        unfold upd
        split
        · rfl
        · exact h.look u
    · have hc : pf.can l most x.key = false := by unfold pf.can; rw [hh, ← h.len]; simpa using hroom
      have ho : pf.offer l most x = l := by unfold pf.offer; rw [if_neg (by rw [hc]; decide)]
      rw [ho]
      refine ⟨?_, h.rises, fun u => ?_⟩
      · unfold key.cnt
        rw [if_neg (by rw [hs]; decide), if_neg hroom, h.len]
      · unfold key.put
        rw [hg]
        show (if (N : Int) < most then upd g x.key x.off else g) u = _
        rw [if_neg hroom]
        exact h.look u
theorem KM.keepRef {w0 w w' : World} {p b r N : Nat} {most m2 : Int} {l : List PItm} {g : ByteArray → Option Int} (h : KM w p b most N g) (hc : Chg w w' (fun k => k = r)) (hr : RMapAt w0 w r m2 l) : KM w' p b most N g := by
  obtain ⟨v, h1, -⟩ := hr
  refine ⟨hc.blk h.blk fun e => ?_, h.map.chg hc fun e => h.map.not_blk h1 e.symm⟩
  subst e
  have := h1.symm.trans h.blk
  simp at this

/-- What is offered keeps no value, and is no longer than its key. -/
theorem pf.offer_all {P : PItm → Prop} {l : List PItm} {most : Int} {x : PItm} (h : ∀ y ∈ l, P y) (hx : ∀ o, P { x with off := o }) : ∀ y ∈ pf.offer l most x, P y := by
  intro y hy
  unfold pf.offer at hy
  split at hy
  · rcases pf.put_mem hy with rfl | hy
    · unfold pf.raise
      split
      · exact hx _
      · exact hx x.off
    · exact h y hy
  · exact h y hy
/-- The worlds in which all that stands in w stands still. -/
def Under (w : World) : Type := { wx : World // Below w.heap.size w wx }
instance Under.nonempty (w : World) : Nonempty (Under w) := ⟨⟨w, Below.refl _ _⟩⟩
theorem under_of {w w' : World} (h : Below w.heap.size w w') : ∃ x : Under w, w' = x.1 := ⟨⟨w', h⟩, rfl⟩
theorem key.cnt_up (N : Nat) (M : Int) (g : ByteArray → Option Int) (s : ByteArray) : key.cnt N M g s ≤ N + 1 := by
  unfold key.cnt
  split
  · omega
  · split <;> omega
theorem RMapAt.cell {w0 w : World} {r : Nat} {most : Int} {l : List PItm} (h : RMapAt w0 w r most l) : ∃ A c, PAt w A l ∧ ∀ x : Under w, x.1.cell? ⟨r, 1, none⟩ = some (.slice A l.length c) := by
  obtain ⟨v, h1, h2, h3⟩ := h
  obtain ⟨A, c, rfl, hnc, hat⟩ := own_at h2
  exact ⟨A, c, hat, fun x => (x.2.cell (p := ⟨r, 1, none⟩) h1.lt).trans (h1.cell 1 rfl)⟩
theorem RMapAt.bytes {w0 w : World} {r : Nat} {most : Int} {l : List PItm} (h : RMapAt w0 w r most l) : ∀ x ∈ l, PBytes w0 x := by
  obtain ⟨v, h1, h2, h3⟩ := h
  exact h3

theorem RMapAt.keepRef {w0 w w' : World} {r r2 : Nat} {most m2 : Int} {l l2 : List PItm} (h : RMapAt w0 w r most l) (hc : Chg w w' (fun k => k = r2)) (hr : RMapAt w0 w r2 m2 l2) (hne : r ≠ r2) : RMapAt w0 w' r most l := by
  obtain ⟨v, h1, h2, h3⟩ := h
  obtain ⟨v2, g1, -⟩ := hr
  refine ⟨v, hc.blk h1 hne, hc.own h2 fun k hk e => ?_, h3⟩
  rcases h2.2 with ⟨rfl, _⟩ | ⟨gg, cap, cur, rfl, _, hg, _⟩
  · cases hk
  · obtain rfl : gg = k := by simpa [Value.ownBlock] using hk
    have he : gg = r2 := e
    subst he
    have := g1.symm.trans (show Blk w gg 95 cur from hg)
    simp at this
theorem RMapAt.open {w0 w : World} {r : Nat} {most : Int} {l : List PItm} (h : RMapAt w0 w r most l) :
    ∃ A c, Blk w r 80 #[.int .i64 most, .slice A l.length c] ∧ w.ownsRow 0 95 3 (.slice A l.length c) l.length (pf.row l) ∧ ∀ x ∈ l, PBytes w0 x := by
  obtain ⟨v, h1, h2, h3⟩ := h
  have hv := own_at h2
  obtain ⟨A, c, rfl, -, -⟩ := hv
  exact ⟨A, c, h1, h2, h3⟩

/-- What the reference's Build answers. -/
def rb.Post (f M : Int) (bs : List Bat) (w : World) (e : Ending) (w' : World) : Prop :=
  (∃ r l, e = .returned (.tuple #[.pointer (some ⟨r, 0, none⟩), .int .i64 (kb.go f M 0 (fun _ => none) f bs).2.2]) ∧ RMapAt w w' r M l ∧ MapIs (kb.go f M 0 (fun _ => none) f bs).1 (kb.go f M 0 (fun _ => none) f bs).2.1 l ∧ (∀ x ∈ l, x.vs = [] ∧ x.bs.length ≤ 10000) ∧ l.length ≤ 10000) ∧ Below w.heap.size w w'

set_option maxRecDepth 100000 in
set_option maxHeartbeats 4000000 in
theorem rb.build_any (A : Option Addr) (bs : List Bat) (n c : Nat) (f most M : Int) (w : World) (hat : BatsAt w A bs) (hn : bs.length = n) (hn1 : n ≤ 1000000) (hlast : ∀ b ∈ bs, b.last ≤ 4611686018427387904) (hflat : (rc.flat bs).length ≤ 10000 ∧ ∀ r ∈ rc.flat bs, r.key.length ≤ 10000) (hM : kb.Most most M) :
    Calls Try.prog 15 #[.slice A n c, .int .i64 f, .int .i64 most] w (rb.Post f M bs w) := by
  have HAT := Lib.hid hat; clear hat
  have HLA := Lib.hid hlast; clear hlast
  have HN := Lib.hid hn; clear hn
  have HFL := Lib.hid hflat; clear hflat
  unfold kb.Most at hM
  have hm1 : 1 ≤ M := by omega
  have hm2 : M ≤ 1000000 := by omega
  obtain ⟨R, hR⟩ : ∃ R, R = kb.go f M 0 (fun _ => none) f bs := ⟨_, rfl⟩
  obtain ⟨NR, gR, uR⟩ := R
  have hfin : ∀ (r : Nat) (l : List PItm) w', RMapAt w w' r M l → MapIs NR gR l → (∀ x ∈ l, x.vs = [] ∧ x.bs.length ≤ 10000) → NR ≤ 10000 → Below w.heap.size w w' → rb.Post f M bs w (.returned (.tuple #[.pointer (some ⟨r, 0, none⟩), .int .i64 uR])) w' := fun r l w' h1 h2 h3 h4 h5 => by
    unfold rb.Post
    rw [← hR]
    exact ⟨⟨r, l, rfl, h1, h2, h3, by rw [← h2.len]; exact h4⟩, h5⟩
  have HFIN := Lib.hid hfin; clear hfin
  have HR := Lib.hid hR; clear hR
  have hMX : min (max most 1) 1000000 = M := hM.symm
  clear hM
  go_enter Try.func15, Try.ntmps15
  go_wp2_with fail
  clear hMX
  obtain ⟨w1, hw1⟩ : ∃ w1, w1 = w.alloc (.cells #[.int .i64 M, .slice none 0 0] 80) := ⟨_, rfl⟩
  rw [← hw1]
  have hb1 : Below w.heap.size w w1 := by rw [hw1]; exact (Below.refl _ _).alloc (Nat.le_refl _) _
  have hr1 : RMapAt w w1 w.heap.size M [] := ⟨.slice none 0 0, by rw [hw1]; exact Blk.new _ _ _, World.ownsRow_nil _ _ _ _, by simp⟩
  obtain ⟨r0, hr0⟩ : ∃ r0, r0 = w.heap.size := ⟨_, rfl⟩
  rw [← hr0] at hr1 ⊢
  have HR1 := Lib.hid (And.intro hr1 hb1); clear hr1 hb1 hw1 hr0
  go_loopg [8, 9, 10] n (fun gas s8 s9 s10 wx => ∃ (k N : Nat) (gg : ByteArray → Option Int) (up : Int) (r : Nat) (l : List PItm), k + gas = n ∧ s8 = .pointer (some ⟨r, 0, none⟩) ∧ s9 = .int .i64 up ∧ s10 = .int .i64 (k : Int) ∧ kb.go f M N gg up (bs.drop k) = (NR, gR, uR) ∧ RMapAt w wx r M l ∧ MapIs N gg l ∧ (∀ x ∈ l, x.vs = [] ∧ x.bs.length ≤ 10000) ∧ N ≤ (rc.flat (bs.take k)).length ∧ (N : Int) ≤ M ∧ Below w.heap.size w wx)
  case atStart => exact ⟨0, 0, fun _ => none, f, r0, [], by omega, rfl, rfl, rfl, HR.out.symm, HR1.out.1, MapIs.nil, by simp, by omega, by omega, HR1.out.2⟩
  case round =>
    obtain ⟨k, N, gg, up, r, l, hkg, rfl, rfl, rfl, hgo, hrm, his, hall, hNf, hNM, hbw⟩ := hrel
    have HGO := Lib.hid hgo; clear hgo HR HR1
    have HRM := Lib.hid hrm; clear hrm
    have HIS := Lib.hid his; clear his
    have HALL := Lib.hid hall; clear hall
    have HBW := Lib.hid hbw; clear hbw
    cases gk with
    | zero =>
      obtain rfl : k = n := by omega
      have hgo := HGO.out
      rw [List.drop_of_length_le (by rw [HN.out]; exact Nat.le_refl _)] at hgo
      rw [List.take_of_length_le (by rw [HN.out]; exact Nat.le_refl _)] at hNf
      have hq : N = NR ∧ gg = gR ∧ up = uR := by simpa [kb.go] using hgo
      obtain ⟨rfl, rfl, rfl⟩ := hq
      have hN2 : N ≤ 10000 := Nat.le_trans hNf HFL.out.1
      clear hgo HGO hNf
      go_wp2_with fail
      (try rw [Exit.noGoto_ret])
      go_ret2
      exact HFIN.out r l wr HRM.out HIS.out HALL.out hN2 HBW.out
    | succ gas =>
      have hkn : k < n := by omega
      obtain ⟨x, hx⟩ : ∃ x, bs[k]? = some x := ⟨_, List.getElem?_eq_getElem (by rw [HN.out]; exact hkn)⟩
      have hla := HLA.out x (List.mem_of_getElem? hx)
      have hgd := HGO.out
      rw [kb.go_drop hx] at hgd
      have hft := rc.flat_take hx
      have hxm : ∀ y ∈ x.recs, y.key.length ≤ 10000 := fun y hy => HFL.out.2 y (by
        unfold rc.flat
        exact List.mem_flatten.2 ⟨x.recs, List.mem_map.2 ⟨x, List.mem_of_getElem? hx, rfl⟩, hy⟩)
      have hfl2 : (rc.flat (bs.take (k + 1))).length ≤ 10000 := by
        have h1 := HFL.out.1
        have h2 : bs = bs.take (k + 1) ++ bs.drop (k + 1) := (List.take_append_drop _ _).symm
        rw [h2] at h1
        unfold rc.flat at h1 ⊢
        rw [List.map_append, List.flatten_append, List.length_append] at h1
        omega
      rw [hft, List.length_append] at hfl2
      obtain ⟨F0, hF0⟩ : ∃ F0, F0 = (rc.flat (bs.take k)).length := ⟨_, rfl⟩
      rw [← hF0] at hfl2 hNf
      obtain ⟨b2, off2, v2, hA2, hb2, c0, c1, c2, c3, c4', c5, hrecs, hi0, hi1, -⟩ := HAT.out.at' hx
      subst hA2
      obtain ⟨A4, c4, V4, rfl, hmc, hc4, -⟩ := id hrecs
      obtain ⟨m, hm⟩ : ∃ m, m = x.recs.length := ⟨_, rfl⟩
      have HRECS := Lib.hid hrecs; clear hrecs
      rw [← hm] at c5 hmc hfl2
      have hft2 : (rc.flat (bs.take (k + 1))).length = F0 + m := by rw [hft, List.length_append, hF0, hm]
      have HFT := Lib.hid hft2; clear hft hft2 hF0
      have HXM := Lib.hid hxm; clear hxm
      have HM := Lib.hid hm; clear hm hx
      have HGD := Lib.hid hgd; clear hgd HGO
      unfold i64ok at hi0 hi1
      have hbw0 := HBW.out
      have e0 : wr.cell? ⟨b2, off2 + k * 6, none⟩ = some (.int .i64 x.base) := (hbw0.cell (p := ⟨b2, off2 + k * 6, none⟩) hb2).trans c0
      have e1 : wr.cell? ⟨b2, off2 + k * 6 + 1, none⟩ = some (.int .i64 x.last) := (hbw0.cell (p := ⟨b2, off2 + k * 6 + 1, none⟩) hb2).trans c1
      have e2 : wr.cell? ⟨b2, off2 + k * 6 + 2, none⟩ = some (.int .i64 x.prod) := (hbw0.cell (p := ⟨b2, off2 + k * 6 + 2, none⟩) hb2).trans c2
      have e3 : wr.cell? ⟨b2, off2 + k * 6 + 3, none⟩ = some (.int .i64 x.epoch) := (hbw0.cell (p := ⟨b2, off2 + k * 6 + 3, none⟩) hb2).trans c3
      have e4 : wr.cell? ⟨b2, off2 + k * 6 + 4, none⟩ = some (.int .i64 x.seq) := (hbw0.cell (p := ⟨b2, off2 + k * 6 + 4, none⟩) hb2).trans c4'
      have e5 : wr.cell? ⟨b2, off2 + k * 6 + 5, none⟩ = some (.slice A4 m c4) := (hbw0.cell (p := ⟨b2, off2 + k * 6 + 5, none⟩) hb2).trans c5
      clear c0 c1 c2 c3 c4' c5 hbw0
      go_upto_region 7 with fail
      obtain ⟨q, hq⟩ : ∃ q, q = wr.heap.size := ⟨_, rfl⟩
      obtain ⟨ws, hws⟩ : ∃ ws, ws = wr.alloc (.cells #[.int .i64 x.base, .int .i64 x.last, .int .i64 x.prod, .int .i64 x.epoch, .int .i64 x.seq, .slice A4 m c4] 46) := ⟨_, rfl⟩
      rw [← hws, ← hq]
      have hbs : Below wr.heap.size wr ws := by rw [hws]; exact (Below.refl _ _).alloc (Nat.le_refl _) _
      have hks : Blk ws q 46 #[.int .i64 x.base, .int .i64 x.last, .int .i64 x.prod, .int .i64 x.epoch, .int .i64 x.seq, .slice A4 m c4] := by rw [hws, hq]; exact Blk.new wr _ _
      have hrs := HRM.out.below hbs
      have hbw2 := HBW.out.trans (hbs.mono HBW.out.size)
      have hrq : r < q := by rw [hq]; exact HRM.out.lt
      obtain ⟨A5, c5, hk5, ho5, hby5⟩ := hrs.open
      have q0 : ∀ x : Under ws, x.1.cell? ⟨r, 0, none⟩ = some (.int .i64 M) := fun x => (x.2.cell (p := ⟨r, 0, none⟩) hrs.lt).trans (hk5.cell 0 rfl)
      have q1 : ∀ x : Under ws, x.1.cell? ⟨r, 1, none⟩ = some (.slice A5 l.length c5) := fun x => (x.2.cell (p := ⟨r, 1, none⟩) hrs.lt).trans (hk5.cell 1 rfl)
      have qd : ws.drew.cell? ⟨r, 1, none⟩ = some (.slice A5 l.length c5) := q1 ⟨ws.drew, bdrew (Below.refl _ _) 1⟩
      have qs : ws.cell? ⟨r, 1, none⟩ = some (.slice A5 l.length c5) := q1 ⟨ws, Below.refl _ _⟩
      obtain ⟨ll, hll⟩ : ∃ ll, ll = l.length := ⟨_, rfl⟩
      rw [← hll] at q1 qd qs ho5
      have HLL := Lib.hid hll; clear hll
      have HO5 := Lib.hid (And.intro ho5 hby5); clear ho5 hby5 hk5
      have HWS := Lib.hid (And.intro hks (And.intro hrs hbw2)); clear hks hrs hbw2 hbs hws hq e0 e1 e2 e3 e4 e5 HRM HBW
      have hS0 : ∃ x : Under ws, ws.drew = x.1 := under_of (bdrew (Below.refl _ _) 1)
      refine wp_plan (S := fun w0 => ∃ x : Under ws, w0 = x.1) (by kernel_rfl) hS0 ?_
      intro hS K5 hK5
      have HS := Lib.hid hS; clear hS hS0
      refine plan_group [true, true, true, true, true, true, true] [0, 1, 2, 3, 4, 5, 6] 4 (by dsimp only [sel]) (by rfl) rfl (by kernel_rfl) (by kernel_rfl) HS.out ?_
      (repeat go_big_quiet_step (fail)); refine wpQuiet_nil ?_
      clear q0 q1
      refine plan_one [false, false, false, false, false, false, false, true] 7 3 (by dsimp only [sel]) (by rfl) rfl (by kernel_rfl) ?_; intro K1 hK1; go_wp2_with fail
      refine ⟨HS.out, ?_⟩
      refine plan_one [false, false, false, false, false, false, false, false, true] 8 2 (by dsimp only [sel]) (by rfl) rfl (by kernel_rfl) ?_; intro K1 hK1; go_wp2_with fail
      refine ⟨HS.out, ?_⟩
      refine plan_one [false, false, false, false, false, false, false, false, false, true] 9 1 (by dsimp only [sel]) (by rfl) rfl (by kernel_rfl) ?_; intro K1 hK1; go_wp2_with fail
      obtain ⟨q3, hq3⟩ : ∃ q3, q3 = ws.heap.size := ⟨_, rfl⟩
      obtain ⟨w3, hw3⟩ : ∃ w3, w3 = (ws.alloc (.cells #[.int .i64 M, .slice A5 ll c5] 80)).drew := ⟨_, rfl⟩
      rw [← hw3]
      have hb3 : Below ws.heap.size ws w3 := by rw [hw3]; exact bdrew ((Below.refl _ _).alloc (Nat.le_refl _) _) 1
      have hr3 : RMapAt w w3 q3 M l := ⟨.slice A5 ll c5, by rw [hw3, hq3]; exact Blk.drew (Blk.new ws _ _) 1, by rw [← HLL.out]; exact (chg_of (P := fun _ => False) hb3).own HO5.out.1 fun _ _ h => h.elim, HO5.out.2⟩
      have hqq : q < q3 := by rw [hq3]; exact HWS.out.1.lt
      have hwq3 : w.heap.size ≤ q3 := by rw [hq3]; exact HWS.out.2.2.size
      have hk3 : Blk w3 q 46 #[.int .i64 x.base, .int .i64 x.last, .int .i64 x.prod, .int .i64 x.epoch, .int .i64 x.seq, .slice A4 m c4] := by
        have h1 : Blk ws q 46 #[.int .i64 x.base, .int .i64 x.last, .int .i64 x.prod, .int .i64 x.epoch, .int .i64 x.seq, .slice A4 m c4] := HWS.out.1
        exact (hb3.block q h1.lt).trans h1
      have HW3 := Lib.hid (And.intro hr3 (And.intro (HWS.out.2.1.below hb3) (And.intro hk3 (HWS.out.2.2.trans (hb3.mono HWS.out.2.2.size))))); clear hr3 hk3
      have HU3 := Lib.hid (show ∃ x : Under ws, w3 = x.1 from under_of hb3)
      have HQ3 := Lib.hid hq3
      clear qd qs hb3 hw3 hq3 HO5 HLL HWS
      refine ⟨HU3.out, ?_⟩
      refine plan_group [false, false, false, false, false, false, false, false, false, false, true] [10] 0 (by dsimp only [sel]) (by rfl) rfl (by kernel_rfl) (by kernel_rfl) HU3.out ?_
      (repeat go_big_quiet_step (fail)); refine wpQuiet_nil ?_
      refine wp_plan_end (by kernel_rfl) ?_
      rw [← HQ3.out]
      clear HQ3
      go_wp2_with fail
      go_loopg [13] m (fun gas2 s13 wx => ∃ (j N2 : Nat) (g2 : ByteArray → Option Int) (l2 : List PItm), j + gas2 = m ∧ s13 = .int .i64 (j : Int) ∧ bd.Mid f M N gg x.recs j N2 g2 ∧ RMapAt w wx q3 M l2 ∧ RMapAt w wx r M l ∧ Blk wx q 46 #[.int .i64 x.base, .int .i64 x.last, .int .i64 x.prod, .int .i64 x.epoch, .int .i64 x.seq, .slice A4 m c4] ∧ MapIs N2 g2 l2 ∧ (∀ y ∈ l2, y.vs = [] ∧ y.bs.length ≤ 10000) ∧ N2 ≤ F0 + j ∧ Below w.heap.size w wx)
      case atStart => exact ⟨0, N, gg, l, by omega, rfl, bd.Mid.zero hNM, HW3.out.1, HW3.out.2.1, HW3.out.2.2.1, HIS.out, HALL.out, by omega, HW3.out.2.2.2⟩
      case round =>
        obtain ⟨j, N2, g2, l2, hjg, rfl, hmid, hrx, hrm, hblk, hisx, hallx, hNj, hby⟩ := hrel
        clear HW3 HS HU3
        have HMID := Lib.hid hmid; clear hmid
        have HRX := Lib.hid hrx; clear hrx
        have HRM := Lib.hid hrm; clear hrm
        have HISX := Lib.hid hisx; clear hisx
        have HALX := Lib.hid hallx; clear hallx
        have HBY := Lib.hid hby; clear hby
        have hbk5 := hblk.cell 5 (v := .slice A4 m c4) rfl
        have hbk1 := hblk.cell 1 (v := .int .i64 x.last) rfl
        have hqz : q < wr.heap.size := hblk.lt
        have HBLK := Lib.hid hblk; clear hblk
        cases gk with
        | zero =>
          as_aux_lemma =>
            obtain rfl : m = j := by omega
            obtain ⟨hs, hof⟩ := HMID.out.done HM.out
            have hgd := HGD.out
            rw [if_pos hs, hof] at hgd
            dsimp only at hgd
            obtain ⟨U, hU⟩ : ∃ U, max f (x.last + 1) = U := ⟨_, rfl⟩
            have hU2 : max (x.last + 1) f = U := by omega
            rw [hU2] at hgd
            clear hs hof hU2
            have HG2 := Lib.hid hgd; clear hgd HGD
            have hle := HMID.out.le
            have hft : N2 ≤ (rc.flat (bs.take (k + 1))).length := by rw [HFT.out]; exact hNj
            have HF2 := Lib.hid hft; clear hft
            go_wp2_with fail
            go_roundg gas
            case measure => omega
            case rel => exact ⟨k + 1, N2, g2, U, q3, l2, by omega, rfl, by first | rfl | (rw [hU]), by go_num, HG2.out, HRX.out, HISX.out, HALX.out, HF2.out, hle, HBY.out⟩
        | succ gas3 =>
          have hjm : j < m := by omega
          obtain ⟨y, hy⟩ : ∃ y, x.recs[j]? = some y := ⟨_, List.getElem?_eq_getElem (by rw [← HM.out]; exact hjm)⟩
          have hkl := HXM.out y (List.mem_of_getElem? hy)
          have HY := Lib.hid hy
          obtain ⟨pr, off, c', kv, vv, hA, -, -, hpr, d0, d1, d2, d3, d4, d5, hkk, hvv, hio, -⟩ := HRECS.out.at' hy
          obtain ⟨rfl, rfl⟩ : A4 = some ⟨pr, off, none⟩ ∧ c4 = c' := by simpa using hA
          obtain ⟨Ak, ck, rfl, hka, hk1, hk2, -⟩ := hkk
          obtain ⟨Av, cv, rfl, -, -, -, -⟩ := hvv
          have hby0 := HBY.out
          have e0 : wr.cell? ⟨pr, off + j * 6, none⟩ = some (.int .i64 y.off) := (hby0.cell (p := ⟨pr, off + j * 6, none⟩) hpr).trans d0
          have e1 : wr.cell? ⟨pr, off + j * 6 + 1, none⟩ = some (.int .i64 y.time) := (hby0.cell (p := ⟨pr, off + j * 6 + 1, none⟩) hpr).trans d1
          have e2 : wr.cell? ⟨pr, off + j * 6 + 2, none⟩ = some (.bool y.hasKey) := (hby0.cell (p := ⟨pr, off + j * 6 + 2, none⟩) hpr).trans d2
          have e3 : wr.cell? ⟨pr, off + j * 6 + 3, none⟩ = some (.slice Ak y.key.length ck) := (hby0.cell (p := ⟨pr, off + j * 6 + 3, none⟩) hpr).trans d3
          have e4 : wr.cell? ⟨pr, off + j * 6 + 4, none⟩ = some (.bool y.hasVal) := (hby0.cell (p := ⟨pr, off + j * 6 + 4, none⟩) hpr).trans d4
          have e5 : wr.cell? ⟨pr, off + j * 6 + 5, none⟩ = some (.slice Av y.val.length cv) := (hby0.cell (p := ⟨pr, off + j * 6 + 5, none⟩) hpr).trans d5
          clear hby0 d0 d1 d2 d3 d4 d5 hA hy
          obtain ⟨wy, hwy⟩ : ∃ wy, wy = wr.alloc (.cells #[.int .i64 y.off, .int .i64 y.time, .bool y.hasKey, .slice Ak y.key.length ck, .bool y.hasVal, .slice Av y.val.length cv] 34) := ⟨_, rfl⟩
          have hbe : Below wr.heap.size wr wy := by rw [hwy]; exact (Below.refl _ _).alloc (Nat.le_refl _) _
          have hkb : Blk wy q 46 #[.int .i64 x.base, .int .i64 x.last, .int .i64 x.prod, .int .i64 x.epoch, .int .i64 x.seq, .slice (some ⟨pr, off, none⟩) m c4] := (hbe.block q hqz).trans HBLK.out
          have HV := Lib.hid (And.intro hkb (And.intro (HRX.out.below hbe) (And.intro (HRM.out.below hbe) (HBY.out.trans (hbe.mono HBY.out.size))))); clear hbe hkb
          clear hbk1
          by_cases hhk : y.hasKey = true
          · by_cases hfo : f ≤ y.off
            · have hu : kb.use f y = true := by unfold kb.use; rw [hhk, decide_eq_true hfo]; rfl
              have hl2 : l2.length ≤ 10000 := by rw [← HISX.out.len]; omega
              obtain ⟨cb, hcb⟩ : ∃ cb, cb = key.can N2 M g2 (strOf y.key) := ⟨_, rfl⟩
              have hcan : pf.can l2 M (POff Ak y.key.length ck y.key y.off).key = cb := by rw [hcb]; exact (HISX.out.can M _).symm
              have hoff := rmap.offer_any w q3 M l2 Ak y.key.length ck y.key y.off wy HV.out.2.1 HV.out.2.2.2 hl2 rfl (by omega) hka
              unfold rmap.OfferPost at hoff
              rw [hcan] at hoff
              have HOFF := Lib.hid hoff; clear hoff hcan
              rw [hwy] at HOFF
              cases cb with
              | true =>
                as_aux_lemma =>
                  have hmid := HMID.out.can HY.out hu hcb.symm
                  have hmis := HISX.out.offer M (POff Ak y.key.length ck y.key y.off)
                  have hall' : ∀ z ∈ pf.offer l2 M (POff Ak y.key.length ck y.key y.off), z.vs = [] ∧ z.bs.length ≤ 10000 := pf.offer_all HALX.out fun o' => ⟨rfl, hkl⟩
                  have hup := key.cnt_up N2 M g2 (strOf y.key)
                  have HNX := Lib.hid (And.intro hmid (And.intro hmis (And.intro hall' hup))); clear hmid hmis hall' hup hcb HALX
                  rw [hhk] at e2 HOFF hwy
                  go_wp2_with fail
                  refine HOFF.out.mono ?_
                  rintro e w4 ⟨rfl, hr4, hc4⟩
                  rw [← hwy] at hc4
                  have hb4 := HV.out.2.2.2.trans (hc4.below HV.out.2.2.2.size fun k hk => by have hk : k = q3 := hk; omega)
                  have hk4 := hc4.blk HV.out.1 (show ¬ q = q3 by omega)
                  have hm4 := HV.out.2.2.1.keepRef hc4 HV.out.2.1 (by omega)
                  have H4 := Lib.hid (And.intro hr4 (And.intro hm4 (And.intro hk4 hb4))); clear hr4 hm4 hk4 hb4 hc4
                  go_wp2_with fail
                  go_roundg gas3
                  case measure => omega
                  case rel => exact ⟨j + 1, _, _, _, by omega, by go_num, HNX.out.1, H4.out.1, H4.out.2.1, H4.out.2.2.1, HNX.out.2.1, HNX.out.2.2.1, by have := HNX.out.2.2.2; omega, H4.out.2.2.2⟩
              | false =>
                as_aux_lemma =>
                  have hno := HMID.out.no HY.out hu hcb.symm
                  have hgd := HGD.out
                  rw [if_neg (by rw [hno]; simp)] at hgd
                  obtain ⟨U, hU⟩ : ∃ U, max x.base f = U := ⟨_, rfl⟩
                  rw [hU] at hgd
                  have hq : N = NR ∧ gg = gR ∧ U = uR := by simpa using hgd
                  obtain ⟨rfl, rfl, rfl⟩ := hq
                  have hN2 : N ≤ 10000 := by omega
                  clear hgd HGD hno hcb
                  rw [hhk] at e2 HOFF hwy
                  go_wp2_with fail
                  refine HOFF.out.mono ?_
                  rintro e w4 ⟨rfl, hr4, hc4⟩
                  rw [← hwy] at hc4
                  have hb4 := HV.out.2.2.2.trans (hc4.below HV.out.2.2.2.size fun k hk => by have hk : k = q3 := hk; omega)
                  have hk4 := hc4.blk HV.out.1 (show ¬ q = q3 by omega)
                  have hm4 := HV.out.2.2.1.keepRef hc4 HV.out.2.1 (by omega)
                  have z0 : w4.cell? ⟨q, 0, none⟩ = some (.int .i64 x.base) := hk4.cell 0 rfl
                  have z1 : ∀ i, (w4.drewN i).cell? ⟨q, 0, none⟩ = some (.int .i64 x.base) := fun i => z0
                  have H4 := Lib.hid (And.intro hm4 hb4); clear hr4 hm4 hk4 hb4 hc4
                  go_wp2_with fail
                  go_quiet (fail)
                  go_wp2_with fail
                  (try rw [Exit.noGoto_ret])
                  go_ret2
                  exact HFIN.out r l (w4.drewN nq) (H4.out.1.below (bdrew (Below.refl _ _) nq)) HIS.out HALL.out hN2 (bdrew H4.out.2 nq)
            · as_aux_lemma =>
                have hu : kb.use f y = false := by unfold kb.use; rw [hhk, decide_eq_false hfo]; rfl
                have hmid := HMID.out.skip HY.out hu
                have HNX := Lib.hid hmid; clear hmid
                have hd : decide (f ≤ y.off) = false := by simpa using hfo
                rw [hhk] at e2 hwy
                go_wp2_with fail
                rw [← hwy]
                go_roundg gas3
                case measure => omega
                case rel => exact ⟨j + 1, _, _, _, by omega, by go_num, HNX.out, HV.out.2.1, HV.out.2.2.1, HV.out.1, HISX.out, HALX.out, by omega, HV.out.2.2.2⟩
          · as_aux_lemma =>
              have hhk : y.hasKey = false := by simpa using hhk
              have hu : kb.use f y = false := by unfold kb.use; rw [hhk]; rfl
              have hmid := HMID.out.skip HY.out hu
              have HNX := Lib.hid hmid; clear hmid
              rw [hhk] at e2 hwy
              go_wp2_with fail
              rw [← hwy]
              go_roundg gas3
              case measure => omega
              case rel => exact ⟨j + 1, _, _, _, by omega, by go_num, HNX.out, HV.out.2.1, HV.out.2.2.1, HV.out.1, HISX.out, HALX.out, by omega, HV.out.2.2.2⟩
end Go.Proofs.Ytnlfdhoabbbheaa

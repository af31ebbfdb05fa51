/- Pairs of the document's map: find, put, Last, Offer; what the program's map and the document's say of each other. -/
import Derived.Test.YtnlfdhoabbbheaaEch
import Derived.Test.YtnlfdhoabbbheaaConv
import Derived.Test.YtnlfdhoabbbheaaPlan
import Derived.OwnWalk
import Derived.Deep.Cut
import Derived.Test.YtnlfdhoabbbheaaKeyA
import Derived.Sort.Walk0
namespace Go.Proofs.Ytnlfdhoabbbheaa
section
open Go.RowKit
set_option maxRecDepth 20000

/-- A pair. -/
structure PItm where
  A : Option Addr
  k : Nat
  c : Nat
  bs : List Nat
  VA : Option Addr
  vk : Nat
  vc : Nat
  vs : List Nat
  off : Int
def PItm.cells (x : PItm) : List Value := [.slice x.A x.k x.c, .slice x.VA x.vk x.vc, .int .i64 x.off]
def pf.row (l : List PItm) : List Value := (l.map PItm.cells).flatten
theorem pf.row_len (l : List PItm) : (pf.row l).length = l.length * 3 := flat_len PItm.cells 3 (fun _ => rfl) l
theorem pf.row_append (a b : List PItm) : pf.row (a ++ b) = pf.row a ++ pf.row b := by simp [pf.row]
theorem pf.row_at {l : List PItm} {i : Nat} {x : PItm} (h : l[i]? = some x) : (pf.row l).getD (i * 3) undef = .slice x.A x.k x.c ∧ (pf.row l).getD (i * 3 + 1) undef = .slice x.VA x.vk x.vc ∧ (pf.row l).getD (i * 3 + 2) undef = .int .i64 x.off :=
  ⟨flat_get PItm.cells 3 (fun _ => rfl) l i 0 x h (by omega), flat_get PItm.cells 3 (fun _ => rfl) l i 1 x h (by omega), flat_get PItm.cells 3 (fun _ => rfl) l i 2 x h (by omega)⟩
/-- Its key and its value, readable. -/
def PBytes (w : World) (x : PItm) : Prop := x.bs.length = x.k ∧ x.k ≤ 1000000 ∧ At w x.A x.k (byteAt x.bs) ∧ x.vs.length = x.vk ∧ x.vk ≤ 1000000 ∧ At w x.VA x.vk (byteAt x.vs)
theorem PBytes.below {w w' : World} {x : PItm} {B : Nat} (h : PBytes w x) (hb : Below B w w') (hB : w.heap.size ≤ B) : PBytes w' x :=
  ⟨h.1, h.2.1, h.2.2.1.below hb hB, h.2.2.2.1, h.2.2.2.2.1, h.2.2.2.2.2.below hb hB⟩
def PItm.key (x : PItm) : ByteArray := strOf x.bs
def pf.lt (s t : ByteArray) : Bool := Op.bytesLess s.toList t.toList
/-- How many keys stand ahead of one. -/
def pf.place (l : List PItm) (s : ByteArray) : Nat := (l.takeWhile fun x => pf.lt x.key s).length
theorem while_step {α : Type} (p : α → Bool) : ∀ (l : List α) (k : Nat) (x : α), k ≤ (l.takeWhile p).length → l[k]? = some x → (p x = true → k + 1 ≤ (l.takeWhile p).length) ∧ (p x = false → (l.takeWhile p).length = k)
  | [], _, _, _, h => by simp at h
  | y :: l, 0, x, _, h => by
    obtain rfl : y = x := by simpa using h
    by_cases hp : p y = true
    · simp [hp]
    · simp [hp]
  | y :: l, k + 1, x, hk, h => by
    by_cases hp : p y = true
    · rw [List.takeWhile_cons_of_pos hp, List.length_cons] at hk ⊢
      have := while_step p l k x (by omega) (by simpa using h)
      exact ⟨fun e => by have := this.1 e; omega, fun e => by have := this.2 e; omega⟩
    · rw [List.takeWhile_cons_of_neg hp] at hk
      simp at hk
theorem pf.place_le (l : List PItm) (s : ByteArray) : pf.place l s ≤ l.length := (List.takeWhile_prefix _).length_le
def pf.has (l : List PItm) (s : ByteArray) : Bool := match l[pf.place l s]? with | some x => x.key.toList == s.toList | none => false
/-- Pairs lie at A. -/
def PAt (w : World) (A : Option Addr) (l : List PItm) : Prop := At w A (l.length * 3) (fun j => (pf.row l).getD j undef)
theorem PAt.cells {w : World} {A : Option Addr} {l : List PItm} (h : PAt w A l) {i : Nat} {x : PItm} (hx : l[i]? = some x) :
    ∃ b off, A = some ⟨b, off, none⟩ ∧ b < w.heap.size ∧ w.cell? ⟨b, off + i * 3, none⟩ = some (.slice x.A x.k x.c) ∧ w.cell? ⟨b, off + i * 3 + 1, none⟩ = some (.slice x.VA x.vk x.vc) ∧ w.cell? ⟨b, off + i * 3 + 2, none⟩ = some (.int .i64 x.off) := by
  have hi : i < l.length := (List.getElem?_eq_some_iff.1 hx).1
  obtain ⟨b, off, hA, hb, hc⟩ := h (by omega)
  obtain ⟨r0, r1, r2⟩ := pf.row_at hx
  refine ⟨b, off, hA, hb, ?_, ?_, ?_⟩
  · exact (hc _ (by omega)).trans (congrArg some r0)
  · rw [Nat.add_assoc]; exact (hc _ (by omega)).trans (congrArg some r1)
  · rw [Nat.add_assoc]; exact (hc _ (by omega)).trans (congrArg some r2)

set_option maxHeartbeats 2000000 in
theorem pf.find_any (A : Option Addr) (n c : Nat) (l : List PItm) (X : Option Addr) (m cx : Nat) (K : List Nat) (w : World) (hl : l.length = n) (hn : n ≤ 1000000) (hat : PAt w A l) (hb : ∀ x ∈ l, PBytes w x) (hk : K.length = m) (hka : At w X m (byteAt K)) :
    Calls Try.prog 50 #[.slice A n c, .slice X m cx] w fun e w' => e = .returned (.tuple #[.int .i64 (pf.place l (strOf K)), .bool (pf.has l (strOf K))]) ∧ ∃ q, w' = w.drewN q := by
  have HAT := Lib.hid hat; clear hat
  have HB := Lib.hid hb; clear hb
  have HL := Lib.hid hl; clear hl
  have hck := fun q => conv_any (P := Try.prog) Try.underlying32 Try.underlying5 Try.underlying9 (c := cx) K hk (hka.drew q)
  clear hka hk
  generalize strOf K = s at *
  go_enter Try.func50, Try.ntmps50
  go_wp2
  go_loopw [6] (fun i wr => ∃ (k q : Nat), k ≤ pf.place l s ∧ i = .int .i64 (k : Int) ∧ wr = w.drewN q) (fun i _ => n - (intOf i).toNat)
  case atStart => exact ⟨0, 0, by omega, rfl, rfl⟩
  case round =>
    obtain ⟨k, q, hkp, rfl, rfl⟩ := hrel
    by_cases hlt : k < n
    · obtain ⟨x, hx⟩ : ∃ x, l[k]? = some x := ⟨_, List.getElem?_eq_getElem (by rw [HL.out]; exact hlt)⟩
      obtain ⟨b, off, rfl, hbl, c0, -, -⟩ := HAT.out.cells hx
      obtain ⟨hxl, hxk, hxa, -⟩ := HB.out x (List.mem_of_getElem? hx)
      have hcx := fun q => conv_any (P := Try.prog) Try.underlying32 Try.underlying5 Try.underlying9 (c := x.c) x.bs hxl (hxa.drew q)
      have u0 : ∀ q, (w.drewN q).cell? ⟨b, off + k * 3, none⟩ = some (.slice x.A x.k x.c) := fun q => c0
      clear hxa hxl c0
      have HX := Lib.hid hx; clear hx
      generalize hs : strOf x.bs = sx at *
      generalize x.A = XA at *
      generalize x.k = xk at *
      generalize x.c = xc at *
      have hlt' : (k : Int) < n := by omega
      have hd1 : decide ((k : Int) < n) = true := decide_eq_true hlt'
      have hd2 : decide (k < n) = true := decide_eq_true hlt
      have hkey : pf.lt x.key s = Op.bytesLess sx.toList s.toList := by unfold pf.lt PItm.key; rw [hs]
      have hstep := while_step (fun y : PItm => pf.lt y.key s) l k x hkp HX.out
      simp only [hkey] at hstep
      have HSTEP := Lib.hid hstep; clear hstep hkp
      have hhas : pf.place l s = k → pf.has l s = (sx.toList == s.toList) := fun e => by unfold pf.has; rw [e, HX.out]; show (x.key.toList == s.toList) = _; unfold PItm.key; rw [hs]
      have HHAS := Lib.hid hhas; clear hhas hkey hs
      by_cases hless : Op.bytesLess sx.toList s.toList = true
      · go_wp2_with fail
        go_quiet (fail)
        go_wp2_with fail
        go_roundw
        case rel => exact ⟨k + 1, _, HSTEP.out.1 hless, by go_num, rfl⟩
        case measure => simp [intOf]; omega
      · have hless' : Op.bytesLess sx.toList s.toList = false := by simpa using hless
        clear hless
        have hp := HSTEP.out.2 hless'
        have hh := HHAS.out hp
        have HPH := Lib.hid (And.intro (show pf.place l s = k from hp) hh); clear hp hh HSTEP HHAS
        go_wp2_with fail
        go_quiet (fail)
        go_wp2_with fail
        go_quiet (fail)
        go_wp2_with fail
        go_ret2
        exact ⟨by rw [HPH.out.1, HPH.out.2]; rfl, _, by rw [World.drewN_drewN, World.drewN_drewN]⟩
    · have hp : pf.place l s = k := by have := pf.place_le l s; rw [HL.out] at this; omega
      have hh : pf.has l s = false := by unfold pf.has; rw [hp, List.getElem?_eq_none (by rw [HL.out]; omega)]
      have HPH := Lib.hid (And.intro hp hh); clear hkp hp hh
      have hd1 : decide ((k : Int) < n) = false := decide_eq_false (by omega)
      have hd2 : decide (k < n) = false := decide_eq_false hlt
      go_wp2_with fail
      go_quiet (fail)
      go_wp2_with fail
      go_quiet (fail)
      go_wp2_with fail
      go_ret2
      exact ⟨by rw [HPH.out.1, HPH.out.2]; rfl, _, by rw [World.drewN_drewN, World.drewN_drewN]⟩
end
section
open Go.RowKit
set_option maxRecDepth 20000

theorem infoPair : (Try.prog.info? 95).map (fun i => (i.zero, i.size, i.bytes)) = some (some (.agg #[.slice none 0 0, .slice none 0 0, .int .i64 0]), 3, 56) := by kernel_rfl
theorem pf.row_one (l : List PItm) : ∀ j, j < l.length * 3 → ((pf.row l).getD j undef).oneCell' = true := by
  intro j hj
  obtain ⟨x, hx⟩ : ∃ x, l[j / 3]? = some x := ⟨_, List.getElem?_eq_getElem (by omega)⟩
  obtain ⟨r0, r1, r2⟩ := pf.row_at hx
  have : j % 3 = 0 ∨ j % 3 = 1 ∨ j % 3 = 2 := by omega
  rcases this with h | h | h
  · rw [show j = j / 3 * 3 by omega, r0]; rfl
  · rw [show j = j / 3 * 3 + 1 by omega, r1]; rfl
  · rw [show j = j / 3 * 3 + 2 by omega, r2]; rfl
theorem pf.row_all {l : List PItm} {n : Nat} (h : l.length = n) : cellsOf (n * 3) (fun j => (pf.row l).getD j undef) = pf.row l := by
  have := cellsOf_list (pf.row l)
  rw [pf.row_len, h] at this
  exact this
theorem pf.row_take : ∀ (l : List PItm) (i : Nat), (pf.row l).take (i * 3) = pf.row (l.take i)
  | [], i => by simp [pf.row]
  | y :: l, 0 => by simp [pf.row]
  | y :: l, i + 1 => by
    have e : pf.row (y :: l) = .slice y.A y.k y.c :: .slice y.VA y.vk y.vc :: .int .i64 y.off :: pf.row l := rfl
    rw [List.take_succ_cons, e, show (i + 1) * 3 = i * 3 + 3 by omega]
    show _ :: _ :: _ :: (pf.row l).take (i * 3) = _
    rw [pf.row_take l i]
    rfl
theorem pf.row_drop : ∀ (l : List PItm) (i : Nat), (pf.row l).drop (i * 3) = pf.row (l.drop i)
  | [], i => by simp [pf.row]
  | y :: l, 0 => by simp
  | y :: l, i + 1 => by
    have e : pf.row (y :: l) = .slice y.A y.k y.c :: .slice y.VA y.vk y.vc :: .int .i64 y.off :: pf.row l := rfl
    rw [List.drop_succ_cons, ← pf.row_drop l i, e, show (i + 1) * 3 = i * 3 + 3 by omega]
    rfl
theorem PAt.take {w : World} {A : Option Addr} {l : List PItm} (h : PAt w A l) (i : Nat) : PAt w A (l.take i) :=
  (At.le h (by rw [List.length_take]; omega)).congr fun j hj => by
    show (pf.row l).getD j undef = (pf.row (l.take i)).getD j undef
    have hj' : j < i * 3 := by rw [List.length_take] at hj; omega
    rw [← pf.row_take]
    simp only [List.getD]
    rw [List.getElem?_take_of_lt hj']
theorem PAt.drop {w : World} {A : Option Addr} {l : List PItm} (h : PAt w A l) (i : Nat) : PAt w (A.map fun a => a.add (i * 3)) (l.drop i) := fun hn => by
  rw [List.length_drop] at hn
  obtain ⟨b, off, rfl, h2, h3⟩ := h (by omega)
  refine ⟨b, off + i * 3, by simp [Addr.add], h2, fun j hj => ?_⟩
  rw [List.length_drop] at hj
  have h4 := h3 (i * 3 + j) (by omega)
  rw [Nat.add_assoc, h4, ← pf.row_drop]
  simp [List.getD]
theorem pf.run_slice (w : World) (A : Option Addr) (n c l h : Nat) (low high : Option Value) (hlo : (low = none ∧ l = 0) ∨ low = some (.int .i64 (l : Int))) (hhi : (high = none ∧ h = n) ∨ high = some (.int .i64 (h : Int))) (hlh : l ≤ h) (hhn : h ≤ n) (hnc : n ≤ c) :
    ∃ A', (Instr.sliceAt 78 (.slice A n c) low high none).run Try.prog w = .ok (.slice A' (h - l) (c - l)) w ∧ ((A' = A.map fun a => a.add (l * 3)) ∨ h - l = 0) := by
  obtain ⟨i0, hi, hz0, hz1, hz2⟩ := info_parts infoPair
  have h1 : (0 : Int) ≤ (l : Int) ∧ (l : Int) ≤ (h : Int) := by omega
  have h2 : (0 : Int) ≤ (h : Int) ∧ (h : Int) ≤ (c : Int) := by omega
  refine ⟨if c = l then A else A.map fun a => a.add (l * 3), ?_, ?_⟩
  · rcases hlo with ⟨rfl, rfl⟩ | rfl <;> rcases hhi with ⟨rfl, rfl⟩ | rfl <;>
      simp [Instr.sliceAt, Instr.slice, Instr.sliceBounds, Instr.sliceBound, run_underlying Try.underlying78, sizeOf, typeInfo, hi, hz1, asIntOf, hlh, Nat.le_trans hhn hnc]
    all_goals (have hq := Nat.le_trans hhn hnc; intros; omega)
  · by_cases e : c = l
    · exact .inr (by omega)
    · rw [if_neg e]
      exact .inl rfl
theorem pf.wpList_slice {ops : Array Oper} {rest : List Oper} {o : Oper} {a : Act} {w : World} {Q : Exit → Act → World → Prop} (hgd : o.guard = none) (x : Operand) (lo hi : Option Operand)
    (ho : o.op = .slice 78 x lo hi none) (A : Option Addr) (n c l h : Nat) (hx : a.eval x = .slice A n c) (hlo : (lo.map a.eval = none ∧ l = 0) ∨ lo.map a.eval = some (.int .i64 (l : Int))) (hhi : (hi.map a.eval = none ∧ h = n) ∨ hi.map a.eval = some (.int .i64 (h : Int))) (hlh : l ≤ h) (hhn : h ≤ n) (hnc : n ≤ c)
    (hQ : ∀ A' c', (∀ wx (L : List PItm), L.length = n → PAt wx A L → PAt wx A' ((L.drop l).take (h - l))) → h - l ≤ c' → c' ≤ c → wpList Try.prog ops Q rest (a.put o.dst (.slice A' (h - l) c')) w) : wpList Try.prog ops Q (o :: rest) a w :=
  wpList_plain hgd fun _ hK => by
    obtain ⟨A', hr, hA⟩ := pf.run_slice w A n c l h (lo.map a.eval) (hi.map a.eval) hlo hhi hlh hhn hnc
    unfold Oper.wp execOp
    simp only [ho, hx, Option.map_none, Sem.run_bind, Result.andThen_ok, hr]
    refine hK _ _ (hQ A' (c - l) (fun wx L hL hat => ?_) (by omega) (by omega))
    rcases hA with rfl | h0
    · exact (hat.drop l).take _
    · intro hn; rw [List.length_take] at hn; omega

/-- A pair put in its place. -/
def pf.put (l : List PItm) (x : PItm) : List PItm := l.take (pf.place l x.key) ++ [x] ++ l.drop (pf.place l x.key + if pf.has l x.key then 1 else 0)
def PItm.agg (x : PItm) : Value := .agg #[.slice x.A x.k x.c, .slice x.VA x.vk x.vc, .int .i64 x.off]
theorem pf.at_one {w : World} {g : Nat} {T : TypeId} {a b c : Value} (h : Blk w g T #[a, b, c]) : At w (some ⟨g, 0, none⟩) (1 * 3) (fun j => ([a, b, c] : List Value).getD j undef) := fun _ =>
  ⟨g, 0, rfl, h.lt, fun j hj => by
    rw [Nat.zero_add]
    match j, hj with
    | 0, _ => exact h.cell 0 rfl
    | 1, _ => exact h.cell 1 rfl
    | 2, _ => exact h.cell 2 rfl⟩

theorem pf.one_one (XA : Option Addr) (xk xc : Nat) (VA : Option Addr) (vk vc : Nat) (o : Int) : ∀ j, j < 1 * 3 → (([.slice XA xk xc, .slice VA vk vc, .int .i64 o] : List Value).getD j undef).oneCell' = true := fun j hj => match j, hj with
  | 0, _ => rfl
  | 1, _ => rfl
  | 2, _ => rfl
set_option maxHeartbeats 4000000 in
theorem pf.put_any (A : Option Addr) (n c : Nat) (l : List PItm) (x : PItm) (w : World) (hl : l.length = n) (hn : n ≤ 100000) (hnc : n ≤ c) (hat : PAt w A l) (hb : ∀ y ∈ l, PBytes w y) (hx : PBytes w x) :
    Calls Try.prog 51 #[.slice A n c, x.agg] w fun e w' => ∃ v, e = .returned v ∧ w'.ownsRow w.heap.size 95 3 v (pf.put l x).length (pf.row (pf.put l x)) ∧ Below w.heap.size w w' := by
  obtain ⟨XA, xk, xc, bs, VA, vk, vc, vs, xo⟩ := x
  obtain ⟨w1, hw1⟩ : ∃ w1, w1 = w.alloc (.cells #[.slice XA xk xc, .slice VA vk vc, .int .i64 xo] 95) := ⟨_, rfl⟩
  have hb1 : Below w.heap.size w w1 := by rw [hw1]; exact (Below.refl _ _).alloc (Nat.le_refl _) _
  have hx1 := hx.below hb1 (Nat.le_refl _)
  have hf := pf.find_any A n c l XA xk xc bs w1 hl (by omega) (At.below hat hb1 (Nat.le_refl _)) (fun y hy => (hb y hy).below hb1 (Nat.le_refl _)) hx1.1 hx1.2.2.1
  have hbx : Blk w1 w.heap.size 95 #[.slice XA xk xc, .slice VA vk vc, .int .i64 xo] := by rw [hw1]; exact Blk.new _ _ _
  obtain ⟨k, hk⟩ : ∃ k, k = pf.place l (strOf bs) := ⟨_, rfl⟩
  obtain ⟨t, ht⟩ : ∃ t, t = pf.has l (strOf bs) := ⟨_, rfl⟩
  have hput : pf.put l ⟨XA, xk, xc, bs, VA, vk, vc, vs, xo⟩ = l.take k ++ [⟨XA, xk, xc, bs, VA, vk, vc, vs, xo⟩] ++ l.drop (k + if t then 1 else 0) := by rw [hk, ht]; rfl
  rw [hput]
  rw [← hk, ← ht] at hf
  have hkn : k ≤ n := by rw [hk, ← hl]; exact pf.place_le _ _
  have htk : t = true → k < n := fun e => by
    rw [ht] at e
    unfold pf.has at e
    rw [← hk] at e
    cases hg : l[k]? with
    | none => rw [hg] at e; cases e
    | some y => rw [← hl]; exact (List.getElem?_eq_some_iff.1 hg).1
  have hfb : ∀ y : PItm, y.cells = [.slice y.A y.k y.c, .slice y.VA y.vk y.vc, .int .i64 y.off] := fun _ => rfl
  obtain ⟨i0, hinf⟩ := info_parts infoPair
  have HI := Lib.hid hinf; clear hinf
  have HF := Lib.hid hf; clear hf
  have HL := Lib.hid hl; clear hl
  have HAT := Lib.hid hat; clear hat
  have HB1 := Lib.hid hb1; clear hb1
  have HBX := Lib.hid hbx; clear hbx
  have HW1 := Lib.hid hw1.symm; clear hw1
  clear hk ht hput hb hx hx1
  unfold PItm.agg
  dsimp only
  go_enter Try.func51, Try.ntmps51
  go_wp2_with fail
  rw [HW1.out]
  refine HF.out.mono ?_
  rintro e w2 ⟨rfl, q, hw2⟩
  have HB2 := Lib.hid (show Below w.heap.size w w2 from by rw [hw2]; exact bdrew HB1.out q)
  have HBX2 := Lib.hid (show Blk w2 w.heap.size 95 #[.slice XA xk xc, .slice VA vk vc, .int .i64 xo] from by rw [hw2]; exact HBX.out)
  clear hw2 HF HBX HB1 HW1
  have HM := Lib.hid (show (w2.alloc (.cells #[] 95)).ownsRow w.heap.size 95 3 (.slice (some ⟨w2.heap.size, 0, none⟩) 0 0) 0 [] from World.ownsRow_made w2 #[] 0 HB2.out.size (by unfold maxLen; omega) (by simp))
  go_upto_region 3 with (show Go.wpList _ _ _ (⟨_, .slice _ (.tmp 16) _ _ _, _, _, _, _⟩ :: _) _ _; go_loud (refine pf.wpList_slice rfl (.tmp 16) _ _ rfl A n c 0 k rfl (.inl ⟨rfl, rfl⟩) (.inr rfl) (by omega) hkn hnc ?_; intro A1 c1 hp1 hc11 hc12; rw [Nat.sub_zero] at hp1 hc11 ⊢; have HP1 := Lib.hid hp1; clear hp1; refine wpList_app2 _ rfl (.tmp 15) (.tmp 18) 78 rfl w.heap.size 95 i0 _ 3 56 Try.underlying78 HI.out.1 HI.out.2.1 HI.out.2.2.1 HI.out.2.2.2 rfl (by decide) _ 0 [] rfl HM.out A1 k c1 (fun j => (pf.row (l.take k)).getD j undef) rfl (by have h := HP1.out (w2.alloc (.cells #[] 95)) l HL.out (At.below HAT.out (HB2.out.alloc HB2.out.size _) (Nat.le_refl _)); rw [List.drop_zero] at h; unfold PAt at h; rw [List.length_take, HL.out, Nat.min_eq_left hkn] at h; exact h) (by have h := pf.row_one (l.take k); rw [List.length_take, HL.out, Nat.min_eq_left hkn] at h; exact h) (by unfold maxLen; omega) (by omega) (by have := HB2.out.size; simp; omega) ?_; intro v2 w3 hown hg hl3; rw [List.nil_append, pf.row_all (l := l.take k) (n := k) (by rw [List.length_take, HL.out, Nat.min_eq_left hkn]), Nat.zero_add] at hown; have HO3 := Lib.hid hown; have HB3 := Lib.hid ((HB2.out.alloc HB2.out.size _).grown hg (by have := HB2.out.size; simp; omega) fun j hj => (HM.out.lt j hj).1); have HBX3 := Lib.hid (show Blk w3 w.heap.size 95 #[.slice XA xk xc, .slice VA vk vc, .int .i64 xo] from (Chg.grown (show (w2.alloc (.cells #[] 95)).grownBy w3 (Value.slice (some ⟨w2.heap.size, 0, none⟩) 0 0).ownBlock from hg)).blk ((Chg.alloc w2 _ (fun _ => False)).blk HBX2.out id) fun e => by have e2 : w2.heap.size = w.heap.size := (by simpa [Value.ownBlock] using e); have := HBX2.out.lt; omega); clear hown hl3 hg))
  have e0 := HBX3.out.cell 0 rfl
  have e1 := HBX3.out.cell 1 rfl
  have e2 := HBX3.out.cell 2 rfl
  have HM3 := Lib.hid (show (w3.alloc (.cells #[.slice XA xk xc, .slice VA vk vc, .int .i64 xo] 95)).ownsRow w.heap.size 95 3 v2 k (pf.row (l.take k)) from HO3.out.alloc _)
  have HBA3 := Lib.hid (show Below w.heap.size w (w3.alloc (.cells #[.slice XA xk xc, .slice VA vk vc, .int .i64 xo] 95)) from HB3.out.alloc HB3.out.size _)
  go_upto_region 4 with (at_builtin; go_loud (refine wpList_app2 _ rfl (.tmp 20) (.tmp 22) 78 rfl w.heap.size 95 i0 _ 3 56 Try.underlying78 HI.out.1 HI.out.2.1 HI.out.2.2.1 HI.out.2.2.2 rfl (by decide) _ k (pf.row (l.take k)) rfl HM3.out (some ⟨w3.heap.size, 0, none⟩) 1 1 (fun j => ([.slice XA xk xc, .slice VA vk vc, .int .i64 xo] : List Value).getD j undef) rfl (pf.at_one (Blk.new w3 95 _)) (pf.one_one _ _ _ _ _ _ _) (by unfold maxLen; omega) (by omega) (by have := HB3.out.size; simp; omega) ?_; intro v4 w4 hown hg hl4; rw [show cellsOf (1 * 3) (fun j => ([.slice XA xk xc, .slice VA vk vc, .int .i64 xo] : List Value).getD j undef) = pf.row [⟨XA, xk, xc, bs, VA, vk, vc, vs, xo⟩] from cellsOf_list _, ← pf.row_append] at hown; have HO4 := Lib.hid hown; have HB4 := Lib.hid (HBA3.out.grown hg HBA3.out.size fun j hj => (HM3.out.lt j hj).1); clear hown hl4 hg))
  clear e0 e1 e2
  cases t
  · have hkn1 : k ≤ n := hkn
    clear htk
    go_wp2_with (show Go.wpList _ _ _ (⟨_, .slice _ (.tmp 28) _ _ _, _, _, _, _⟩ :: _) _ _; go_loud (refine pf.wpList_slice rfl (.tmp 28) _ _ rfl A n c k n rfl (.inr rfl) (.inl ⟨rfl, rfl⟩) hkn1 (Nat.le_refl _) hnc ?_; intro A2 c2 hp2 hc21 hc22; have HP2 := Lib.hid hp2; clear hp2; refine wpList_app2 _ rfl (.tmp 27) (.tmp 30) 78 rfl w.heap.size 95 i0 _ 3 56 Try.underlying78 HI.out.1 HI.out.2.1 HI.out.2.2.1 HI.out.2.2.2 rfl (by decide) _ (k + 1) _ rfl HO4.out A2 (n - k) c2 (fun j => (pf.row (l.drop k)).getD j undef) rfl (by have h := HP2.out w4 l HL.out (At.below HAT.out HB4.out (Nat.le_refl _)); rw [List.take_of_length_le (by rw [List.length_drop, HL.out]; exact Nat.le_refl _)] at h; unfold PAt at h; rw [List.length_drop, HL.out] at h; exact h) (by have h := pf.row_one (l.drop k); rw [List.length_drop, HL.out] at h; exact h) (by unfold maxLen; omega) (by omega) HB4.out.size ?_; intro v6 w6 hown hg hl6; rw [pf.row_all (l := l.drop k) (n := n - k) (by rw [List.length_drop, HL.out]), ← pf.row_append] at hown; have HO6 := Lib.hid hown; have HB6 := Lib.hid (HB4.out.grown hg HB4.out.size fun j hj => (HO4.out.lt j hj).1); clear hown hl6 hg))
    go_ret
    refine ⟨_, rfl, ?_, HB6.out⟩
    have ex : ∀ y : PItm, l.take k ++ y :: l.drop k = l.take k ++ [y] ++ l.drop k := fun y => by simp
    rw [show min k l.length + (l.length - k + 1) = k + 1 + (n - k) from by rw [HL.out]; omega, ex]
    exact HO6.out
  · have hkn1 : k + 1 ≤ n := htk rfl
    clear htk
    go_wp2_with (show Go.wpList _ _ _ (⟨_, .slice _ (.tmp 28) _ _ _, _, _, _, _⟩ :: _) _ _; go_loud (refine pf.wpList_slice rfl (.tmp 28) _ _ rfl A n c (k + 1) n rfl (.inr (by rw [Int.natCast_add]; rfl)) (.inl ⟨rfl, rfl⟩) hkn1 (Nat.le_refl _) hnc ?_; intro A2 c2 hp2 hc21 hc22; have HP2 := Lib.hid hp2; clear hp2; refine wpList_app2 _ rfl (.tmp 27) (.tmp 30) 78 rfl w.heap.size 95 i0 _ 3 56 Try.underlying78 HI.out.1 HI.out.2.1 HI.out.2.2.1 HI.out.2.2.2 rfl (by decide) _ (k + 1) _ rfl HO4.out A2 (n - (k + 1)) c2 (fun j => (pf.row (l.drop (k + 1))).getD j undef) rfl (by have h := HP2.out w4 l HL.out (At.below HAT.out HB4.out (Nat.le_refl _)); rw [List.take_of_length_le (by rw [List.length_drop, HL.out]; exact Nat.le_refl _)] at h; unfold PAt at h; rw [List.length_drop, HL.out] at h; exact h) (by have h := pf.row_one (l.drop (k + 1)); rw [List.length_drop, HL.out] at h; exact h) (by unfold maxLen; omega) (by omega) HB4.out.size ?_; intro v6 w6 hown hg hl6; rw [pf.row_all (l := l.drop (k + 1)) (n := n - (k + 1)) (by rw [List.length_drop, HL.out]), ← pf.row_append] at hown; have HO6 := Lib.hid hown; have HB6 := Lib.hid (HB4.out.grown hg HB4.out.size fun j hj => (HO4.out.lt j hj).1); clear hown hl6 hg))
    go_ret
    refine ⟨_, rfl, ?_, HB6.out⟩
    have ex : ∀ y : PItm, l.take k ++ y :: l.drop (k + 1) = l.take k ++ [y] ++ l.drop (k + 1) := fun y => by simp
    rw [show min k l.length + (l.length - (k + 1) + 1) = k + 1 + (n - (k + 1)) from by rw [HL.out]; omega, ex]
    exact HO6.out
end
section
open Go.RowKit
set_option maxRecDepth 20000

/-- The document's map at r. -/
def RMapAt (w0 w : World) (r : Nat) (most : Int) (l : List PItm) : Prop :=
  ∃ v, Blk w r 80 #[.int .i64 most, v] ∧ w.ownsRow 0 95 3 v l.length (pf.row l) ∧ ∀ x ∈ l, PBytes w0 x
theorem RMapAt.chg {w0 w w' : World} {r : Nat} {most : Int} {l : List PItm} {P : Nat → Prop} (h : RMapAt w0 w r most l) (hc : Chg w w' P) (hp : ∀ k, P k → ∀ cs T fr, w.heap[k]? = some (.cells cs T fr) → T ≠ 80 ∧ T ≠ 95) : RMapAt w0 w' r most l := by
  obtain ⟨v, h1, h2, h3⟩ := h
  refine ⟨v, hc.blk h1 fun hh => (hp _ hh _ _ _ h1).1 rfl, hc.own h2 fun k hk hh => ?_, h3⟩
  rcases h2.2 with ⟨rfl, _⟩ | ⟨g, cap, cur, rfl, _, hg, _⟩
  · cases hk
  · obtain rfl : g = k := by simpa [Value.ownBlock] using hk
    exact (hp _ hh _ _ _ hg).2 rfl
theorem RMapAt.below {w0 w w' : World} {r : Nat} {most : Int} {l : List PItm} (h : RMapAt w0 w r most l) (hb : Below w.heap.size w w') : RMapAt w0 w' r most l := h.chg (chg_of (P := fun _ => False) hb) fun _ h => h.elim
theorem RMapAt.lt {w0 w : World} {r : Nat} {most : Int} {l : List PItm} (h : RMapAt w0 w r most l) : r < w.heap.size := by
  obtain ⟨v, h1, -⟩ := h
  exact h1.lt
/-- Is there room? -/
def pf.can (l : List PItm) (most : Int) (s : ByteArray) : Bool := pf.has l s || decide ((l.length : Int) < most)
/-- What is offered, as it is put. -/
def pf.raise (l : List PItm) (x : PItm) : PItm := match pf.has l x.key, l[pf.place l x.key]? with | true, some y => { x with off := max x.off y.off } | _, _ => x
def pf.offer (l : List PItm) (most : Int) (x : PItm) : List PItm := if pf.can l most x.key then pf.put l (pf.raise l x) else l
def pf.look (l : List PItm) (s : ByteArray) : Option Int := match pf.has l s, l[pf.place l s]? with | true, some y => some y.off | _, _ => none
theorem pf.has_at {l : List PItm} {s : ByteArray} (h : pf.has l s = true) : ∃ y, l[pf.place l s]? = some y := by
  unfold pf.has at h
  cases hg : l[pf.place l s]? with
  | none => rw [hg] at h; cases h
  | some y => exact ⟨y, rfl⟩

set_option maxHeartbeats 2000000 in
theorem rmap.last_any (w0 : World) (r : Nat) (most : Int) (l : List PItm) (X : Option Addr) (m cx : Nat) (K : List Nat) (w : World) (h : RMapAt w0 w r most l) (h0 : Below w0.heap.size w0 w) (hlen : l.length ≤ 10000) (hk : K.length = m) (hka : At w X m (byteAt K)) :
    Calls Try.prog 38 #[.pointer (some ⟨r, 0, none⟩), .slice X m cx] w fun e w' => e = .returned (.tuple #[.int .i64 ((pf.look l (strOf K)).getD 0), .bool (pf.look l (strOf K)).isSome]) ∧ ∃ q, w' = w.drewN q := by
  obtain ⟨v, h1, h2, h3⟩ := h
  obtain ⟨A, c, rfl, hnc, hat⟩ := own_at h2
  obtain ⟨n, hn⟩ : ∃ n, n = l.length := ⟨_, rfl⟩
  have hf := pf.find_any A n c l X m cx K w hn.symm (by omega) hat (fun x hx => (h3 x hx).below h0 (Nat.le_refl _)) hk hka
  have c1 : w.cell? ⟨r, 1, none⟩ = some (.slice A l.length c) := h1.cell 1 rfl
  rw [← hn] at c1 hlen
  have HF := Lib.hid hf; clear hf
  obtain ⟨t, ht⟩ : ∃ t, t = pf.has l (strOf K) := ⟨_, rfl⟩
  obtain ⟨k, hkp⟩ : ∃ k, k = pf.place l (strOf K) := ⟨_, rfl⟩
  rw [← ht, ← hkp] at HF
  cases t with
  | false =>
    have hl : pf.look l (strOf K) = none := by unfold pf.look; rw [← ht]
    rw [hl]
    clear ht hkp hl h1 h2 h3 hat hn
    go_enter Try.func38, Try.ntmps38
    go_wp2_with fail
    refine HF.out.mono ?_
    rintro e w1 ⟨rfl, q, rfl⟩
    go_wp2_with fail
    go_ret2
    exact ⟨rfl, q, rfl⟩
  | true =>
    obtain ⟨y, hy⟩ := pf.has_at ht.symm
    rw [← hkp] at hy
    have hl : pf.look l (strOf K) = some y.off := by unfold pf.look; rw [← ht, ← hkp, hy]
    rw [hl]
    have hkn : k < n := by rw [hn]; exact (List.getElem?_eq_some_iff.1 hy).1
    obtain ⟨b, off, rfl, -, -, -, d2⟩ := PAt.cells hat hy
    have u1 : ∀ q, (w.drewN q).cell? ⟨r, 1, none⟩ = some (.slice (some ⟨b, off, none⟩) n c) := fun _ => c1
    have u2 : ∀ q, (w.drewN q).cell? ⟨b, off + k * 3 + 2, none⟩ = some (.int .i64 y.off) := fun _ => d2
    generalize y.off = yo at *
    clear ht hkp hl h1 h2 h3 hat hn hy d2
    go_enter Try.func38, Try.ntmps38
    go_wp2_with fail
    refine HF.out.mono ?_
    rintro e w1 ⟨rfl, q, rfl⟩
    go_wp2_with fail
    go_ret2
    exact ⟨rfl, q, rfl⟩
end
section
open Go.RowKit
set_option maxRecDepth 20000

def POff (X : Option Addr) (m c : Nat) (K : List Nat) (o : Int) : PItm := ⟨X, m, c, K, none, 0, 0, [], o⟩
theorem POff.bytes {w : World} {X : Option Addr} {m c : Nat} {K : List Nat} (o : Int) (hk : K.length = m) (hm : m ≤ 1000000) (h : At w X m (byteAt K)) : PBytes w (POff X m c K o) := ⟨hk, hm, h, rfl, Nat.zero_le _, fun h => absurd h (Nat.lt_irrefl 0)⟩
theorem pf.put_mem {l : List PItm} {x y : PItm} (h : y ∈ pf.put l x) : y = x ∨ y ∈ l := by
  unfold pf.put at h
  rcases List.mem_append.1 h with h | h
  · rcases List.mem_append.1 h with h | h
    · exact .inr (List.mem_of_mem_take h)
    · exact .inl (List.mem_singleton.1 h)
  · exact .inr (List.mem_of_mem_drop h)

/-- What a store of the new row leaves. -/
theorem RMapAt.stored {w0 w w1 w2 wf : World} {r : Nat} {most : Int} {l : List PItm} {v v' : Value} {x : PItm} (hr : Blk w r 80 #[.int .i64 most, v]) (hb : ∀ y ∈ l, PBytes w0 y) (hx : PBytes w0 x)
    (h1 : Below w.heap.size w w1) (h2 : Below w1.heap.size w1 w2) (ho : w2.ownsRow w1.heap.size 95 3 v' (pf.put l x).length (pf.row (pf.put l x))) (e : wf = w2.setCell ⟨r, 1, none⟩ v') :
    RMapAt w0 wf r most (pf.put l x) ∧ Chg w wf (fun k => k = r) := by
  have h12 : Below w.heap.size w w2 := h1.trans (h2.mono h1.size)
  have hr2 := (chg_of (P := fun _ => False) h12).blk hr fun h => h
  have hrf : Blk wf r 80 #[.int .i64 most, v'] := by rw [e]; exact hr2.set 1 _
  have hcf : Chg w2 wf (fun k => k = r) := by rw [e]; exact Chg.setCell _ _ _ _
  have hof := hcf.own ho fun k hk e => by subst e; exact hr2.not_row (by decide) ho hk
  exact ⟨⟨v', hrf, ownsRow_base hof (Nat.zero_le _), fun y hy => (pf.put_mem hy).elim (fun e => e ▸ hx) (hb y)⟩, (chg_of (P := fun k => k = r) h12).trans hcf fun _ _ h => h⟩

def rmap.OfferPost (w0 w : World) (r : Nat) (most : Int) (l : List PItm) (x : PItm) (e : Ending) (w' : World) : Prop :=
  e = .returned (.bool (pf.can l most x.key)) ∧ RMapAt w0 w' r most (pf.offer l most x) ∧ Chg w w' (fun k => k = r)

set_option maxHeartbeats 400000 in
theorem rmap.offer_any (w0 : World) (r : Nat) (most : Int) (l : List PItm) (X : Option Addr) (m cx : Nat) (K : List Nat) (o : Int) (w : World) (h : RMapAt w0 w r most l) (h0 : Below w0.heap.size w0 w) (hlen : l.length ≤ 10000) (hk : K.length = m) (hm : m ≤ 1000000) (hka : At w0 X m (byteAt K)) :
    Calls Try.prog 36 #[.pointer (some ⟨r, 0, none⟩), .slice X m cx, .int .i64 o] w (rmap.OfferPost w0 w r most l (POff X m cx K o)) := by
  obtain ⟨v, h1, h2, h3⟩ := h
  obtain ⟨A, c, rfl, hnc, hat⟩ := own_at h2
  obtain ⟨n, hn⟩ : ∃ n, n = l.length := ⟨_, rfl⟩
  have hb := fun x hx => (h3 x hx).below h0 (Nat.le_refl _)
  have hf := pf.find_any A n c l X m cx K w hn.symm (by omega) hat hb hk (hka.below h0 (Nat.le_refl _))
  have hput : ∀ (o' : Int) (q : Nat), Calls Try.prog 51 #[.slice A n c, (POff X m cx K o').agg] (w.drewN q) fun e w' => ∃ v, e = .returned v ∧ w'.ownsRow w.heap.size 95 3 v (pf.put l (POff X m cx K o')).length (pf.row (pf.put l (POff X m cx K o'))) ∧ Below w.heap.size (w.drewN q) w' := fun o' q =>
    pf.put_any A n c l (POff X m cx K o') (w.drewN q) hn.symm (by omega) (by rw [hn]; exact hnc) hat hb ((POff.bytes o' hk hm hka).below (bdrew h0 q) (Nat.le_refl _))
  have hfin : ∀ (q : Nat) (o' : Int) (w2 wf : World) (v' : Value), Below w.heap.size (w.drewN q) w2 → w2.ownsRow w.heap.size 95 3 v' (pf.put l (POff X m cx K o')).length (pf.row (pf.put l (POff X m cx K o'))) → wf = w2.setCell ⟨r, 1, none⟩ v' → RMapAt w0 wf r most (pf.put l (POff X m cx K o')) ∧ Chg w wf (fun k => k = r) := fun q o' w2 wf v' hb2 ho e =>
    RMapAt.stored (w1 := w.drewN q) h1 h3 (POff.bytes o' hk hm hka) (bdrew (Below.refl _ w) q) hb2 ho e
  have hstill : RMapAt w0 w r most l := ⟨_, h1, h2, h3⟩
  have hblk : ∀ (q : Nat) (w2 : World), Below w.heap.size (w.drewN q) w2 → Blk w2 r 80 #[.int .i64 most, .slice A n c] := fun q w2 hb2 => by
    have h1' : Blk w r 80 #[.int .i64 most, .slice A n c] := by rw [hn]; exact h1
    exact (hb2.block r h1.lt).trans h1'
  have u1 : ∀ q, (w.drewN q).cell? ⟨r, 1, none⟩ = some (.slice A n c) := fun _ => by rw [hn]; exact h1.cell 1 rfl
  have u0 : ∀ q, (w.drewN q).cell? ⟨r, 0, none⟩ = some (.int .i64 most) := fun _ => h1.cell 0 rfl
  have c1 : w.cell? ⟨r, 1, none⟩ = some (.slice A n c) := u1 0
  have HF := Lib.hid hf; clear hf
  have HPUT := Lib.hid hput; clear hput
  have HFIN := Lib.hid hfin; clear hfin
  have HST := Lib.hid hstill; clear hstill
  have HBLK := Lib.hid hblk; clear hblk
  rw [← hn] at hlen
  obtain ⟨t, ht⟩ : ∃ t, t = pf.has l (strOf K) := ⟨_, rfl⟩
  obtain ⟨k, hkp⟩ : ∃ k, k = pf.place l (strOf K) := ⟨_, rfl⟩
  rw [← ht, ← hkp] at HF
  have hkey : (POff X m cx K o).key = strOf K := rfl
  cases t with
  | false =>
    by_cases hroom : (n : Int) < most
    · have hcan : pf.can l most (POff X m cx K o).key = true := by unfold pf.can; rw [hkey, ← ht, ← hn]; simpa using hroom
      have hoff : pf.offer l most (POff X m cx K o) = pf.put l (POff X m cx K o) := by unfold pf.offer; rw [if_pos hcan]; unfold pf.raise; rw [hkey, ← ht]
      have HE := Lib.hid (And.intro hcan hoff); clear hcan hoff
      clear ht hkp h1 h2 h3 hat hb hk hka hkey hn
      have hd : decide (most ≤ (n : Int)) = false := decide_eq_false (by omega)
      go_enter Try.func36, Try.ntmps36
      go_wp2_with fail
      refine HF.out.mono ?_
      rintro e w1 ⟨rfl, q, rfl⟩
      go_wp2_with fail
      go_quiet (fail)
      go_wp2_with fail
      refine (HPUT.out o (q + nq)).mono ?_
      rintro e w2 ⟨v', rfl, ho, hb2⟩
      obtain ⟨A9, c9, rfl, -⟩ := own_at ho
      have hbk := HBLK.out (q + nq) w2 hb2
      have d1 := hbk.cell 1 rfl
      have ff := hbk.frozen 1
      have HFI := Lib.hid (fun wf => HFIN.out (q + nq) o w2 wf _ hb2 ho); clear hbk ho hb2
      generalize (pf.put l (POff X m cx K o)).length = nl at *
      go_wp2
      go_ret
      obtain ⟨g1, g2⟩ := HFI.out _ rfl
      exact ⟨by rw [HE.out.1]; rfl, by rw [HE.out.2]; exact g1, g2⟩
    · have hcan : pf.can l most (POff X m cx K o).key = false := by unfold pf.can; rw [hkey, ← ht, ← hn]; simpa using hroom
      have hoff : pf.offer l most (POff X m cx K o) = l := by unfold pf.offer; rw [if_neg (by rw [hcan]; decide)]
      have HE := Lib.hid (And.intro hcan hoff); clear hcan hoff
      clear ht hkp h1 h2 h3 hat hb hk hka hkey hn
      have hd : decide (most ≤ (n : Int)) = true := decide_eq_true (by omega)
      go_enter Try.func36, Try.ntmps36
      go_wp2_with fail
      refine HF.out.mono ?_
      rintro e w1 ⟨rfl, q, rfl⟩
      go_wp2_with fail
      go_quiet (fail)
      go_wp2
      go_ret
      have hbd : Below w.heap.size w ((w.drewN q).drewN nq) := bdrew (bdrew (Below.refl _ w) _) _
      exact ⟨by rw [HE.out.1]; rfl, by rw [HE.out.2]; exact HST.out.below hbd, chg_of hbd⟩
  | true =>
    obtain ⟨y, hy⟩ := pf.has_at ht.symm
    rw [← hkp] at hy
    have hcan : pf.can l most (POff X m cx K o).key = true := by unfold pf.can; rw [hkey, ← ht]; rfl
    have hoff : pf.offer l most (POff X m cx K o) = pf.put l (POff X m cx K (max o y.off)) := by unfold pf.offer; rw [if_pos hcan]; unfold pf.raise; rw [hkey, ← ht, ← hkp, hy]; rfl
    have HE := Lib.hid (And.intro hcan hoff); clear hcan hoff
    have hkn : k < n := by rw [hn]; exact (List.getElem?_eq_some_iff.1 hy).1
    obtain ⟨b, off, rfl, -, -, -, d2⟩ := PAt.cells hat hy
    have u2 : ∀ q, (w.drewN q).cell? ⟨b, off + k * 3 + 2, none⟩ = some (.int .i64 y.off) := fun _ => d2
    generalize y.off = yo at *
    obtain ⟨oo, hoo⟩ : ∃ oo, oo = max o yo := ⟨_, rfl⟩
    have hmax : (if o < yo then yo else o) = oo := by rw [hoo]; split <;> omega
    have hmax2 : max o yo = oo := hoo.symm
    rw [hmax2] at HE
    clear ht hkp h1 h2 h3 hat hb hk hka hkey hn hy d2 hoo
    go_enter Try.func36, Try.ntmps36
    go_wp2_with fail
    refine HF.out.mono ?_
    rintro e w1 ⟨rfl, q, rfl⟩
    go_wp2_with fail
    go_quiet (fail)
    go_wp2_with fail
    refine (HPUT.out oo (q + nq)).mono ?_
    rintro e w2 ⟨v', rfl, ho, hb2⟩
    obtain ⟨A9, c9, rfl, -⟩ := own_at ho
    have hbk := HBLK.out (q + nq) w2 hb2
    have d1 := hbk.cell 1 rfl
    have ff := hbk.frozen 1
    have HFI := Lib.hid (fun wf => HFIN.out (q + nq) oo w2 wf _ hb2 ho); clear hbk ho hb2
    generalize (pf.put l (POff X m cx K oo)).length = nl at *
    go_wp2
    go_ret
    obtain ⟨g1, g2⟩ := HFI.out _ rfl
    exact ⟨by rw [HE.out.1]; rfl, by rw [HE.out.2]; exact g1, g2⟩
end
section
open Go.RowKit

theorem pf.lt_iff (s t : ByteArray) : pf.lt s t = true ↔ s.toList < t.toList := by unfold pf.lt; rw [bytesLess_eq]; simp
theorem pf.lt_irrefl (s : ByteArray) : pf.lt s s = false := by
  rw [Bool.eq_false_iff]
  intro h
  exact List.lt_irrefl _ ((pf.lt_iff s s).1 h)
theorem pf.lt_trans {s t u : ByteArray} (h : pf.lt s t = true) (g : pf.lt t u = true) : pf.lt s u = true := (pf.lt_iff _ _).2 (List.lt_trans ((pf.lt_iff _ _).1 h) ((pf.lt_iff _ _).1 g))
theorem pf.toList_inj {s t : ByteArray} (h : s.toList = t.toList) : s = t := by
  rw [ByteArray.toList_eq, ByteArray.toList_eq] at h
  exact ByteArray.ext (Array.ext' h)
theorem pf.eq_of {s t : ByteArray} (h : pf.lt s t = false) (g : pf.lt t s = false) : s = t := by
  have h' : ¬ s.toList < t.toList := fun e => by rw [(pf.lt_iff s t).2 e] at h; cases h
  have g' : ¬ t.toList < s.toList := fun e => by rw [(pf.lt_iff t s).2 e] at g; cases g
  exact pf.toList_inj (List.le_antisymm (List.not_lt.1 g') (List.not_lt.1 h'))
theorem pf.lt_ne {s t : ByteArray} (h : pf.lt s t = true) : s ≠ t := fun e => by rw [e, pf.lt_irrefl] at h; cases h
/-- Keys rise. -/
abbrev Rises (l : List PItm) : Prop := l.Pairwise fun x y => pf.lt x.key y.key = true
theorem take_while_take {α : Type} (p : α → Bool) : ∀ (l : List α), l.take (l.takeWhile p).length = l.takeWhile p
  | [] => rfl
  | x :: l => by
    by_cases h : p x = true
    · rw [List.takeWhile_cons_of_pos h, List.length_cons, List.take_succ_cons, take_while_take p l]
    · rw [List.takeWhile_cons_of_neg h]; rfl
theorem mem_while {α : Type} (p : α → Bool) : ∀ (l : List α) (x : α), x ∈ l.takeWhile p → p x = true
  | [], _, h => by cases h
  | y :: l, x, h => by
    by_cases hp : p y = true
    · rw [List.takeWhile_cons_of_pos hp] at h
      rcases List.mem_cons.1 h with rfl | h
      · exact hp
      · exact mem_while p l x h
    · rw [List.takeWhile_cons_of_neg hp] at h; cases h
theorem pf.take_lt (l : List PItm) (s : ByteArray) : ∀ x ∈ l.take (pf.place l s), pf.lt x.key s = true := by
  intro x hx
  unfold pf.place at hx
  rw [take_while_take] at hx
  exact mem_while (fun y : PItm => pf.lt y.key s) _ _ hx
/-- What stands behind the place. -/
theorem pf.drop_gt {l : List PItm} (h : Rises l) (s : ByteArray) : ∀ x ∈ l.drop (pf.place l s + if pf.has l s then 1 else 0), pf.lt s x.key = true := by
  intro x hx
  obtain ⟨i, hi⟩ := List.getElem?_of_mem hx
  rw [List.getElem?_drop] at hi
  obtain ⟨y, hy⟩ : ∃ y, l[pf.place l s]? = some y := by
    have : pf.place l s < l.length := by have := (List.getElem?_eq_some_iff.1 hi).1; split at this <;> omega
    exact ⟨_, List.getElem?_eq_getElem this⟩
  have hstep := (while_step (fun y : PItm => pf.lt y.key s) l (pf.place l s) y (Nat.le_refl _) hy)
  have hny : pf.lt y.key s = false := by
    rw [Bool.eq_false_iff]
    intro e
    have h1 := hstep.1 e
    have h2 : (l.takeWhile fun y : PItm => pf.lt y.key s).length = pf.place l s := rfl
    omega
  have hle : ∀ j, pf.place l s < j → l[j]? = some x → pf.lt y.key x.key = true := fun j hj hx => by
    obtain ⟨a1, a2⟩ := List.getElem?_eq_some_iff.1 hy
    obtain ⟨b1, b2⟩ := List.getElem?_eq_some_iff.1 hx
    have := List.pairwise_iff_getElem.1 h _ _ a1 b1 hj
    rw [a2, b2] at this
    exact this
  cases hh : pf.has l s with
  | true =>
    rw [hh, if_pos rfl] at hi
    have hk : y.key = s := by
      unfold pf.has at hh
      rw [hy] at hh
      exact pf.toList_inj (by simpa using hh)
    have := hle _ (by omega) hi
    rwa [hk] at this
  | false =>
    rw [hh] at hi
    have hk : y.key ≠ s := fun e => by
      unfold pf.has at hh
      rw [hy] at hh
      simp [e] at hh
    have hys : pf.lt s y.key = true := by
      rw [← Bool.not_eq_false]
      intro e
      exact hk (pf.eq_of hny e)
    simp only [Bool.false_eq_true, if_false, Nat.add_zero] at hi
    by_cases hi0 : i = 0
    · subst hi0
      rw [Nat.add_zero, hy] at hi
      cases hi
      exact hys
    · exact pf.lt_trans hys (hle _ (by omega) hi)
theorem pf.has_key {l : List PItm} {s : ByteArray} {y : PItm} (h : pf.has l s = true) (hy : l[pf.place l s]? = some y) : y.key = s := by
  unfold pf.has at h
  rw [hy] at h
  exact pf.toList_inj (by simpa using h)
theorem pf.has_mem {l : List PItm} (h : Rises l) {s : ByteArray} : pf.has l s = true ↔ ∃ y ∈ l, y.key = s := by
  constructor
  · intro hh
    obtain ⟨y, hy⟩ := pf.has_at hh
    exact ⟨y, List.mem_of_getElem? hy, pf.has_key hh hy⟩
  · rintro ⟨y, hy, hk⟩
    rw [← Bool.not_eq_false]
    intro hh
    have hd := pf.drop_gt h s
    rw [hh] at hd
    rw [← List.take_append_drop (pf.place l s) l] at hy
    rcases List.mem_append.1 hy with hy | hy
    · exact pf.lt_ne (pf.take_lt l s y hy) hk
    · exact pf.lt_ne (hd y (by simpa using hy)) hk.symm
theorem pf.key_once {l : List PItm} (h : Rises l) {x y : PItm} (hx : x ∈ l) (hy : y ∈ l) (hk : x.key = y.key) : x = y := by
  obtain ⟨i, hi⟩ := List.getElem?_of_mem hx
  obtain ⟨j, hj⟩ := List.getElem?_of_mem hy
  obtain ⟨a1, a2⟩ := List.getElem?_eq_some_iff.1 hi
  obtain ⟨b1, b2⟩ := List.getElem?_eq_some_iff.1 hj
  rcases Nat.lt_trichotomy i j with hh | hh | hh
  · have := List.pairwise_iff_getElem.1 h i j a1 b1 hh
    rw [a2, b2] at this
    exact absurd hk (pf.lt_ne this)
  · subst hh; rw [← a2, ← b2]
  · have := List.pairwise_iff_getElem.1 h j i b1 a1 hh
    rw [a2, b2] at this
    exact absurd hk.symm (pf.lt_ne this)
theorem pf.look_mem {l : List PItm} (h : Rises l) {x : PItm} (hx : x ∈ l) : pf.look l x.key = some x.off := by
  have hh := (pf.has_mem h (s := x.key)).2 ⟨x, hx, rfl⟩
  obtain ⟨y, hy⟩ := pf.has_at hh
  have := pf.key_once h (List.mem_of_getElem? hy) hx (pf.has_key hh hy)
  subst this
  unfold pf.look
  rw [hh, hy]
theorem pf.look_none {l : List PItm} (h : Rises l) {s : ByteArray} (hn : ∀ y ∈ l, y.key ≠ s) : pf.look l s = none := by
  have hh : pf.has l s = false := by
    rw [Bool.eq_false_iff]
    intro e
    obtain ⟨y, hy, hk⟩ := (pf.has_mem h).1 e
    exact hn y hy hk
  unfold pf.look
  rw [hh]
theorem pf.look_some {l : List PItm} {s : ByteArray} : (pf.look l s).isSome = pf.has l s := by
  unfold pf.look
  cases hh : pf.has l s with
  | false => rfl
  | true =>
    obtain ⟨y, hy⟩ := pf.has_at hh
    rw [hy]
    rfl
theorem pf.put_rises {l : List PItm} (h : Rises l) (x : PItm) : Rises (pf.put l x) := by
  unfold pf.put
  rw [List.append_assoc]
  refine List.pairwise_append.2 ⟨h.sublist (List.take_sublist _ _), List.pairwise_cons.2 ⟨fun y hy => pf.drop_gt h _ y (by simpa using hy), h.sublist (List.drop_sublist _ _)⟩, fun a ha b hb => ?_⟩
  have h1 := pf.take_lt l x.key a ha
  rcases List.mem_cons.1 hb with rfl | hb
  · exact h1
  · exact pf.lt_trans h1 (pf.drop_gt h _ b (by simpa using hb))
theorem pf.put_has {l : List PItm} {x y : PItm} (hy : y ∈ l) (hk : y.key ≠ x.key) : y ∈ pf.put l x := by
  unfold pf.put
  rw [← List.take_append_drop (pf.place l x.key) l] at hy
  rcases List.mem_append.1 hy with hy | hy
  · exact List.mem_append.2 (.inl (List.mem_append.2 (.inl hy)))
  · refine List.mem_append.2 (.inr ?_)
    cases hh : pf.has l x.key with
    | false => simpa using hy
    | true =>
      obtain ⟨z, hz⟩ := pf.has_at hh
      obtain ⟨z1, z2⟩ := List.getElem?_eq_some_iff.1 hz
      rw [List.drop_eq_getElem_cons z1, z2] at hy
      rcases List.mem_cons.1 hy with rfl | hy
      · exact absurd (pf.has_key hh hz) hk
      · simpa using hy
theorem pf.look_put {l : List PItm} (h : Rises l) (x : PItm) (u : ByteArray) : pf.look (pf.put l x) u = if u = x.key then some x.off else pf.look l u := by
  have hr := pf.put_rises h x
  by_cases hu : u = x.key
  · rw [if_pos hu, hu]
    exact pf.look_mem hr (by unfold pf.put; simp)
  · rw [if_neg hu]
    by_cases he : ∃ y ∈ l, y.key = u
    · obtain ⟨y, hy, rfl⟩ := he
      rw [pf.look_mem h hy, pf.look_mem hr (pf.put_has hy hu)]
    · rw [pf.look_none h fun y hy e => he ⟨y, hy, e⟩]
      refine pf.look_none hr fun y hy e => ?_
      rcases pf.put_mem hy with rfl | hy
      · exact hu e.symm
      · exact he ⟨y, hy, e⟩
theorem pf.put_len {l : List PItm} (x : PItm) : (pf.put l x).length = l.length + if pf.has l x.key then 0 else 1 := by
  have hp := pf.place_le l x.key
  unfold pf.put
  rw [List.length_append, List.length_append, List.length_take, List.length_drop, List.length_singleton]
  cases hh : pf.has l x.key with
  | false => simp; omega
  | true =>
    obtain ⟨z, hz⟩ := pf.has_at hh
    have := (List.getElem?_eq_some_iff.1 hz).1
    simp; omega

/-- The program's map and the document's. -/
structure MapIs (N : Nat) (g : ByteArray → Option Int) (l : List PItm) : Prop where
  len : N = l.length
  rises : Rises l
  look : ∀ s, g s = pf.look l s
theorem MapIs.nil : MapIs 0 (fun _ => none) [] := ⟨rfl, List.Pairwise.nil, fun _ => rfl⟩
theorem MapIs.can {N : Nat} {g : ByteArray → Option Int} {l : List PItm} (h : MapIs N g l) (most : Int) (s : ByteArray) : key.can N most g s = pf.can l most s := by
  unfold key.can pf.can
  rw [h.look s, pf.look_some, h.len]
theorem MapIs.offer {N : Nat} {g : ByteArray → Option Int} {l : List PItm} (h : MapIs N g l) (most : Int) (x : PItm) : MapIs (key.cnt N most g x.key) (key.put N most g x.key x.off) (pf.offer l most x) := by
  have hs : (g x.key).isSome = pf.has l x.key := by rw [h.look, pf.look_some]
  cases hh : pf.has l x.key with
  | true =>
    rw [hh] at hs
    obtain ⟨y, hy⟩ := pf.has_at hh
    have hg : g x.key = some y.off := by rw [h.look]; unfold pf.look; rw [hh, hy]
    have hc : pf.can l most x.key = true := by unfold pf.can; rw [hh]; rfl
    have ho : pf.offer l most x = pf.put l { x with off := max x.off y.off } := by unfold pf.offer; rw [if_pos hc]; unfold pf.raise; rw [hh, hy]
    rw [ho]
    refine ⟨?_, pf.put_rises h.rises _, fun u => ?_⟩
    · unfold key.cnt
      rw [if_pos hs, pf.put_len]
      show N = l.length + if pf.has l x.key then 0 else 1
      rw [hh, h.len]
      rfl
    · rw [pf.look_put h.rises]
      show key.put N most g x.key x.off u = if u = x.key then some (max x.off y.off) else pf.look l u
      unfold key.put
      rw [hg]
      show (if y.off < x.off then upd g x.key x.off else g) u = _
      by_cases hu : u = x.key
      · rw [if_pos hu, hu]
        split
        · unfold upd; rw [if_pos rfl]; congr 1; omega
        · rw [hg]; congr 1; omega
      · rw [if_neg hu, ← h.look]
        split
        · unfold upd; rw [if_neg hu]
        · rfl
  | false =>
    rw [hh] at hs
    have hg : g x.key = none := by cases e : g x.key with | none => rfl | some _ => rw [e] at hs; cases hs
    by_cases hroom : (N : Int) < most
    · have hc : pf.can l most x.key = true := by unfold pf.can; rw [← h.len]; simpa using .inr hroom
      have ho : pf.offer l most x = pf.put l x := by unfold pf.offer; rw [if_pos hc]; unfold pf.raise; rw [hh]
      rw [ho]
      refine ⟨?_, pf.put_rises h.rises _, fun u => ?_⟩
      · unfold key.cnt
        rw [if_neg (by rw [hs]; decide), if_pos hroom, pf.put_len, hh, h.len]
        rfl
      · rw [pf.look_put h.rises]
        unfold key.put
        rw [hg]
        show (if (N : Int) < most then upd g x.key x.off else g) u = _
        rw [if_pos hroom]
        unfold upd
        split
        · rfl
        · exact h.look u
    · have hc : pf.can l most x.key = false := by unfold pf.can; rw [hh, ← h.len]; simpa using hroom
      have ho : pf.offer l most x = l := by unfold pf.offer; rw [if_neg (by rw [hc]; decide)]
      rw [ho]
      refine ⟨?_, h.rises, fun u => ?_⟩
      · unfold key.cnt
        rw [if_neg (by rw [hs]; decide), if_neg hroom, h.len]
      · unfold key.put
        rw [hg]
        show (if (N : Int) < most then upd g x.key x.off else g) u = _
        rw [if_neg hroom]
        exact h.look u
end
section

def bytesOf (x : List UInt8) : ByteArray := ByteArray.mk x.toArray
theorem bytesOf_list (x : List UInt8) : (bytesOf x).toList = x := by rw [ByteArray.toList_eq]; simp [bytesOf]
theorem pf.lt_bytes (x y : List UInt8) : pf.lt (bytesOf x) (bytesOf y) = true ↔ x < y := by rw [pf.lt_iff, bytesOf_list, bytesOf_list]
theorem pf.sort_rises (ss : List (List UInt8)) (hnd : ss.Nodup) : ((ss.mergeSort fun x y => decide (x ≤ y)).map bytesOf).Pairwise fun a b => pf.lt a b = true := by
  rw [List.pairwise_map]
  have hs : (ss.mergeSort fun x y => decide (x ≤ y)).Pairwise fun x y => decide (x ≤ y) = true :=
    List.pairwise_mergeSort (le := fun x y : List UInt8 => decide (x ≤ y)) (fun a b c h1 h2 => decide_eq_true (List.le_trans (of_decide_eq_true h1) (of_decide_eq_true h2))) (fun a b => by
      rcases List.le_total a b with h | h
      · simp [h]
      · simp [h]) ss
  have hn : (ss.mergeSort fun x y => decide (x ≤ y)).Pairwise fun x y => x ≠ y := (List.mergeSort_perm ss _).symm.nodup hnd
  refine (hs.and hn).imp fun {a b} h => ?_
  rw [pf.lt_bytes]
  rw [← Decidable.not_not (p := a < b)]
  intro hlt
  exact h.2 (List.le_antisymm (of_decide_eq_true h.1) (List.not_lt.1 hlt))
/-- Two rows of rising keys with the same keys are the same. -/
theorem pf.rising_eq : ∀ (a b : List ByteArray), a.Pairwise (fun x y => pf.lt x y = true) → b.Pairwise (fun x y => pf.lt x y = true) → (∀ s, s ∈ a ↔ s ∈ b) → a = b
  | [], [], _, _, _ => rfl
  | [], y :: b, _, _, h => absurd ((h y).2 (by simp)) (by simp)
  | x :: a, [], _, _, h => absurd ((h x).1 (by simp)) (by simp)
  | x :: a, y :: b, ha, hb, h => by
    have ha' := List.pairwise_cons.1 ha
    have hb' := List.pairwise_cons.1 hb
    have e : x = y := by
      have h1 := (h x).1 (by simp)
      have h2 := (h y).2 (by simp)
      rcases List.mem_cons.1 h1 with e | h1
      · exact e
      · rcases List.mem_cons.1 h2 with e | h2
        · exact e.symm
        · have := pf.lt_trans (ha'.1 y h2) (hb'.1 x h1)
          rw [pf.lt_irrefl] at this
          cases this
    subst e
    refine congrArg (x :: ·) (pf.rising_eq a b ha'.2 hb'.2 fun s => ⟨fun hs => ?_, fun hs => ?_⟩)
    · rcases List.mem_cons.1 ((h s).1 (List.mem_cons_of_mem _ hs)) with rfl | h1
      · exact absurd rfl (pf.lt_ne (ha'.1 s hs))
      · exact h1
    · rcases List.mem_cons.1 ((h s).2 (List.mem_cons_of_mem _ hs)) with rfl | h1
      · exact absurd rfl (pf.lt_ne (hb'.1 s hs))
      · exact h1
end
end Go.Proofs.Ytnlfdhoabbbheaa

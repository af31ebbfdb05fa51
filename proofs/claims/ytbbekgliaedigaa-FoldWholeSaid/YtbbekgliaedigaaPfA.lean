/- Rows of pairs (cordwainref10): the place of a key. -/
import Derived.Test.YtbbekgliaedigaaEch
import Derived.Test.YtbbekgliaedigaaConv
import Derived.Test.YtbbekgliaedigaaPlan
namespace Go.Proofs.Ytbbekgliaedigaa
open Go.RowKit
set_option maxRecDepth 20000

/-- A pair. -/
structure PItm where
  A : Option Addr
  k : Nat
  c : Nat
  bs : List Nat
  VA : Option Addr
  vk : Nat
  vc : Nat
  vs : List Nat
  off : Int
def PItm.cells (x : PItm) : List Value := [.slice x.A x.k x.c, .slice x.VA x.vk x.vc, .int .i64 x.off]
def pf.row (l : List PItm) : List Value := (l.map PItm.cells).flatten
theorem pf.row_len (l : List PItm) : (pf.row l).length = l.length * 3 := flat_len PItm.cells 3 (fun _ => rfl) l
theorem pf.row_append (a b : List PItm) : pf.row (a ++ b) = pf.row a ++ pf.row b := by simp [pf.row]
theorem pf.row_at {l : List PItm} {i : Nat} {x : PItm} (h : l[i]? = some x) : (pf.row l).getD (i * 3) undef = .slice x.A x.k x.c ∧ (pf.row l).getD (i * 3 + 1) undef = .slice x.VA x.vk x.vc ∧ (pf.row l).getD (i * 3 + 2) undef = .int .i64 x.off :=
  ⟨flat_get PItm.cells 3 (fun _ => rfl) l i 0 x h (by omega), flat_get PItm.cells 3 (fun _ => rfl) l i 1 x h (by omega), flat_get PItm.cells 3 (fun _ => rfl) l i 2 x h (by omega)⟩
/-- Its key and its value, readable. -/
def PBytes (w : World) (x : PItm) : Prop := x.bs.length = x.k ∧ x.k ≤ 1000000 ∧ At w x.A x.k (byteAt x.bs) ∧ x.vs.length = x.vk ∧ x.vk ≤ 1000000 ∧ At w x.VA x.vk (byteAt x.vs)
theorem PBytes.below {w w' : World} {x : PItm} {B : Nat} (h : PBytes w x) (hb : Below B w w') (hB : w.heap.size ≤ B) : PBytes w' x :=
  ⟨h.1, h.2.1, h.2.2.1.below hb hB, h.2.2.2.1, h.2.2.2.2.1, h.2.2.2.2.2.below hb hB⟩
def PItm.key (x : PItm) : ByteArray := strOf x.bs
def pf.lt (s t : ByteArray) : Bool := Op.bytesLess s.toList t.toList
/-- How many keys stand ahead of one. -/
def pf.place (l : List PItm) (s : ByteArray) : Nat := (l.takeWhile fun x => pf.lt x.key s).length
theorem while_step {α : Type} (p : α → Bool) : ∀ (l : List α) (k : Nat) (x : α), k ≤ (l.takeWhile p).length → l[k]? = some x → (p x = true → k + 1 ≤ (l.takeWhile p).length) ∧ (p x = false → (l.takeWhile p).length = k)
  | [], _, _, _, h => by simp at h
  | y :: l, 0, x, _, h => by
    obtain rfl : y = x := by simpa using h
    by_cases hp : p y = true
    · simp [hp]
    · simp [hp]
  | y :: l, k + 1, x, hk, h => by
    by_cases hp : p y = true
    · rw [List.takeWhile_cons_of_pos hp, List.length_cons] at hk ⊢
      have := while_step p l k x (by omega) (by simpa using h)
      exact ⟨fun e => by have := this.1 e; omega, fun e => by have := this.2 e; omega⟩
    · rw [List.takeWhile_cons_of_neg hp] at hk
      simp at hk
theorem pf.place_le (l : List PItm) (s : ByteArray) : pf.place l s ≤ l.length := (List.takeWhile_prefix _).length_le
def pf.has (l : List PItm) (s : ByteArray) : Bool := match l[pf.place l s]? with | some x => x.key.toList == s.toList | none => false
/-- Pairs lie at A. -/
def PAt (w : World) (A : Option Addr) (l : List PItm) : Prop := At w A (l.length * 3) (fun j => (pf.row l).getD j undef)
theorem PAt.cells {w : World} {A : Option Addr} {l : List PItm} (h : PAt w A l) {i : Nat} {x : PItm} (hx : l[i]? = some x) :
    ∃ b off, A = some ⟨b, off, none⟩ ∧ b < w.heap.size ∧ w.cell? ⟨b, off + i * 3, none⟩ = some (.slice x.A x.k x.c) ∧ w.cell? ⟨b, off + i * 3 + 1, none⟩ = some (.slice x.VA x.vk x.vc) ∧ w.cell? ⟨b, off + i * 3 + 2, none⟩ = some (.int .i64 x.off) := by
  have hi : i < l.length := (List.getElem?_eq_some_iff.1 hx).1
  obtain ⟨b, off, hA, hb, hc⟩ := h (by omega)
  obtain ⟨r0, r1, r2⟩ := pf.row_at hx
  refine ⟨b, off, hA, hb, ?_, ?_, ?_⟩
  · exact (hc _ (by omega)).trans (congrArg some r0)
  · rw [Nat.add_assoc]; exact (hc _ (by omega)).trans (congrArg some r1)
  · rw [Nat.add_assoc]; exact (hc _ (by omega)).trans (congrArg some r2)

set_option maxHeartbeats 2000000 in
theorem pf.find_any (A : Option Addr) (n c : Nat) (l : List PItm) (X : Option Addr) (m cx : Nat) (K : List Nat) (w : World) (hl : l.length = n) (hn : n ≤ 1000000) (hat : PAt w A l) (hb : ∀ x ∈ l, PBytes w x) (hk : K.length = m) (hka : At w X m (byteAt K)) :
    Calls Try.prog 68 #[.slice A n c, .slice X m cx] w fun e w' => e = .returned (.tuple #[.int .i64 (pf.place l (strOf K)), .bool (pf.has l (strOf K))]) ∧ ∃ q, w' = w.drewN q := by
  have HAT := Lib.hid hat; clear hat
  have HB := Lib.hid hb; clear hb
  have HL := Lib.hid hl; clear hl
  have hck := fun q => conv_any (P := Try.prog) Try.underlying23 Try.underlying5 Try.underlying9 (c := cx) K hk (hka.drew q)
  clear hka hk
  generalize strOf K = s at *
  go_enter Try.func68, Try.ntmps68
  go_wp2
  go_loopw [6] (fun i wr => ∃ (k q : Nat), k ≤ pf.place l s ∧ i = .int .i64 (k : Int) ∧ wr = w.drewN q) (fun i _ => n - (intOf i).toNat)
  case atStart => exact ⟨0, 0, by omega, rfl, rfl⟩
  case round =>
    obtain ⟨k, q, hkp, rfl, rfl⟩ := hrel
    by_cases hlt : k < n
    · obtain ⟨x, hx⟩ : ∃ x, l[k]? = some x := ⟨_, List.getElem?_eq_getElem (by rw [HL.out]; exact hlt)⟩
      obtain ⟨b, off, rfl, hbl, c0, -, -⟩ := HAT.out.cells hx
      obtain ⟨hxl, hxk, hxa, -⟩ := HB.out x (List.mem_of_getElem? hx)
      have hcx := fun q => conv_any (P := Try.prog) Try.underlying23 Try.underlying5 Try.underlying9 (c := x.c) x.bs hxl (hxa.drew q)
      have u0 : ∀ q, (w.drewN q).cell? ⟨b, off + k * 3, none⟩ = some (.slice x.A x.k x.c) := fun q => c0
      clear hxa hxl c0
      have HX := Lib.hid hx; clear hx
      generalize hs : strOf x.bs = sx at *
      generalize x.A = XA at *
      generalize x.k = xk at *
      generalize x.c = xc at *
      have hlt' : (k : Int) < n := by omega
      have hd1 : decide ((k : Int) < n) = true := decide_eq_true hlt'
      have hd2 : decide (k < n) = true := decide_eq_true hlt
      have hkey : pf.lt x.key s = Op.bytesLess sx.toList s.toList := by unfold pf.lt PItm.key; rw [hs]
      have hstep := while_step (fun y : PItm => pf.lt y.key s) l k x hkp HX.out
      simp only [hkey] at hstep
      have HSTEP := Lib.hid hstep; clear hstep hkp
      have hhas : pf.place l s = k → pf.has l s = (sx.toList == s.toList) := fun e => by unfold pf.has; rw [e, HX.out]; show (x.key.toList == s.toList) = _; unfold PItm.key; rw [hs]
      have HHAS := Lib.hid hhas; clear hhas hkey hs
      by_cases hless : Op.bytesLess sx.toList s.toList = true
      · go_wp2_with fail
        go_quiet (fail)
        go_wp2_with fail
        go_roundw
        case rel => exact ⟨k + 1, _, HSTEP.out.1 hless, by go_num, rfl⟩
        case measure => simp [intOf]; omega
      · have hless' : Op.bytesLess sx.toList s.toList = false := by simpa using hless
        clear hless
        have hp := HSTEP.out.2 hless'
        have hh := HHAS.out hp
        have HPH := Lib.hid (And.intro (show pf.place l s = k from hp) hh); clear hp hh HSTEP HHAS
        go_wp2_with fail
        go_quiet (fail)
        go_wp2_with fail
        go_quiet (fail)
        go_wp2_with fail
        go_ret2
        exact ⟨by rw [HPH.out.1, HPH.out.2]; rfl, _, by rw [World.drewN_drewN, World.drewN_drewN]⟩
    · have hp : pf.place l s = k := by have := pf.place_le l s; rw [HL.out] at this; omega
      have hh : pf.has l s = false := by unfold pf.has; rw [hp, List.getElem?_eq_none (by rw [HL.out]; omega)]
      have HPH := Lib.hid (And.intro hp hh); clear hkp hp hh
      have hd1 : decide ((k : Int) < n) = false := decide_eq_false (by omega)
      have hd2 : decide (k < n) = false := decide_eq_false hlt
      go_wp2_with fail
      go_quiet (fail)
      go_wp2_with fail
      go_quiet (fail)
      go_wp2_with fail
      go_ret2
      exact ⟨by rw [HPH.out.1, HPH.out.2]; rfl, _, by rw [World.drewN_drewN, World.drewN_drewN]⟩
end Go.Proofs.Ytbbekgliaedigaa

/- Both maps side by side: Last of each, and the law's keys (cordwainlaw12). -/
import Derived.Test.YtbbekgliaedigaaKyS
import Derived.Test.YtbbekgliaedigaaPlanE
namespace Go.Proofs.Ytbbekgliaedigaa
open Go.RowKit Go.Maps
set_option maxRecDepth 20000

/-- The worlds in which all that stands in w stands still. -/
def Under (w : World) : Type := { wx : World // Below w.heap.size w wx }
instance Under.nonempty (w : World) : Nonempty (Under w) := ⟨⟨w, Below.refl _ _⟩⟩
theorem under_of {w w' : World} (h : Below w.heap.size w w') : ∃ x : Under w, w' = x.1 := ⟨⟨w', h⟩, rfl⟩
theorem under_sub {w w1 : World} (h : Below w.heap.size w w1) : ∀ w0, (∃ x : Under w1, w0 = x.1) → ∃ x : Under w, w0 = x.1 := by
  rintro _ ⟨x, rfl⟩
  exact ⟨⟨x.1, h.trans (x.2.mono h.size)⟩, rfl⟩
theorem key.cnt_up (N : Nat) (M : Int) (g : ByteArray → Option Int) (s : ByteArray) : key.cnt N M g s ≤ N + 1 := by
  unfold key.cnt
  split
  · omega
  · split <;> omega
theorem RMapAt.cell {w0 w : World} {r : Nat} {most : Int} {l : List PItm} (h : RMapAt w0 w r most l) : ∃ A c, PAt w A l ∧ ∀ x : Under w, x.1.cell? ⟨r, 1, none⟩ = some (.slice A l.length c) := by
  obtain ⟨v, h1, h2, h3⟩ := h
  obtain ⟨A, c, rfl, hnc, hat⟩ := own_at h2
  exact ⟨A, c, hat, fun x => (x.2.cell (p := ⟨r, 1, none⟩) h1.lt).trans (h1.cell 1 rfl)⟩
theorem RMapAt.bytes {w0 w : World} {r : Nat} {most : Int} {l : List PItm} (h : RMapAt w0 w r most l) : ∀ x ∈ l, PBytes w0 x := by
  obtain ⟨v, h1, h2, h3⟩ := h
  exact h3

section
variable {w wr : World} {p b r N : Nat} {most : Int} {g : ByteArray → Option Int} {l : List PItm}
theorem mtwo.lastN (h : MTwo w p b r most N g l wr) (his : MapIs N g l) (A : Option Addr) (m c : Nat) (K : List Nat) (hk : K.length = m) (hm : m ≤ maxLen) (hat : At w A m (byteAt K)) :
    Calls Try.prog 21 #[.pointer (some ⟨p, 0, none⟩), .slice A m c] wr fun e w' => e = .returned (.tuple #[.int .i64 ((pf.look l (strOf K)).getD 0), .bool (pf.look l (strOf K)).isSome]) ∧ ∃ q, w' = wr.drewN q := by
  subst hk
  have h1 := key.last_any p b most N g A c K wr h.km hm (hat.below h.below (Nat.le_refl _))
  rw [his.look] at h1
  exact h1
theorem mtwo.lastR (h : MTwo w p b r most N g l wr) (hl : l.length ≤ 10000) (A : Option Addr) (m c : Nat) (K : List Nat) (hk : K.length = m) (hat : At w A m (byteAt K)) :
    Calls Try.prog 22 #[.pointer (some ⟨r, 0, none⟩), .slice A m c] wr fun e w' => e = .returned (.tuple #[.int .i64 ((pf.look l (strOf K)).getD 0), .bool (pf.look l (strOf K)).isSome]) ∧ ∃ q, w' = wr.drewN q :=
  rmap.last_any w r most l A m c K wr h.rm h.below hl hk (hat.below h.below (Nat.le_refl _))
/-- The keys that the law gathers. -/
def ky.KeysPost (wr : World) (l : List PItm) (n : Int) (e : Ending) (w' : World) : Prop :=
  ∃ A c l', e = .returned (.slice A l'.length c) ∧ l'.length ≤ 10000 ∧ PAt w' A l' ∧ (∀ x ∈ l', PBytes w' x) ∧ ((l'.length : Int) = if (l.length : Int) < n then (l.length : Int) else n) ∧ ((l.length : Int) ≤ n → l'.map PItm.says = l.map PItm.says) ∧ Below wr.heap.size wr w'
theorem KM.keysIs (h : KM wr p b most N g) (his : MapIs N g l) (hall : ∀ x ∈ l, x.vs = [] ∧ x.bs.length ≤ 10000) (hN : N ≤ 10000) (n : Int) (hn : 0 ≤ n) :
    Calls Try.prog 23 #[.pointer (some ⟨p, 0, none⟩), .int .i64 n] wr (ky.KeysPost wr l n) := by
  obtain ⟨ks, hks, hlen, hri⟩ := h.map.rising
  have hszl : ∀ x ∈ l, x.key.size ≤ 10000 := fun x hx => by
    show (strOf x.bs).size ≤ 10000
    rw [strOf_size]
    exact (hall x hx).2
  have hszm : ∀ x ∈ l, x.key.size ≤ maxLen := fun x hx => by
    have := hszl x hx
    unfold maxLen
    omega
  have hkl := his.keys hszm hks hri
  refine (law12.keysS p b N most g ks n wr h (by omega) hlen hks hri (fun s hs => by
    rw [← hkl] at hs
    obtain ⟨x, hx, rfl⟩ := List.mem_map.1 hs
    have := hszl x hx
    omega) hn).mono ?_
  rintro e w' ⟨v, l', rfl, hown, hpb, ⟨k, hk, hl'⟩, hbel⟩
  obtain ⟨A, c, rfl, hnc, hat⟩ := own_at hown
  have hpl : (ky.pairs ks g).length = N := by unfold ky.pairs; rw [List.length_map, hlen]
  have hNl := his.len
  have hlk : l'.length = k := by
    have := congrArg List.length hl'
    rw [List.length_map, List.length_map, List.length_take, hpl] at this
    rcases hk with ⟨h1, -⟩ | ⟨h1, -⟩ <;> omega
  refine ⟨A, c, l', rfl, ?_, hat, hpb, ?_, fun hle => ?_, hbel⟩
  · rcases hk with ⟨h1, -⟩ | ⟨h1, -⟩ <;> omega
  · split <;> rcases hk with ⟨h1, h2⟩ | ⟨h1, h2⟩ <;> omega
  · have hkN : k = (ky.pairs ks g).length := by rcases hk with ⟨h1, -⟩ | ⟨h1, h2⟩ <;> omega
    rw [hkN, List.take_length] at hl'
    exact his.says (fun x hx => (hall x hx).1) hszm hks hri hl'
end
end Go.Proofs.Ytbbekgliaedigaa

/- The document's own map of keys (cordwainref10): Offer, Last. -/
import Derived.Test.YtbbekgliaedigaaPfB
namespace Go.Proofs.Ytbbekgliaedigaa
open Go.RowKit
set_option maxRecDepth 20000

/-- The document's map at r. -/
def RMapAt (w0 w : World) (r : Nat) (most : Int) (l : List PItm) : Prop :=
  ∃ v, Blk w r 35 #[.int .i64 most, v] ∧ w.ownsRow 0 122 3 v l.length (pf.row l) ∧ ∀ x ∈ l, PBytes w0 x
theorem RMapAt.chg {w0 w w' : World} {r : Nat} {most : Int} {l : List PItm} {P : Nat → Prop} (h : RMapAt w0 w r most l) (hc : Chg w w' P) (hp : ∀ k, P k → ∀ cs T fr, w.heap[k]? = some (.cells cs T fr) → T ≠ 35 ∧ T ≠ 122) : RMapAt w0 w' r most l := by
  obtain ⟨v, h1, h2, h3⟩ := h
  refine ⟨v, hc.blk h1 fun hh => (hp _ hh _ _ _ h1).1 rfl, hc.own h2 fun k hk hh => ?_, h3⟩
  rcases h2.2 with ⟨rfl, _⟩ | ⟨g, cap, cur, rfl, _, hg, _⟩
  · cases hk
  · obtain rfl : g = k := by simpa [Value.ownBlock] using hk
    exact (hp _ hh _ _ _ hg).2 rfl
theorem RMapAt.below {w0 w w' : World} {r : Nat} {most : Int} {l : List PItm} (h : RMapAt w0 w r most l) (hb : Below w.heap.size w w') : RMapAt w0 w' r most l := h.chg (chg_of (P := fun _ => False) hb) fun _ h => h.elim
theorem RMapAt.lt {w0 w : World} {r : Nat} {most : Int} {l : List PItm} (h : RMapAt w0 w r most l) : r < w.heap.size := by
  obtain ⟨v, h1, -⟩ := h
  exact h1.lt
/-- Is there room? -/
def pf.can (l : List PItm) (most : Int) (s : ByteArray) : Bool := pf.has l s || decide ((l.length : Int) < most)
/-- What is offered, as it is put. -/
def pf.raise (l : List PItm) (x : PItm) : PItm := match pf.has l x.key, l[pf.place l x.key]? with | true, some y => { x with off := max x.off y.off } | _, _ => x
def pf.offer (l : List PItm) (most : Int) (x : PItm) : List PItm := if pf.can l most x.key then pf.put l (pf.raise l x) else l
def pf.look (l : List PItm) (s : ByteArray) : Option Int := match pf.has l s, l[pf.place l s]? with | true, some y => some y.off | _, _ => none
theorem pf.has_at {l : List PItm} {s : ByteArray} (h : pf.has l s = true) : ∃ y, l[pf.place l s]? = some y := by
  unfold pf.has at h
  cases hg : l[pf.place l s]? with
  | none => rw [hg] at h; cases h
  | some y => exact ⟨y, rfl⟩

set_option maxHeartbeats 2000000 in
theorem rmap.last_any (w0 : World) (r : Nat) (most : Int) (l : List PItm) (X : Option Addr) (m cx : Nat) (K : List Nat) (w : World) (h : RMapAt w0 w r most l) (h0 : Below w0.heap.size w0 w) (hlen : l.length ≤ 10000) (hk : K.length = m) (hka : At w X m (byteAt K)) :
    Calls Try.prog 22 #[.pointer (some ⟨r, 0, none⟩), .slice X m cx] w fun e w' => e = .returned (.tuple #[.int .i64 ((pf.look l (strOf K)).getD 0), .bool (pf.look l (strOf K)).isSome]) ∧ ∃ q, w' = w.drewN q := by
  obtain ⟨v, h1, h2, h3⟩ := h
  obtain ⟨A, c, rfl, hnc, hat⟩ := own_at h2
  obtain ⟨n, hn⟩ : ∃ n, n = l.length := ⟨_, rfl⟩
  have hf := pf.find_any A n c l X m cx K w hn.symm (by omega) hat (fun x hx => (h3 x hx).below h0 (Nat.le_refl _)) hk hka
  have c1 : w.cell? ⟨r, 1, none⟩ = some (.slice A l.length c) := h1.cell 1 rfl
  rw [← hn] at c1 hlen
  have HF := Lib.hid hf; clear hf
  obtain ⟨t, ht⟩ : ∃ t, t = pf.has l (strOf K) := ⟨_, rfl⟩
  obtain ⟨k, hkp⟩ : ∃ k, k = pf.place l (strOf K) := ⟨_, rfl⟩
  rw [← ht, ← hkp] at HF
  cases t with
  | false =>
    have hl : pf.look l (strOf K) = none := by unfold pf.look; rw [← ht]
    rw [hl]
    clear ht hkp hl h1 h2 h3 hat hn
    go_enter Try.func22, Try.ntmps22
    go_wp2_with fail
    refine HF.out.mono ?_
    rintro e w1 ⟨rfl, q, rfl⟩
    go_wp2_with fail
    go_ret2
    exact ⟨rfl, q, rfl⟩
  | true =>
    obtain ⟨y, hy⟩ := pf.has_at ht.symm
    rw [← hkp] at hy
    have hl : pf.look l (strOf K) = some y.off := by unfold pf.look; rw [← ht, ← hkp, hy]
    rw [hl]
    have hkn : k < n := by rw [hn]; exact (List.getElem?_eq_some_iff.1 hy).1
    obtain ⟨b, off, rfl, -, -, -, d2⟩ := PAt.cells hat hy
    have u1 : ∀ q, (w.drewN q).cell? ⟨r, 1, none⟩ = some (.slice (some ⟨b, off, none⟩) n c) := fun _ => c1
    have u2 : ∀ q, (w.drewN q).cell? ⟨b, off + k * 3 + 2, none⟩ = some (.int .i64 y.off) := fun _ => d2
    generalize y.off = yo at *
    clear ht hkp hl h1 h2 h3 hat hn hy d2
    go_enter Try.func22, Try.ntmps22
    go_wp2_with fail
    refine HF.out.mono ?_
    rintro e w1 ⟨rfl, q, rfl⟩
    go_wp2_with fail
    go_ret2
    exact ⟨rfl, q, rfl⟩
end Go.Proofs.Ytbbekgliaedigaa

/- The program's map of keys and the document's, side by side (cordwainlaw12). -/
import Derived.Test.YtbbekgliaedigaaKyP
import Derived.Test.YtbbekgliaedigaaPfS
namespace Go.Proofs.Ytbbekgliaedigaa
open Go.RowKit Go.Maps
set_option maxRecDepth 20000

theorem RMapAt.keepMap {w0 w w' : World} {r b N : Nat} {most : Int} {l : List PItm} {g : ByteArray → Option Int} (h : RMapAt w0 w r most l) (hc : Chg w w' (fun k => k = b)) (hs : SM w b N g) : RMapAt w0 w' r most l := by
  obtain ⟨v, h1, h2, h3⟩ := h
  refine ⟨v, hc.blk h1 (hs.not_blk h1), hc.own h2 fun k hk e => ?_, h3⟩
  rcases h2.2 with ⟨rfl, _⟩ | ⟨g1, cap, cur, rfl, _, hg, _⟩
  · cases hk
  · obtain rfl : g1 = k := by simpa [Value.ownBlock] using hk
    exact hs.not_blk (show Blk w g1 122 cur from hg) e
theorem KM.keepRef {w0 w w' : World} {p b r N : Nat} {most m2 : Int} {l : List PItm} {g : ByteArray → Option Int} (h : KM w p b most N g) (hc : Chg w w' (fun k => k = r)) (hr : RMapAt w0 w r m2 l) : KM w' p b most N g := by
  obtain ⟨v, h1, -⟩ := hr
  refine ⟨hc.blk h.blk fun e => ?_, h.map.chg hc fun e => h.map.not_blk h1 e.symm⟩
  subst e
  have := h1.symm.trans h.blk
  simp at this

/-- Both. -/
structure MTwo (w : World) (p b r : Nat) (most : Int) (N1 : Nat) (g : ByteArray → Option Int) (l : List PItm) (wr : World) : Prop where
  km : KM wr p b most N1 g
  rm : RMapAt w wr r most l
  below : Below w.heap.size w wr
  lp : w.heap.size ≤ p
  lb : w.heap.size ≤ b
  lr : w.heap.size ≤ r
section
variable {w wr w1 : World} {p b r N N' : Nat} {most : Int} {g g' : ByteArray → Option Int} {l l' : List PItm}
theorem MTwo.toKey (h : MTwo w p b r most N g l wr) (hk : KM w1 p b most N' g') (hc : Chg wr w1 (fun k => k = b)) : MTwo w p b r most N' g' l w1 :=
  ⟨hk, h.rm.keepMap hc h.km.map, h.below.trans (hc.below h.below.size fun k e => by rw [e]; exact h.lb), h.lp, h.lb, h.lr⟩
theorem MTwo.toRef (h : MTwo w p b r most N g l wr) (hr : RMapAt w w1 r most l') (hc : Chg wr w1 (fun k => k = r)) : MTwo w p b r most N g l' w1 :=
  ⟨h.km.keepRef hc h.rm, hr, h.below.trans (hc.below h.below.size fun k e => by rw [e]; exact h.lr), h.lp, h.lb, h.lr⟩
theorem MTwo.under (h : MTwo w p b r most N g l wr) (hb : Below wr.heap.size wr w1) : MTwo w p b r most N g l w1 :=
  ⟨h.km.keep hb, h.rm.below hb, h.below.trans (hb.mono h.below.size), h.lp, h.lb, h.lr⟩
theorem mtwo.offerN (h : MTwo w p b r most N g l wr) (A : Option Addr) (m c : Nat) (K : List Nat) (o : Int) (hk : K.length = m) (hm : m ≤ maxLen) (hat : At w A m (byteAt K)) (ho : -9223372036854775808 ≤ o ∧ o ≤ 9223372036854775807) (hN : N < maxLen) :
    Calls Try.prog 18 #[.pointer (some ⟨p, 0, none⟩), .slice A m c, .int .i64 o] wr fun e w' => e = .returned (.bool (key.can N most g (strOf K))) ∧ MTwo w p b r most (key.cnt N most g (strOf K)) (key.put N most g (strOf K) o) l w' := by
  subst hk
  refine (key.offer_any p b most N g A c K o wr h.km hm (hat.below h.below (Nat.le_refl _)) ho hN).mono ?_
  rintro e w' ⟨rfl, h1, h2, -⟩
  exact ⟨rfl, h.toKey h1 h2⟩
theorem mtwo.offerR (h : MTwo w p b r most N g l wr) (hl : l.length ≤ 10000) (A : Option Addr) (m c : Nat) (K : List Nat) (o : Int) (hk : K.length = m) (hm : m ≤ 1000000) (hat : At w A m (byteAt K)) :
    Calls Try.prog 19 #[.pointer (some ⟨r, 0, none⟩), .slice A m c, .int .i64 o] wr fun e w' => e = .returned (.bool (pf.can l most (strOf K))) ∧ MTwo w p b r most N g (pf.offer l most (POff A m c K o)) w' := by
  refine (rmap.offer_any w r most l A m c K o wr h.rm h.below hl hk hm hat).mono ?_
  rintro e w' ⟨rfl, h1, h2⟩
  exact ⟨rfl, h.toRef h1 h2⟩
end
end Go.Proofs.Ytbbekgliaedigaa

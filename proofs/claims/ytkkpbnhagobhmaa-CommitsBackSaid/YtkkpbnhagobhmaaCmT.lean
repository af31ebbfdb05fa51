/- commits: CommitsDrops' law (chapter 18). -/
import Derived.BigQuiet
import Derived.Test.YtkkpbnhagobhmaaCmS
namespace Go.Proofs.Ytkkpbnhagobhmaa
open Go.RowKit Go.Maps
set_option maxRecDepth 100000
theorem cm.rec_byte (xo xt : Int) (xk xv : Bool) (Ak Au : Option Addr) (nk ck nu cu : Nat) (L : List Nat) (j : Nat) (u : Value) (hj : (#[.int .i64 xo, .int .i64 xt, .bool xk, .slice Ak nk ck, .bool xv, .slice Au nu cu] : Array Value)[j]? = some u) : u ≠ byteAt L 0 := by
  have hj6 : j < 6 := by
    have := (Array.getElem?_eq_some_iff.1 hj).1
    simpa using this
  unfold byteAt
  rcases (by omega : j = 0 ∨ j = 1 ∨ j = 2 ∨ j = 3 ∨ j = 4 ∨ j = 5) with rfl | rfl | rfl | rfl | rfl | rfl <;> (injection hj with hj; rw [← hj]; intro h; cases h)
theorem BytesV.tab {w w' : World} {v : Value} {L : List Nat} {p mo mf n : Nat} {T : CTab} (h : BytesV w v L) (ht : TabAt w p mo mf T n) (hc : Chg w w' (fun k => k = mo ∨ k = mf)) : BytesV w' v L := by
  obtain ⟨A, c, rfl, h1, h2⟩ := h
  obtain ⟨No, Nf, -, g1, g2, -⟩ := ht
  refine ⟨A, c, rfl, hc.at' h1 fun hn b off e q => ?_, h2⟩
  obtain ⟨b', off', e', -, hcell⟩ := h1 hn
  obtain ⟨rfl, rfl⟩ : b = b' ∧ off = off' := by rw [e] at e'; simpa using e'
  have hc0 := hcell 0 hn
  rcases q with q | q
  · exact g1.not_cells hc0 q
  · exact g2.not_cells hc0 q
theorem BytesV.rset {w : World} {v : Value} {L : List Nat} {b : Nat} {xo xt : Int} {xk xv : Bool} {Ak Au : Option Addr} {nk ck nu cu : Nat} (h : BytesV w v L) (hb : Blk w b 37 #[.int .i64 xo, .int .i64 xt, .bool xk, .slice Ak nk ck, .bool xv, .slice Au nu cu]) (j : Nat) (x : Value) : BytesV (w.setCell ⟨b, j, none⟩ x) v L := by
  obtain ⟨A, c, rfl, h1, h2⟩ := h
  exact ⟨A, c, rfl, (Chg.setCell w b j x).at' h1 (fun hn b' off e q => h1.not_blk hn hb (fun j u hj => cm.rec_byte _ _ _ _ _ _ _ _ _ _ _ j u hj) b' off e q), h2⟩
theorem cm.RecV.shown2 {w : World} {v : Value} {X : Rec} (h : cm.RecV w v X) : ∃ xo xt xk xv Ak nk ck Au nu cu, v = .agg #[.int .i64 xo, .int .i64 xt, .bool xk, .slice Ak nk ck, .bool xv, .slice Au nu cu] ∧ xo = X.off ∧ xt = X.time ∧ xk = X.hasKey ∧ xv = X.hasVal ∧ BytesV w (.slice Ak nk ck) X.key ∧ BytesV w (.slice Au nu cu) X.val := by
  obtain ⟨k, u, rfl, hk, hu⟩ := h
  have hk' := hk
  have hu' := hu
  obtain ⟨A, c, rfl, -⟩ := hk'
  obtain ⟨B, d, rfl, -⟩ := hu'
  exact ⟨_, _, _, _, A, _, c, B, _, d, rfl, rfl, rfl, rfl, rfl, hk, hu⟩
theorem CTab.del_off (T : CTab) (x : PlK) : (T.del x).off x = none := by unfold CTab.del; exact if_pos rfl
theorem CTab.del_other (T : CTab) {x y : PlK} (h : y ≠ x) : (T.del x).off y = T.off y := by unfold CTab.del; exact if_neg h
/-- How it stands: the boxes of two entries, a table. -/
structure DSt (w w' : World) (b0 b1 : Nat) (e f : CEnt) (p mo mf : Nat) (T : CTab) (n : Nat) : Prop where
  be : Blk w' b0 24 e.cells
  bf : Blk w' b1 24 f.cells
  tab : TabAt w' p mo mf T n
  bel : Below w.heap.size w w'
  ord : w.heap.size ≤ b0 ∧ b0 < b1 ∧ b1 < mo ∧ b1 < mf
theorem DSt.below {w w' w'' : World} {b0 b1 p mo mf n : Nat} {e f : CEnt} {T : CTab} (h : DSt w w' b0 b1 e f p mo mf T n) (hb : Below w'.heap.size w' w'') : DSt w w'' b0 b1 e f p mo mf T n :=
  ⟨(chg_of (P := fun _ => False) hb).blk h.be fun q => q, (chg_of (P := fun _ => False) hb).blk h.bf fun q => q, h.tab.below hb, h.bel.trans (hb.mono h.bel.size), h.ord⟩
theorem DSt.does {w w' w'' : World} {b0 b1 p mo mf n n2 : Nat} {e f : CEnt} {T T2 : CTab} (h : DSt w w' b0 b1 e f p mo mf T n) (ht : TabAt w'' p mo mf T2 n2) (hc : Chg w' w'' (fun k => k = mo ∨ k = mf)) : DSt w w'' b0 b1 e f p mo mf T2 n2 := by
  have h1 := h.ord
  exact ⟨hc.blk h.be (fun q => by have q : b0 = mo ∨ b0 = mf := q; omega), hc.blk h.bf (fun q => by have q : b1 = mo ∨ b1 = mf := q; omega), ht, h.bel.trans (hc.below h.bel.size fun k q => by have q : k = mo ∨ k = mf := q; omega), h1⟩
theorem DSt.set {w w' : World} {b0 b1 p mo mf n : Nat} {e f : CEnt} {T : CTab} (h : DSt w w' b0 b1 e f p mo mf T n) (b j : Nat) (x : Value) (hb : w.heap.size ≤ b ∧ b ≠ b0 ∧ b ≠ b1 ∧ b ≠ p ∧ b ≠ mo ∧ b ≠ mf) : DSt w (w'.setCell ⟨b, j, none⟩ x) b0 b1 e f p mo mf T n :=
  have hc := Chg.setCell w' b j x
  ⟨hc.blk h.be fun q => hb.2.1 q.symm, hc.blk h.bf fun q => hb.2.2.1 q.symm, h.tab.keep hc (fun q => hb.2.2.2.1 q.symm) (fun q => hb.2.2.2.2.1 q.symm) fun q => hb.2.2.2.2.2 q.symm, h.bel.trans (hc.below h.bel.size fun k q => by have q : k = b := q; omega), h.ord⟩
theorem cm.may_zero {e : CEnt} (h : e.ok = true) : e.may 0 = true := by unfold CEnt.may; rw [h]; rfl
theorem cm.gmay_zero {g : ByteArray} {n : Int} (h : cm.gen g n = true) : cm.gmay g n 0 = true := by unfold cm.gmay; rw [h]; rfl
theorem cm.str_ne {a b : ByteArray} (h : a ≠ b) : (a.toList == b.toList) = false := by
  rw [Bool.eq_false_iff]
  intro e
  rw [beq_iff_eq, ByteArray.toList_eq, ByteArray.toList_eq] at e
  exact h (ByteArray.ext (Array.ext' e))
/-- Contracts, said once: an entry put. -/
theorem cm.puts (e : CEnt) (hok : e.ok = true) : ∃ x : PlK, x.g = e.grp ∧ x.t = e.top ∧ x.p = e.part ∧ ∀ wx p mo mf T n, TabAt wx p mo mf T n → n < maxLen → Calls Try.prog 11 #[.pointer (some ⟨p, 0, none⟩), .agg e.cells] wx (cm.tabPost wx p mo mf (T.put x e.off) (n + 1) 0) := by
  have h1 := e.ok_place hok
  exact ⟨cm.mk e.grp e.top e.part h1.1 h1.2.1 h1.2.2.1 h1.2.2.2.1, rfl, rfl, rfl, fun wx p mo mf T n ht hn => cm.put_ok e _ rfl rfl rfl p mo mf T n wx ht hok hn⟩
end Go.Proofs.Ytkkpbnhagobhmaa

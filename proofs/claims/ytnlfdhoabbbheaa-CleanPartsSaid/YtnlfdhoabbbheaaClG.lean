/- Two records of one key, cleaned (no program). -/
import Derived.Test.YtnlfdhoabbbheaaClF
namespace Go.Proofs.Ytnlfdhoabbbheaa
open Go.RowKit Go.Maps

def cg.r (o t : Int) (k : List Nat) (hv : Bool) (v : List Nat) : Rec := ⟨o, t, true, k, hv, v⟩
/-- One batch of both. -/
def cg.l1 (k : List Nat) : List Bat := [⟨0, 1, 0, 0, 0, [cg.r 0 0 k true [], cg.r 1 0 k true []]⟩]
/-- Two batches of one each. -/
def cg.l2 (k : List Nat) (t : Int) (hv : Bool) (v v2 : List Nat) : List Bat := [⟨0, 0, 0, 0, 0, [cg.r 0 0 k true v]⟩, ⟨1, 1, 0, 0, 0, [cg.r 1 t k hv v2]⟩]
theorem cg.go1 (k : List Nat) : ∃ g, kb.go 0 5 0 (fun _ => none) 0 (cg.l1 k) = (1, g, 2) ∧ g (strOf k) = some 1 := by
  refine ⟨(kb.go 0 5 0 (fun _ => none) 0 (cg.l1 k)).2.1, ?_, ?_⟩
  · simp [cg.l1, kb.go, kb.scan, kb.offers, kb.use, kb.more, key.cnt, key.put, cg.r, upd]
    omega
  · simp [cg.l1, kb.go, kb.scan, kb.offers, kb.use, kb.more, key.cnt, key.put, cg.r, upd]
theorem cg.go2 (k : List Nat) (t : Int) (hv : Bool) (v v2 : List Nat) : ∃ g, kb.go 0 9 0 (fun _ => none) 0 (cg.l2 k t hv v v2) = (1, g, 2) ∧ g (strOf k) = some 1 := by
  refine ⟨(kb.go 0 9 0 (fun _ => none) 0 (cg.l2 k t hv v v2)).2.1, ?_, ?_⟩
  · simp [cg.l2, kb.go, kb.scan, kb.offers, kb.use, kb.more, key.cnt, key.put, cg.r, upd]
    omega
  · simp [cg.l2, kb.go, kb.scan, kb.offers, kb.use, kb.more, key.cnt, key.put, cg.r, upd]
theorem cg.left1 (k : List Nat) (g : ByteArray → Option Int) (now grace : Int) (h : g (strOf k) = some 1) : ps.all (cl.stays g 2 now grace) (cg.l1 k) = [⟨0, 1, 0, 0, 0, [cg.r 1 0 k true []]⟩] := by
  simp [cg.l1, ps.all, ps.cut, cl.stays, cg.r, h]
theorem cg.left2 (k : List Nat) (g : ByteArray → Option Int) (t now grace : Int) (hv : Bool) (v v2 : List Nat) (h : g (strOf k) = some 1) : ps.all (cl.stays g 2 now grace) (cg.l2 k t hv v v2) = if hv = false ∧ grace < now - t then [] else [⟨1, 1, 0, 0, 0, [cg.r 1 t k hv v2]⟩] := by
  by_cases hc : hv = false ∧ grace < now - t
  · rw [if_pos hc]
    simp [cg.l2, ps.all, ps.cut, cl.stays, cg.r, h, hc]
  · rw [if_neg hc]
    simp [cg.l2, ps.all, ps.cut, cl.stays, cg.r, h, hc]
/-- One segment cleaned, and an active one with nothing in it. -/
theorem cg.outs (F : Rec → Bool) (l : List Bat) : cl.outs F [l, []] 2 = [ps.all F l, []] := by simp [cl.outs, cl.seg, List.range_succ]
theorem cg.gone (F : Rec → Bool) (l : List Bat) : cl.gone F [l, []] 2 = ((rc.flat l).length : Int) - ((rc.flat (ps.all F l)).length : Int) := by simp [cl.gone, cl.seg, List.range_succ]
end Go.Proofs.Ytnlfdhoabbbheaa

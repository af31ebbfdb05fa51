/-
  No cell of these rows narrows 'for every input' (looked for: loops, veiled, ifaces, maps, wideKeys, modest, calm, conditions, laid).
  DERIVED. THE GIVEN ROWS OF THIS SEAT. 6 by the template 'for every input the law returns true; each argument reads behind the call as it read before'; 0 by the template 'total and deterministic' (their statements: YtchdolcnhopmjaaTotals.lean).
  GIVEN WITH THE SEED: the statements are not yours to turn. If you find one false, say at which input.
  Laid BY PROGRAM, IN A SANDBOX (cutbox-rows.mjs): the forced cells as the released guide's own fill.sh prints them over the translation c2d64b62b440a3b2… (all of the seat's roots in one cut). By AI agents, Wed Nov 11 2026. No macro, syntax, notation, axiom, sorry.
-/
import Derived.Test.YtchdolcnhopmjaaChecked
import GoSem.Claim
import GoSem.ClaimJoined
import GoSem.ClaimMapViews
import Derived.JoinedTies
import Derived.KernelRfl
namespace Go.Proofs.Ytchdolcnhopmjaa
/- THE CELL 'sum', in the pinned program and in every row, IS THE sha256 OF THE DUMP (.gsa) THAT YtchdolcnhopmjaaProg.lean LOADS. Nothing in Lean hashes anything: it is a label: what it is worth is what the hold of that sum in a sandbox is worth. -/
noncomputable def Try.pinned : Pinned := { name := "ytchdolcnhopmjaa", sum := "c2d64b62b440a3b28e1a280740114598f7ba78c38ebb91b66e23e9a0b16fbf65", checked := Try.checked }
namespace Rows
def none {H : Type} : Left H := { results := [], args := [] }

/-- 'cordwainlaw6.OindexAsks': WHATEVER THE INPUT: true; the input reads as it did. -/
def oindexAsksSpec : ChangeSpec := { name := "oindexAsks", fn := fun _ => fun
  | [d1, d2, d3, d4, d5] => { results := [.lit (.bool true)], args := [d1, d2, d3, d4, d5] }
  | _ => none }
def oindexAsksRow : OpenClaim := { program := "ytchdolcnhopmjaa", sum := "c2d64b62b440a3b28e1a280740114598f7ba78c38ebb91b66e23e9a0b16fbf65", func := "cordwain/cordwainlaw6.OindexAsks", spec := "oindexAsks", unfollowed := true, recurses := true, apart := false }
def OindexAsksSaid : Prop := oindexAsksRow.holds Try.pinned (OpenSpec.ofChange oindexAsksSpec)

/-- ITS FALSE NEIGHBOUR: 'it returns false'. Refute it at one input. -/
def oindexAsksWrong : ChangeSpec := { name := "oindexAsks", fn := fun _ => fun
  | [d1, d2, d3, d4, d5] => { results := [.lit (.bool false)], args := [d1, d2, d3, d4, d5] }
  | _ => none }
def OindexAsksWrongFalsely : Prop := oindexAsksRow.holds Try.pinned (OpenSpec.ofChange oindexAsksWrong)

/-- 'cordwainlaw6.OindexSeeks': WHATEVER THE INPUT: true; the input reads as it did. -/
def oindexSeeksSpec : ChangeSpec := { name := "oindexSeeks", fn := fun _ => fun
  | [d1, d2, d3, d4] => { results := [.lit (.bool true)], args := [d1, d2, d3, d4] }
  | _ => none }
def oindexSeeksRow : OpenClaim := { program := "ytchdolcnhopmjaa", sum := "c2d64b62b440a3b28e1a280740114598f7ba78c38ebb91b66e23e9a0b16fbf65", func := "cordwain/cordwainlaw6.OindexSeeks", spec := "oindexSeeks", unfollowed := true, recurses := true, apart := false }
def OindexSeeksSaid : Prop := oindexSeeksRow.holds Try.pinned (OpenSpec.ofChange oindexSeeksSpec)

/-- ITS FALSE NEIGHBOUR: 'it returns false'. Refute it at one input. -/
def oindexSeeksWrong : ChangeSpec := { name := "oindexSeeks", fn := fun _ => fun
  | [d1, d2, d3, d4] => { results := [.lit (.bool false)], args := [d1, d2, d3, d4] }
  | _ => none }
def OindexSeeksWrongFalsely : Prop := oindexSeeksRow.holds Try.pinned (OpenSpec.ofChange oindexSeeksWrong)

/-- 'cordwainlaw6.OindexSparse': WHATEVER THE INPUT: true; the input reads as it did. -/
def oindexSparseSpec : ChangeSpec := { name := "oindexSparse", fn := fun _ => fun
  | [d1, d2] => { results := [.lit (.bool true)], args := [d1, d2] }
  | _ => none }
def oindexSparseRow : OpenClaim := { program := "ytchdolcnhopmjaa", sum := "c2d64b62b440a3b28e1a280740114598f7ba78c38ebb91b66e23e9a0b16fbf65", func := "cordwain/cordwainlaw6.OindexSparse", spec := "oindexSparse", unfollowed := true, recurses := true, apart := false }
def OindexSparseSaid : Prop := oindexSparseRow.holds Try.pinned (OpenSpec.ofChange oindexSparseSpec)

/-- ITS FALSE NEIGHBOUR: 'it returns false'. Refute it at one input. -/
def oindexSparseWrong : ChangeSpec := { name := "oindexSparse", fn := fun _ => fun
  | [d1, d2] => { results := [.lit (.bool false)], args := [d1, d2] }
  | _ => none }
def OindexSparseWrongFalsely : Prop := oindexSparseRow.holds Try.pinned (OpenSpec.ofChange oindexSparseWrong)

/-- 'cordwainlaw7.TindexFinds': WHATEVER THE INPUT: true; the input reads as it did. -/
def tindexFindsSpec : ChangeSpec := { name := "tindexFinds", fn := fun _ => fun
  | [d1, d2, d3, d4] => { results := [.lit (.bool true)], args := [d1, d2, d3, d4] }
  | _ => none }
def tindexFindsRow : OpenClaim := { program := "ytchdolcnhopmjaa", sum := "c2d64b62b440a3b28e1a280740114598f7ba78c38ebb91b66e23e9a0b16fbf65", func := "cordwain/cordwainlaw7.TindexFinds", spec := "tindexFinds", unfollowed := true, recurses := true, apart := false }
def TindexFindsSaid : Prop := tindexFindsRow.holds Try.pinned (OpenSpec.ofChange tindexFindsSpec)

/-- ITS FALSE NEIGHBOUR: 'it returns false'. Refute it at one input. -/
def tindexFindsWrong : ChangeSpec := { name := "tindexFinds", fn := fun _ => fun
  | [d1, d2, d3, d4] => { results := [.lit (.bool false)], args := [d1, d2, d3, d4] }
  | _ => none }
def TindexFindsWrongFalsely : Prop := tindexFindsRow.holds Try.pinned (OpenSpec.ofChange tindexFindsWrong)

/-- 'cordwainlaw7.TindexBack': WHATEVER THE INPUT: true; the input reads as it did. -/
def tindexBackSpec : ChangeSpec := { name := "tindexBack", fn := fun _ => fun
  | [d1, d2] => { results := [.lit (.bool true)], args := [d1, d2] }
  | _ => none }
def tindexBackRow : OpenClaim := { program := "ytchdolcnhopmjaa", sum := "c2d64b62b440a3b28e1a280740114598f7ba78c38ebb91b66e23e9a0b16fbf65", func := "cordwain/cordwainlaw7.TindexBack", spec := "tindexBack", unfollowed := true, recurses := true, apart := false }
def TindexBackSaid : Prop := tindexBackRow.holds Try.pinned (OpenSpec.ofChange tindexBackSpec)

/-- ITS FALSE NEIGHBOUR: 'it returns false'. Refute it at one input. -/
def tindexBackWrong : ChangeSpec := { name := "tindexBack", fn := fun _ => fun
  | [d1, d2] => { results := [.lit (.bool false)], args := [d1, d2] }
  | _ => none }
def TindexBackWrongFalsely : Prop := tindexBackRow.holds Try.pinned (OpenSpec.ofChange tindexBackWrong)

/-- 'cordwainlaw7.TindexSkips': WHATEVER THE INPUT: true; the input reads as it did. -/
def tindexSkipsSpec : ChangeSpec := { name := "tindexSkips", fn := fun _ => fun
  | [d1, d2, d3] => { results := [.lit (.bool true)], args := [d1, d2, d3] }
  | _ => none }
def tindexSkipsRow : OpenClaim := { program := "ytchdolcnhopmjaa", sum := "c2d64b62b440a3b28e1a280740114598f7ba78c38ebb91b66e23e9a0b16fbf65", func := "cordwain/cordwainlaw7.TindexSkips", spec := "tindexSkips", unfollowed := true, recurses := true, apart := false }
def TindexSkipsSaid : Prop := tindexSkipsRow.holds Try.pinned (OpenSpec.ofChange tindexSkipsSpec)

/-- ITS FALSE NEIGHBOUR: 'it returns false'. Refute it at one input. -/
def tindexSkipsWrong : ChangeSpec := { name := "tindexSkips", fn := fun _ => fun
  | [d1, d2, d3] => { results := [.lit (.bool false)], args := [d1, d2, d3] }
  | _ => none }
def TindexSkipsWrongFalsely : Prop := tindexSkipsRow.holds Try.pinned (OpenSpec.ofChange tindexSkipsWrong)

/- THE SECOND FORM. 'bulk': how many values and letters a reading holds, each counted each time it is reached (what is shared counts as often as it is met; a slice's spare places count too). A statement '..UptoSaid' is the law's where the arguments, and the package variables that the reading takes, are together of bulk at most 1048576: NARROWER than '..Said'. Prove '..Said' where nothing that the law and all that it calls make is longer than what came in: it says more and counts as full. Else prove '..UptoSaid'. A law counts once. -/
mutual
def uptoBulk {H : Type} : DataW H → Nat
  | .lit (.string bytes) => bytes.length + 1
  | .lit _ => 1
  | .nil => 1
  | .ptr d => uptoBulk d + 1
  | .slice elems spare => uptoBulkAll elems + uptoBulkAll spare + 1
  | .agg parts => uptoBulkAll parts + 1
  | .iface _ d => uptoBulk d + 1
  | .map entries => uptoBulkEntries entries + 1
  | .held _ => 1
def uptoBulkAll {H : Type} : List (DataW H) → Nat
  | [] => 0
  | d :: r => uptoBulk d + uptoBulkAll r
def uptoBulkEntries {H : Type} : List (Lit × DataW H) → Nat
  | [] => 0
  | x :: r => uptoBulkEntry x + uptoBulkEntries r
def uptoBulkEntry {H : Type} : Lit × DataW H → Nat
  | (.string bytes, d) => bytes.length + uptoBulk d + 1
  | (_, d) => uptoBulk d + 1
 end
def uptoSmall : (H : Type) → List (DataW H) → Bool := fun _ ds => decide (uptoBulkAll ds ≤ 1048576)
def OpenSpec.upto (s : _root_.Go.ChangeSpec) : _root_.Go.OpenSpec := { _root_.Go.OpenSpec.ofChange s with cond := some uptoSmall }

/-- 'cordwainlaw6.OindexAsks', WHERE WHAT IT READS IS OF BULK AT MOST 1048576: true; the input reads as it did. -/
def oindexAsksUptoRow : OpenClaim := { program := "ytchdolcnhopmjaa", sum := "c2d64b62b440a3b28e1a280740114598f7ba78c38ebb91b66e23e9a0b16fbf65", func := "cordwain/cordwainlaw6.OindexAsks", spec := "oindexAsks", unfollowed := true, recurses := true, apart := false, narrowed := true }
def OindexAsksUptoSaid : Prop := oindexAsksUptoRow.holds Try.pinned (OpenSpec.upto oindexAsksSpec)

/-- 'cordwainlaw6.OindexSeeks', WHERE WHAT IT READS IS OF BULK AT MOST 1048576: true; the input reads as it did. -/
def oindexSeeksUptoRow : OpenClaim := { program := "ytchdolcnhopmjaa", sum := "c2d64b62b440a3b28e1a280740114598f7ba78c38ebb91b66e23e9a0b16fbf65", func := "cordwain/cordwainlaw6.OindexSeeks", spec := "oindexSeeks", unfollowed := true, recurses := true, apart := false, narrowed := true }
def OindexSeeksUptoSaid : Prop := oindexSeeksUptoRow.holds Try.pinned (OpenSpec.upto oindexSeeksSpec)

/-- 'cordwainlaw6.OindexSparse', WHERE WHAT IT READS IS OF BULK AT MOST 1048576: true; the input reads as it did. -/
def oindexSparseUptoRow : OpenClaim := { program := "ytchdolcnhopmjaa", sum := "c2d64b62b440a3b28e1a280740114598f7ba78c38ebb91b66e23e9a0b16fbf65", func := "cordwain/cordwainlaw6.OindexSparse", spec := "oindexSparse", unfollowed := true, recurses := true, apart := false, narrowed := true }
def OindexSparseUptoSaid : Prop := oindexSparseUptoRow.holds Try.pinned (OpenSpec.upto oindexSparseSpec)

/-- 'cordwainlaw7.TindexFinds', WHERE WHAT IT READS IS OF BULK AT MOST 1048576: true; the input reads as it did. -/
def tindexFindsUptoRow : OpenClaim := { program := "ytchdolcnhopmjaa", sum := "c2d64b62b440a3b28e1a280740114598f7ba78c38ebb91b66e23e9a0b16fbf65", func := "cordwain/cordwainlaw7.TindexFinds", spec := "tindexFinds", unfollowed := true, recurses := true, apart := false, narrowed := true }
def TindexFindsUptoSaid : Prop := tindexFindsUptoRow.holds Try.pinned (OpenSpec.upto tindexFindsSpec)

/-- 'cordwainlaw7.TindexBack', WHERE WHAT IT READS IS OF BULK AT MOST 1048576: true; the input reads as it did. -/
def tindexBackUptoRow : OpenClaim := { program := "ytchdolcnhopmjaa", sum := "c2d64b62b440a3b28e1a280740114598f7ba78c38ebb91b66e23e9a0b16fbf65", func := "cordwain/cordwainlaw7.TindexBack", spec := "tindexBack", unfollowed := true, recurses := true, apart := false, narrowed := true }
def TindexBackUptoSaid : Prop := tindexBackUptoRow.holds Try.pinned (OpenSpec.upto tindexBackSpec)

/-- 'cordwainlaw7.TindexSkips', WHERE WHAT IT READS IS OF BULK AT MOST 1048576: true; the input reads as it did. -/
def tindexSkipsUptoRow : OpenClaim := { program := "ytchdolcnhopmjaa", sum := "c2d64b62b440a3b28e1a280740114598f7ba78c38ebb91b66e23e9a0b16fbf65", func := "cordwain/cordwainlaw7.TindexSkips", spec := "tindexSkips", unfollowed := true, recurses := true, apart := false, narrowed := true }
def TindexSkipsUptoSaid : Prop := tindexSkipsUptoRow.holds Try.pinned (OpenSpec.upto tindexSkipsSpec)

end Rows
end Go.Proofs.Ytchdolcnhopmjaa

/-
  No cell of these rows narrows 'for every input' (looked for: loops, veiled, ifaces, maps, wideKeys, modest, calm, conditions, laid).
  DERIVED. THE GIVEN ROWS OF THIS SEAT. 8 by the template 'for every input the law returns true; each argument reads behind the call as it read before'; 0 by the template 'total and deterministic' (their statements: YtndingohckcmdaaTotals.lean).
  GIVEN WITH THE SEED: the statements are not yours to turn. If you find one false, say at which input.
  Laid BY PROGRAM, IN A SANDBOX (cutbox-rows.mjs): the forced cells as the released guide's own fill.sh prints them over the translation 30279ebb87484773… (all of the seat's roots in one cut). By AI agents, Wed Nov 11 2026. No macro, syntax, notation, axiom, sorry.
-/
import Derived.Test.YtndingohckcmdaaChecked
import GoSem.Claim
import GoSem.ClaimJoined
import GoSem.ClaimMapViews
import Derived.JoinedTies
import Derived.KernelRfl
namespace Go.Proofs.Ytndingohckcmdaa
/- THE CELL 'sum', in the pinned program and in every row, IS THE sha256 OF THE DUMP (.gsa) THAT YtndingohckcmdaaProg.lean LOADS. Nothing in Lean hashes anything: it is a label: what it is worth is what the hold of that sum in a sandbox is worth. -/
noncomputable def Try.pinned : Pinned := { name := "ytndingohckcmdaa", sum := "30279ebb87484773610295fe50807019e4ccd47406fad02ec144c4a9fe99929c", checked := Try.checked }
namespace Rows
def none {H : Type} : Left H := { results := [], args := [] }

/-- 'cordwainlaw5.BatchWrites': WHATEVER THE INPUT: true; the input reads as it did. -/
def batchWritesSpec : ChangeSpec := { name := "batchWrites", fn := fun _ => fun
  | [d] => { results := [.lit (.bool true)], args := [d] }
  | _ => none }
def batchWritesRow : OpenClaim := { program := "ytndingohckcmdaa", sum := "30279ebb87484773610295fe50807019e4ccd47406fad02ec144c4a9fe99929c", func := "cordwain/cordwainlaw5.BatchWrites", spec := "batchWrites", unfollowed := true, recurses := true, apart := false }
def BatchWritesSaid : Prop := batchWritesRow.holds Try.pinned (OpenSpec.ofChange batchWritesSpec)

/-- ITS FALSE NEIGHBOUR: 'it returns false'. Refute it at one input. -/
def batchWritesWrong : ChangeSpec := { name := "batchWrites", fn := fun _ => fun
  | [d] => { results := [.lit (.bool false)], args := [d] }
  | _ => none }
def BatchWritesWrongFalsely : Prop := batchWritesRow.holds Try.pinned (OpenSpec.ofChange batchWritesWrong)

/-- 'cordwainlaw5.BatchReads': WHATEVER THE INPUT: true; the input reads as it did. -/
def batchReadsSpec : ChangeSpec := { name := "batchReads", fn := fun _ => fun
  | [d] => { results := [.lit (.bool true)], args := [d] }
  | _ => none }
def batchReadsRow : OpenClaim := { program := "ytndingohckcmdaa", sum := "30279ebb87484773610295fe50807019e4ccd47406fad02ec144c4a9fe99929c", func := "cordwain/cordwainlaw5.BatchReads", spec := "batchReads", apart := false }
def BatchReadsSaid : Prop := batchReadsRow.holds Try.pinned (OpenSpec.ofChange batchReadsSpec)

/-- ITS FALSE NEIGHBOUR: 'it returns false'. Refute it at one input. -/
def batchReadsWrong : ChangeSpec := { name := "batchReads", fn := fun _ => fun
  | [d] => { results := [.lit (.bool false)], args := [d] }
  | _ => none }
def BatchReadsWrongFalsely : Prop := batchReadsRow.holds Try.pinned (OpenSpec.ofChange batchReadsWrong)

/-- 'cordwainlaw5.BatchBack': WHATEVER THE INPUT: true; the input reads as it did. -/
def batchBackSpec : ChangeSpec := { name := "batchBack", fn := fun _ => fun
  | [d1, d2, d3, d4] => { results := [.lit (.bool true)], args := [d1, d2, d3, d4] }
  | _ => none }
def batchBackRow : OpenClaim := { program := "ytndingohckcmdaa", sum := "30279ebb87484773610295fe50807019e4ccd47406fad02ec144c4a9fe99929c", func := "cordwain/cordwainlaw5.BatchBack", spec := "batchBack", unfollowed := true, recurses := true, apart := false }
def BatchBackSaid : Prop := batchBackRow.holds Try.pinned (OpenSpec.ofChange batchBackSpec)

/-- ITS FALSE NEIGHBOUR: 'it returns false'. Refute it at one input. -/
def batchBackWrong : ChangeSpec := { name := "batchBack", fn := fun _ => fun
  | [d1, d2, d3, d4] => { results := [.lit (.bool false)], args := [d1, d2, d3, d4] }
  | _ => none }
def BatchBackWrongFalsely : Prop := batchBackRow.holds Try.pinned (OpenSpec.ofChange batchBackWrong)

/-- 'cordwainlaw5.BatchWalks': WHATEVER THE INPUT: true; the input reads as it did. -/
def batchWalksSpec : ChangeSpec := { name := "batchWalks", fn := fun _ => fun
  | [d1, d2] => { results := [.lit (.bool true)], args := [d1, d2] }
  | _ => none }
def batchWalksRow : OpenClaim := { program := "ytndingohckcmdaa", sum := "30279ebb87484773610295fe50807019e4ccd47406fad02ec144c4a9fe99929c", func := "cordwain/cordwainlaw5.BatchWalks", spec := "batchWalks", unfollowed := true, recurses := true, apart := false }
def BatchWalksSaid : Prop := batchWalksRow.holds Try.pinned (OpenSpec.ofChange batchWalksSpec)

/-- ITS FALSE NEIGHBOUR: 'it returns false'. Refute it at one input. -/
def batchWalksWrong : ChangeSpec := { name := "batchWalks", fn := fun _ => fun
  | [d1, d2] => { results := [.lit (.bool false)], args := [d1, d2] }
  | _ => none }
def BatchWalksWrongFalsely : Prop := batchWalksRow.holds Try.pinned (OpenSpec.ofChange batchWalksWrong)

/-- 'cordwainlaw5.BatchTorn': WHATEVER THE INPUT: true; the input reads as it did. -/
def batchTornSpec : ChangeSpec := { name := "batchTorn", fn := fun _ => fun
  | [d1, d2, d3] => { results := [.lit (.bool true)], args := [d1, d2, d3] }
  | _ => none }
def batchTornRow : OpenClaim := { program := "ytndingohckcmdaa", sum := "30279ebb87484773610295fe50807019e4ccd47406fad02ec144c4a9fe99929c", func := "cordwain/cordwainlaw5.BatchTorn", spec := "batchTorn", unfollowed := true, recurses := true, apart := false }
def BatchTornSaid : Prop := batchTornRow.holds Try.pinned (OpenSpec.ofChange batchTornSpec)

/-- ITS FALSE NEIGHBOUR: 'it returns false'. Refute it at one input. -/
def batchTornWrong : ChangeSpec := { name := "batchTorn", fn := fun _ => fun
  | [d1, d2, d3] => { results := [.lit (.bool false)], args := [d1, d2, d3] }
  | _ => none }
def BatchTornWrongFalsely : Prop := batchTornRow.holds Try.pinned (OpenSpec.ofChange batchTornWrong)

/-- 'cordwainlaw5.BatchSame': WHATEVER THE INPUT: true; the input reads as it did. -/
def batchSameSpec : ChangeSpec := { name := "batchSame", fn := fun _ => fun
  | [d1, d2] => { results := [.lit (.bool true)], args := [d1, d2] }
  | _ => none }
def batchSameRow : OpenClaim := { program := "ytndingohckcmdaa", sum := "30279ebb87484773610295fe50807019e4ccd47406fad02ec144c4a9fe99929c", func := "cordwain/cordwainlaw5.BatchSame", spec := "batchSame", unfollowed := true, recurses := true, apart := false }
def BatchSameSaid : Prop := batchSameRow.holds Try.pinned (OpenSpec.ofChange batchSameSpec)

/-- ITS FALSE NEIGHBOUR: 'it returns false'. Refute it at one input. -/
def batchSameWrong : ChangeSpec := { name := "batchSame", fn := fun _ => fun
  | [d1, d2] => { results := [.lit (.bool false)], args := [d1, d2] }
  | _ => none }
def BatchSameWrongFalsely : Prop := batchSameRow.holds Try.pinned (OpenSpec.ofChange batchSameWrong)

/-- 'cordwainlaw5.BatchLimits': WHATEVER THE INPUT: true; the input reads as it did. -/
def batchLimitsSpec : ChangeSpec := { name := "batchLimits", fn := fun _ => fun
  | [d1, d2, d3] => { results := [.lit (.bool true)], args := [d1, d2, d3] }
  | _ => none }
def batchLimitsRow : OpenClaim := { program := "ytndingohckcmdaa", sum := "30279ebb87484773610295fe50807019e4ccd47406fad02ec144c4a9fe99929c", func := "cordwain/cordwainlaw5.BatchLimits", spec := "batchLimits", apart := false }
def BatchLimitsSaid : Prop := batchLimitsRow.holds Try.pinned (OpenSpec.ofChange batchLimitsSpec)

/-- ITS FALSE NEIGHBOUR: 'it returns false'. Refute it at one input. -/
def batchLimitsWrong : ChangeSpec := { name := "batchLimits", fn := fun _ => fun
  | [d1, d2, d3] => { results := [.lit (.bool false)], args := [d1, d2, d3] }
  | _ => none }
def BatchLimitsWrongFalsely : Prop := batchLimitsRow.holds Try.pinned (OpenSpec.ofChange batchLimitsWrong)

/-- 'cordwainlaw5.BatchGaps': WHATEVER THE INPUT: true; the input reads as it did. -/
def batchGapsSpec : ChangeSpec := { name := "batchGaps", fn := fun _ => fun
  | [d1, d2] => { results := [.lit (.bool true)], args := [d1, d2] }
  | _ => none }
def batchGapsRow : OpenClaim := { program := "ytndingohckcmdaa", sum := "30279ebb87484773610295fe50807019e4ccd47406fad02ec144c4a9fe99929c", func := "cordwain/cordwainlaw5.BatchGaps", spec := "batchGaps", unfollowed := true, recurses := true, apart := false }
def BatchGapsSaid : Prop := batchGapsRow.holds Try.pinned (OpenSpec.ofChange batchGapsSpec)

/-- ITS FALSE NEIGHBOUR: 'it returns false'. Refute it at one input. -/
def batchGapsWrong : ChangeSpec := { name := "batchGaps", fn := fun _ => fun
  | [d1, d2] => { results := [.lit (.bool false)], args := [d1, d2] }
  | _ => none }
def BatchGapsWrongFalsely : Prop := batchGapsRow.holds Try.pinned (OpenSpec.ofChange batchGapsWrong)

/- THE SECOND FORM. 'bulk': how many values and letters a reading holds, each counted each time it is reached (what is shared counts as often as it is met; a slice's spare places count too). A statement '..UptoSaid' is the law's where the arguments, and the package variables that the reading takes, are together of bulk at most 1048576: NARROWER than '..Said'. Prove '..Said' where nothing that the law and all that it calls make is longer than what came in: it says more and counts as full. Else prove '..UptoSaid'. A law counts once. -/
mutual
def uptoBulk {H : Type} : DataW H → Nat
  | .lit (.string bytes) => bytes.length + 1
  | .lit _ => 1
  | .nil => 1
  | .ptr d => uptoBulk d + 1
  | .slice elems spare => uptoBulkAll elems + uptoBulkAll spare + 1
  | .agg parts => uptoBulkAll parts + 1
  | .iface _ d => uptoBulk d + 1
  | .map entries => uptoBulkEntries entries + 1
  | .held _ => 1
def uptoBulkAll {H : Type} : List (DataW H) → Nat
  | [] => 0
  | d :: r => uptoBulk d + uptoBulkAll r
def uptoBulkEntries {H : Type} : List (Lit × DataW H) → Nat
  | [] => 0
  | x :: r => uptoBulkEntry x + uptoBulkEntries r
def uptoBulkEntry {H : Type} : Lit × DataW H → Nat
  | (.string bytes, d) => bytes.length + uptoBulk d + 1
  | (_, d) => uptoBulk d + 1
 end
def uptoSmall : (H : Type) → List (DataW H) → Bool := fun _ ds => decide (uptoBulkAll ds ≤ 1048576)
def OpenSpec.upto (s : _root_.Go.ChangeSpec) : _root_.Go.OpenSpec := { _root_.Go.OpenSpec.ofChange s with cond := some uptoSmall }

/-- 'cordwainlaw5.BatchWrites', WHERE WHAT IT READS IS OF BULK AT MOST 1048576: true; the input reads as it did. -/
def batchWritesUptoRow : OpenClaim := { program := "ytndingohckcmdaa", sum := "30279ebb87484773610295fe50807019e4ccd47406fad02ec144c4a9fe99929c", func := "cordwain/cordwainlaw5.BatchWrites", spec := "batchWrites", unfollowed := true, recurses := true, apart := false, narrowed := true }
def BatchWritesUptoSaid : Prop := batchWritesUptoRow.holds Try.pinned (OpenSpec.upto batchWritesSpec)

/-- 'cordwainlaw5.BatchReads', WHERE WHAT IT READS IS OF BULK AT MOST 1048576: true; the input reads as it did. -/
def batchReadsUptoRow : OpenClaim := { program := "ytndingohckcmdaa", sum := "30279ebb87484773610295fe50807019e4ccd47406fad02ec144c4a9fe99929c", func := "cordwain/cordwainlaw5.BatchReads", spec := "batchReads", apart := false, narrowed := true }
def BatchReadsUptoSaid : Prop := batchReadsUptoRow.holds Try.pinned (OpenSpec.upto batchReadsSpec)

/-- 'cordwainlaw5.BatchBack', WHERE WHAT IT READS IS OF BULK AT MOST 1048576: true; the input reads as it did. -/
def batchBackUptoRow : OpenClaim := { program := "ytndingohckcmdaa", sum := "30279ebb87484773610295fe50807019e4ccd47406fad02ec144c4a9fe99929c", func := "cordwain/cordwainlaw5.BatchBack", spec := "batchBack", unfollowed := true, recurses := true, apart := false, narrowed := true }
def BatchBackUptoSaid : Prop := batchBackUptoRow.holds Try.pinned (OpenSpec.upto batchBackSpec)

/-- 'cordwainlaw5.BatchWalks', WHERE WHAT IT READS IS OF BULK AT MOST 1048576: true; the input reads as it did. -/
def batchWalksUptoRow : OpenClaim := { program := "ytndingohckcmdaa", sum := "30279ebb87484773610295fe50807019e4ccd47406fad02ec144c4a9fe99929c", func := "cordwain/cordwainlaw5.BatchWalks", spec := "batchWalks", unfollowed := true, recurses := true, apart := false, narrowed := true }
def BatchWalksUptoSaid : Prop := batchWalksUptoRow.holds Try.pinned (OpenSpec.upto batchWalksSpec)

/-- 'cordwainlaw5.BatchTorn', WHERE WHAT IT READS IS OF BULK AT MOST 1048576: true; the input reads as it did. -/
def batchTornUptoRow : OpenClaim := { program := "ytndingohckcmdaa", sum := "30279ebb87484773610295fe50807019e4ccd47406fad02ec144c4a9fe99929c", func := "cordwain/cordwainlaw5.BatchTorn", spec := "batchTorn", unfollowed := true, recurses := true, apart := false, narrowed := true }
def BatchTornUptoSaid : Prop := batchTornUptoRow.holds Try.pinned (OpenSpec.upto batchTornSpec)

/-- 'cordwainlaw5.BatchSame', WHERE WHAT IT READS IS OF BULK AT MOST 1048576: true; the input reads as it did. -/
def batchSameUptoRow : OpenClaim := { program := "ytndingohckcmdaa", sum := "30279ebb87484773610295fe50807019e4ccd47406fad02ec144c4a9fe99929c", func := "cordwain/cordwainlaw5.BatchSame", spec := "batchSame", unfollowed := true, recurses := true, apart := false, narrowed := true }
def BatchSameUptoSaid : Prop := batchSameUptoRow.holds Try.pinned (OpenSpec.upto batchSameSpec)

/-- 'cordwainlaw5.BatchLimits', WHERE WHAT IT READS IS OF BULK AT MOST 1048576: true; the input reads as it did. -/
def batchLimitsUptoRow : OpenClaim := { program := "ytndingohckcmdaa", sum := "30279ebb87484773610295fe50807019e4ccd47406fad02ec144c4a9fe99929c", func := "cordwain/cordwainlaw5.BatchLimits", spec := "batchLimits", apart := false, narrowed := true }
def BatchLimitsUptoSaid : Prop := batchLimitsUptoRow.holds Try.pinned (OpenSpec.upto batchLimitsSpec)

/-- 'cordwainlaw5.BatchGaps', WHERE WHAT IT READS IS OF BULK AT MOST 1048576: true; the input reads as it did. -/
def batchGapsUptoRow : OpenClaim := { program := "ytndingohckcmdaa", sum := "30279ebb87484773610295fe50807019e4ccd47406fad02ec144c4a9fe99929c", func := "cordwain/cordwainlaw5.BatchGaps", spec := "batchGaps", unfollowed := true, recurses := true, apart := false, narrowed := true }
def BatchGapsUptoSaid : Prop := batchGapsUptoRow.holds Try.pinned (OpenSpec.upto batchGapsSpec)

end Rows
end Go.Proofs.Ytndingohckcmdaa

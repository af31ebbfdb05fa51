/-
  No cell of these rows narrows 'for every input' (looked for: loops, veiled, ifaces, maps, wideKeys, modest, calm, conditions, laid).
  DERIVED. THE GIVEN ROWS OF THIS SEAT. 4 by the template 'for every input the law returns true; each argument reads behind the call as it read before'; 0 by the template 'total and deterministic' (their statements: YtkkpbnhagobhmaaTotals.lean).
  GIVEN WITH THE SEED: the statements are not yours to turn. If you find one false, say at which input.
  Laid BY PROGRAM, IN A SANDBOX (cutbox-rows.mjs): the forced cells as the released guide's own fill.sh prints them over the translation f6771bfb140a3f73… (all of the seat's roots in one cut). By AI agents, Wed Nov 11 2026. No macro, syntax, notation, axiom, sorry.
-/
import Derived.Test.YtkkpbnhagobhmaaChecked
import GoSem.Claim
import GoSem.ClaimJoined
import GoSem.ClaimMapViews
import Derived.JoinedTies
import Derived.KernelRfl
namespace Go.Proofs.Ytkkpbnhagobhmaa
/- THE CELL 'sum', in the pinned program and in every row, IS THE sha256 OF THE DUMP (.gsa) THAT YtkkpbnhagobhmaaProg.lean LOADS. Nothing in Lean hashes anything: it is a label: what it is worth is what the hold of that sum in a sandbox is worth. -/
noncomputable def Try.pinned : Pinned := { name := "ytkkpbnhagobhmaa", sum := "f6771bfb140a3f73155ca0f5ddd40a24eaddb92f45169d1817068d1ce03ae35f", checked := Try.checked }
namespace Rows
def none {H : Type} : Left H := { results := [], args := [] }

/-- 'cordwainlaw18.CommitsPlays': WHATEVER THE INPUT: true; the input reads as it did. -/
def commitsPlaysSpec : ChangeSpec := { name := "commitsPlays", fn := fun _ => fun
  | [d1, d2, d3] => { results := [.lit (.bool true)], args := [d1, d2, d3] }
  | _ => none }
def commitsPlaysRow : OpenClaim := { program := "ytkkpbnhagobhmaa", sum := "f6771bfb140a3f73155ca0f5ddd40a24eaddb92f45169d1817068d1ce03ae35f", func := "cordwain/cordwainlaw18.CommitsPlays", spec := "commitsPlays", unfollowed := true, recurses := true, plainKeys := false, apart := false }
def CommitsPlaysSaid : Prop := commitsPlaysRow.holds Try.pinned (OpenSpec.ofChange commitsPlaysSpec)

/-- ITS FALSE NEIGHBOUR: 'it returns false'. Refute it at one input. -/
def commitsPlaysWrong : ChangeSpec := { name := "commitsPlays", fn := fun _ => fun
  | [d1, d2, d3] => { results := [.lit (.bool false)], args := [d1, d2, d3] }
  | _ => none }
def CommitsPlaysWrongFalsely : Prop := commitsPlaysRow.holds Try.pinned (OpenSpec.ofChange commitsPlaysWrong)

/-- 'cordwainlaw18.CommitsRecords': WHATEVER THE INPUT: true; the input reads as it did. -/
def commitsRecordsSpec : ChangeSpec := { name := "commitsRecords", fn := fun _ => fun
  | [d1, d2, d3] => { results := [.lit (.bool true)], args := [d1, d2, d3] }
  | _ => none }
def commitsRecordsRow : OpenClaim := { program := "ytkkpbnhagobhmaa", sum := "f6771bfb140a3f73155ca0f5ddd40a24eaddb92f45169d1817068d1ce03ae35f", func := "cordwain/cordwainlaw18.CommitsRecords", spec := "commitsRecords", plainKeys := false, apart := false }
def CommitsRecordsSaid : Prop := commitsRecordsRow.holds Try.pinned (OpenSpec.ofChange commitsRecordsSpec)

/-- ITS FALSE NEIGHBOUR: 'it returns false'. Refute it at one input. -/
def commitsRecordsWrong : ChangeSpec := { name := "commitsRecords", fn := fun _ => fun
  | [d1, d2, d3] => { results := [.lit (.bool false)], args := [d1, d2, d3] }
  | _ => none }
def CommitsRecordsWrongFalsely : Prop := commitsRecordsRow.holds Try.pinned (OpenSpec.ofChange commitsRecordsWrong)

/-- 'cordwainlaw18.CommitsBack': WHATEVER THE INPUT: true; the input reads as it did. -/
def commitsBackSpec : ChangeSpec := { name := "commitsBack", fn := fun _ => fun
  | [d] => { results := [.lit (.bool true)], args := [d] }
  | _ => none }
def commitsBackRow : OpenClaim := { program := "ytkkpbnhagobhmaa", sum := "f6771bfb140a3f73155ca0f5ddd40a24eaddb92f45169d1817068d1ce03ae35f", func := "cordwain/cordwainlaw18.CommitsBack", spec := "commitsBack", plainKeys := false, apart := false }
def CommitsBackSaid : Prop := commitsBackRow.holds Try.pinned (OpenSpec.ofChange commitsBackSpec)

/-- ITS FALSE NEIGHBOUR: 'it returns false'. Refute it at one input. -/
def commitsBackWrong : ChangeSpec := { name := "commitsBack", fn := fun _ => fun
  | [d] => { results := [.lit (.bool false)], args := [d] }
  | _ => none }
def CommitsBackWrongFalsely : Prop := commitsBackRow.holds Try.pinned (OpenSpec.ofChange commitsBackWrong)

/-- 'cordwainlaw18.CommitsDrops': WHATEVER THE INPUT: true; the input reads as it did. -/
def commitsDropsSpec : ChangeSpec := { name := "commitsDrops", fn := fun _ => fun
  | [d1, d2, d3] => { results := [.lit (.bool true)], args := [d1, d2, d3] }
  | _ => none }
def commitsDropsRow : OpenClaim := { program := "ytkkpbnhagobhmaa", sum := "f6771bfb140a3f73155ca0f5ddd40a24eaddb92f45169d1817068d1ce03ae35f", func := "cordwain/cordwainlaw18.CommitsDrops", spec := "commitsDrops", plainKeys := false, apart := false }
def CommitsDropsSaid : Prop := commitsDropsRow.holds Try.pinned (OpenSpec.ofChange commitsDropsSpec)

/-- ITS FALSE NEIGHBOUR: 'it returns false'. Refute it at one input. -/
def commitsDropsWrong : ChangeSpec := { name := "commitsDrops", fn := fun _ => fun
  | [d1, d2, d3] => { results := [.lit (.bool false)], args := [d1, d2, d3] }
  | _ => none }
def CommitsDropsWrongFalsely : Prop := commitsDropsRow.holds Try.pinned (OpenSpec.ofChange commitsDropsWrong)

/- THE SECOND FORM. 'bulk': how many values and letters a reading holds, each counted each time it is reached (what is shared counts as often as it is met; a slice's spare places count too). A statement '..UptoSaid' is the law's where the arguments, and the package variables that the reading takes, are together of bulk at most 1048576: NARROWER than '..Said'. Prove '..Said' where nothing that the law and all that it calls make is longer than what came in: it says more and counts as full. Else prove '..UptoSaid'. A law counts once. -/
mutual
def uptoBulk {H : Type} : DataW H → Nat
  | .lit (.string bytes) => bytes.length + 1
  | .lit _ => 1
  | .nil => 1
  | .ptr d => uptoBulk d + 1
  | .slice elems spare => uptoBulkAll elems + uptoBulkAll spare + 1
  | .agg parts => uptoBulkAll parts + 1
  | .iface _ d => uptoBulk d + 1
  | .map entries => uptoBulkEntries entries + 1
  | .held _ => 1
def uptoBulkAll {H : Type} : List (DataW H) → Nat
  | [] => 0
  | d :: r => uptoBulk d + uptoBulkAll r
def uptoBulkEntries {H : Type} : List (Lit × DataW H) → Nat
  | [] => 0
  | x :: r => uptoBulkEntry x + uptoBulkEntries r
def uptoBulkEntry {H : Type} : Lit × DataW H → Nat
  | (.string bytes, d) => bytes.length + uptoBulk d + 1
  | (_, d) => uptoBulk d + 1
 end
def uptoSmall : (H : Type) → List (DataW H) → Bool := fun _ ds => decide (uptoBulkAll ds ≤ 1048576)
def OpenSpec.upto (s : _root_.Go.ChangeSpec) : _root_.Go.OpenSpec := { _root_.Go.OpenSpec.ofChange s with cond := some uptoSmall }

/-- 'cordwainlaw18.CommitsPlays', WHERE WHAT IT READS IS OF BULK AT MOST 1048576: true; the input reads as it did. -/
def commitsPlaysUptoRow : OpenClaim := { program := "ytkkpbnhagobhmaa", sum := "f6771bfb140a3f73155ca0f5ddd40a24eaddb92f45169d1817068d1ce03ae35f", func := "cordwain/cordwainlaw18.CommitsPlays", spec := "commitsPlays", unfollowed := true, recurses := true, plainKeys := false, apart := false, narrowed := true }
def CommitsPlaysUptoSaid : Prop := commitsPlaysUptoRow.holds Try.pinned (OpenSpec.upto commitsPlaysSpec)

/-- 'cordwainlaw18.CommitsRecords', WHERE WHAT IT READS IS OF BULK AT MOST 1048576: true; the input reads as it did. -/
def commitsRecordsUptoRow : OpenClaim := { program := "ytkkpbnhagobhmaa", sum := "f6771bfb140a3f73155ca0f5ddd40a24eaddb92f45169d1817068d1ce03ae35f", func := "cordwain/cordwainlaw18.CommitsRecords", spec := "commitsRecords", plainKeys := false, apart := false, narrowed := true }
def CommitsRecordsUptoSaid : Prop := commitsRecordsUptoRow.holds Try.pinned (OpenSpec.upto commitsRecordsSpec)

/-- 'cordwainlaw18.CommitsBack', WHERE WHAT IT READS IS OF BULK AT MOST 1048576: true; the input reads as it did. -/
def commitsBackUptoRow : OpenClaim := { program := "ytkkpbnhagobhmaa", sum := "f6771bfb140a3f73155ca0f5ddd40a24eaddb92f45169d1817068d1ce03ae35f", func := "cordwain/cordwainlaw18.CommitsBack", spec := "commitsBack", plainKeys := false, apart := false, narrowed := true }
def CommitsBackUptoSaid : Prop := commitsBackUptoRow.holds Try.pinned (OpenSpec.upto commitsBackSpec)

/-- 'cordwainlaw18.CommitsDrops', WHERE WHAT IT READS IS OF BULK AT MOST 1048576: true; the input reads as it did. -/
def commitsDropsUptoRow : OpenClaim := { program := "ytkkpbnhagobhmaa", sum := "f6771bfb140a3f73155ca0f5ddd40a24eaddb92f45169d1817068d1ce03ae35f", func := "cordwain/cordwainlaw18.CommitsDrops", spec := "commitsDrops", plainKeys := false, apart := false, narrowed := true }
def CommitsDropsUptoSaid : Prop := commitsDropsUptoRow.holds Try.pinned (OpenSpec.upto commitsDropsSpec)

end Rows
end Go.Proofs.Ytkkpbnhagobhmaa

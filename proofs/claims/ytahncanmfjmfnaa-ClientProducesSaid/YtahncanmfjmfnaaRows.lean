/-
  No cell of these rows narrows 'for every input' (looked for: loops, veiled, ifaces, maps, wideKeys, modest, calm, conditions, laid).
  DERIVED. THE GIVEN ROWS OF THIS SEAT. 5 by the template 'for every input the law returns true; each argument reads behind the call as it read before'; 0 by the template 'total and deterministic' (their statements: YtahncanmfjmfnaaTotals.lean).
  GIVEN WITH THE SEED: the statements are not yours to turn. If you find one false, say at which input.
  Laid BY PROGRAM, IN A SANDBOX (cutbox-rows.mjs): the forced cells as the released guide's own fill.sh prints them over the translation e4df5cbf4cd5bbbb… (all of the seat's roots in one cut). By AI agents, Wed Nov 11 2026. No macro, syntax, notation, axiom, sorry.
-/
import Derived.Test.YtahncanmfjmfnaaChecked
import GoSem.Claim
import GoSem.ClaimJoined
import GoSem.ClaimMapViews
import Derived.JoinedTies
import Derived.KernelRfl
namespace Go.Proofs.Ytahncanmfjmfnaa
/- THE CELL 'sum', in the pinned program and in every row, IS THE sha256 OF THE DUMP (.gsa) THAT YtahncanmfjmfnaaProg.lean LOADS. Nothing in Lean hashes anything: it is a label: what it is worth is what the hold of that sum in a sandbox is worth. -/
noncomputable def Try.pinned : Pinned := { name := "ytahncanmfjmfnaa", sum := "e4df5cbf4cd5bbbb6aa1215340f066868c24555cdc3916290154a68c83ced888", checked := Try.checked }
namespace Rows
def none {H : Type} : Left H := { results := [], args := [] }

/-- 'cordwainlaw24.ClientProduces': WHATEVER THE INPUT: true; the input reads as it did. -/
def clientProducesSpec : ChangeSpec := { name := "clientProduces", fn := fun _ => fun
  | [d1, d2, d3] => { results := [.lit (.bool true)], args := [d1, d2, d3] }
  | _ => none }
def clientProducesRow : OpenClaim := { program := "ytahncanmfjmfnaa", sum := "e4df5cbf4cd5bbbb6aa1215340f066868c24555cdc3916290154a68c83ced888", func := "cordwain/cordwainlaw24.ClientProduces", spec := "clientProduces", plainKeys := false, apart := false }
def ClientProducesSaid : Prop := clientProducesRow.holds Try.pinned (OpenSpec.ofChange clientProducesSpec)

/-- ITS FALSE NEIGHBOUR: 'it returns false'. Refute it at one input. -/
def clientProducesWrong : ChangeSpec := { name := "clientProduces", fn := fun _ => fun
  | [d1, d2, d3] => { results := [.lit (.bool false)], args := [d1, d2, d3] }
  | _ => none }
def ClientProducesWrongFalsely : Prop := clientProducesRow.holds Try.pinned (OpenSpec.ofChange clientProducesWrong)

/-- 'cordwainlaw24.ClientReads': WHATEVER THE INPUT: true; the input reads as it did. -/
def clientReadsSpec : ChangeSpec := { name := "clientReads", fn := fun _ => fun
  | [d1, d2, d3, d4, d5] => { results := [.lit (.bool true)], args := [d1, d2, d3, d4, d5] }
  | _ => none }
def clientReadsRow : OpenClaim := { program := "ytahncanmfjmfnaa", sum := "e4df5cbf4cd5bbbb6aa1215340f066868c24555cdc3916290154a68c83ced888", func := "cordwain/cordwainlaw24.ClientReads", spec := "clientReads", plainKeys := false, apart := false }
def ClientReadsSaid : Prop := clientReadsRow.holds Try.pinned (OpenSpec.ofChange clientReadsSpec)

/-- ITS FALSE NEIGHBOUR: 'it returns false'. Refute it at one input. -/
def clientReadsWrong : ChangeSpec := { name := "clientReads", fn := fun _ => fun
  | [d1, d2, d3, d4, d5] => { results := [.lit (.bool false)], args := [d1, d2, d3, d4, d5] }
  | _ => none }
def ClientReadsWrongFalsely : Prop := clientReadsRow.holds Try.pinned (OpenSpec.ofChange clientReadsWrong)

/-- 'cordwainlaw24.ClientNothing': WHATEVER THE INPUT: true; the input reads as it did. -/
def clientNothingSpec : ChangeSpec := { name := "clientNothing", fn := fun _ => fun
  | [d] => { results := [.lit (.bool true)], args := [d] }
  | _ => none }
def clientNothingRow : OpenClaim := { program := "ytahncanmfjmfnaa", sum := "e4df5cbf4cd5bbbb6aa1215340f066868c24555cdc3916290154a68c83ced888", func := "cordwain/cordwainlaw24.ClientNothing", spec := "clientNothing", plainKeys := false, apart := false }
def ClientNothingSaid : Prop := clientNothingRow.holds Try.pinned (OpenSpec.ofChange clientNothingSpec)

/-- ITS FALSE NEIGHBOUR: 'it returns false'. Refute it at one input. -/
def clientNothingWrong : ChangeSpec := { name := "clientNothing", fn := fun _ => fun
  | [d] => { results := [.lit (.bool false)], args := [d] }
  | _ => none }
def ClientNothingWrongFalsely : Prop := clientNothingRow.holds Try.pinned (OpenSpec.ofChange clientNothingWrong)

/-- 'cordwainlaw24.ClientAgain': WHATEVER THE INPUT: true; the input reads as it did. -/
def clientAgainSpec : ChangeSpec := { name := "clientAgain", fn := fun _ => fun
  | [d1, d2, d3, d4] => { results := [.lit (.bool true)], args := [d1, d2, d3, d4] }
  | _ => none }
def clientAgainRow : OpenClaim := { program := "ytahncanmfjmfnaa", sum := "e4df5cbf4cd5bbbb6aa1215340f066868c24555cdc3916290154a68c83ced888", func := "cordwain/cordwainlaw24.ClientAgain", spec := "clientAgain", plainKeys := false, apart := false }
def ClientAgainSaid : Prop := clientAgainRow.holds Try.pinned (OpenSpec.ofChange clientAgainSpec)

/-- ITS FALSE NEIGHBOUR: 'it returns false'. Refute it at one input. -/
def clientAgainWrong : ChangeSpec := { name := "clientAgain", fn := fun _ => fun
  | [d1, d2, d3, d4] => { results := [.lit (.bool false)], args := [d1, d2, d3, d4] }
  | _ => none }
def ClientAgainWrongFalsely : Prop := clientAgainRow.holds Try.pinned (OpenSpec.ofChange clientAgainWrong)

/-- 'cordwainlaw24.ClientFollows': WHATEVER THE INPUT: true; the input reads as it did. -/
def clientFollowsSpec : ChangeSpec := { name := "clientFollows", fn := fun _ => fun
  | [d1, d2] => { results := [.lit (.bool true)], args := [d1, d2] }
  | _ => none }
def clientFollowsRow : OpenClaim := { program := "ytahncanmfjmfnaa", sum := "e4df5cbf4cd5bbbb6aa1215340f066868c24555cdc3916290154a68c83ced888", func := "cordwain/cordwainlaw24.ClientFollows", spec := "clientFollows", plainKeys := false, apart := false }
def ClientFollowsSaid : Prop := clientFollowsRow.holds Try.pinned (OpenSpec.ofChange clientFollowsSpec)

/-- ITS FALSE NEIGHBOUR: 'it returns false'. Refute it at one input. -/
def clientFollowsWrong : ChangeSpec := { name := "clientFollows", fn := fun _ => fun
  | [d1, d2] => { results := [.lit (.bool false)], args := [d1, d2] }
  | _ => none }
def ClientFollowsWrongFalsely : Prop := clientFollowsRow.holds Try.pinned (OpenSpec.ofChange clientFollowsWrong)

/- THE SECOND FORM. 'bulk': how many values and letters a reading holds, each counted each time it is reached (what is shared counts as often as it is met; a slice's spare places count too). A statement '..UptoSaid' is the law's where the arguments, and the package variables that the reading takes, are together of bulk at most 1048576: NARROWER than '..Said'. Prove '..Said' where nothing that the law and all that it calls make is longer than what came in: it says more and counts as full. Else prove '..UptoSaid'. A law counts once. -/
mutual
def uptoBulk {H : Type} : DataW H → Nat
  | .lit (.string bytes) => bytes.length + 1
  | .lit _ => 1
  | .nil => 1
  | .ptr d => uptoBulk d + 1
  | .slice elems spare => uptoBulkAll elems + uptoBulkAll spare + 1
  | .agg parts => uptoBulkAll parts + 1
  | .iface _ d => uptoBulk d + 1
  | .map entries => uptoBulkEntries entries + 1
  | .held _ => 1
def uptoBulkAll {H : Type} : List (DataW H) → Nat
  | [] => 0
  | d :: r => uptoBulk d + uptoBulkAll r
def uptoBulkEntries {H : Type} : List (Lit × DataW H) → Nat
  | [] => 0
  | x :: r => uptoBulkEntry x + uptoBulkEntries r
def uptoBulkEntry {H : Type} : Lit × DataW H → Nat
  | (.string bytes, d) => bytes.length + uptoBulk d + 1
  | (_, d) => uptoBulk d + 1
 end
def uptoSmall : (H : Type) → List (DataW H) → Bool := fun _ ds => decide (uptoBulkAll ds ≤ 1048576)
def OpenSpec.upto (s : _root_.Go.ChangeSpec) : _root_.Go.OpenSpec := { _root_.Go.OpenSpec.ofChange s with cond := some uptoSmall }

/-- 'cordwainlaw24.ClientProduces', WHERE WHAT IT READS IS OF BULK AT MOST 1048576: true; the input reads as it did. -/
def clientProducesUptoRow : OpenClaim := { program := "ytahncanmfjmfnaa", sum := "e4df5cbf4cd5bbbb6aa1215340f066868c24555cdc3916290154a68c83ced888", func := "cordwain/cordwainlaw24.ClientProduces", spec := "clientProduces", plainKeys := false, apart := false, narrowed := true }
def ClientProducesUptoSaid : Prop := clientProducesUptoRow.holds Try.pinned (OpenSpec.upto clientProducesSpec)

/-- 'cordwainlaw24.ClientReads', WHERE WHAT IT READS IS OF BULK AT MOST 1048576: true; the input reads as it did. -/
def clientReadsUptoRow : OpenClaim := { program := "ytahncanmfjmfnaa", sum := "e4df5cbf4cd5bbbb6aa1215340f066868c24555cdc3916290154a68c83ced888", func := "cordwain/cordwainlaw24.ClientReads", spec := "clientReads", plainKeys := false, apart := false, narrowed := true }
def ClientReadsUptoSaid : Prop := clientReadsUptoRow.holds Try.pinned (OpenSpec.upto clientReadsSpec)

/-- 'cordwainlaw24.ClientNothing', WHERE WHAT IT READS IS OF BULK AT MOST 1048576: true; the input reads as it did. -/
def clientNothingUptoRow : OpenClaim := { program := "ytahncanmfjmfnaa", sum := "e4df5cbf4cd5bbbb6aa1215340f066868c24555cdc3916290154a68c83ced888", func := "cordwain/cordwainlaw24.ClientNothing", spec := "clientNothing", plainKeys := false, apart := false, narrowed := true }
def ClientNothingUptoSaid : Prop := clientNothingUptoRow.holds Try.pinned (OpenSpec.upto clientNothingSpec)

/-- 'cordwainlaw24.ClientAgain', WHERE WHAT IT READS IS OF BULK AT MOST 1048576: true; the input reads as it did. -/
def clientAgainUptoRow : OpenClaim := { program := "ytahncanmfjmfnaa", sum := "e4df5cbf4cd5bbbb6aa1215340f066868c24555cdc3916290154a68c83ced888", func := "cordwain/cordwainlaw24.ClientAgain", spec := "clientAgain", plainKeys := false, apart := false, narrowed := true }
def ClientAgainUptoSaid : Prop := clientAgainUptoRow.holds Try.pinned (OpenSpec.upto clientAgainSpec)

/-- 'cordwainlaw24.ClientFollows', WHERE WHAT IT READS IS OF BULK AT MOST 1048576: true; the input reads as it did. -/
def clientFollowsUptoRow : OpenClaim := { program := "ytahncanmfjmfnaa", sum := "e4df5cbf4cd5bbbb6aa1215340f066868c24555cdc3916290154a68c83ced888", func := "cordwain/cordwainlaw24.ClientFollows", spec := "clientFollows", plainKeys := false, apart := false, narrowed := true }
def ClientFollowsUptoSaid : Prop := clientFollowsUptoRow.holds Try.pinned (OpenSpec.upto clientFollowsSpec)

end Rows
end Go.Proofs.Ytahncanmfjmfnaa

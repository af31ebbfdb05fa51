/-
  No cell of these rows narrows 'for every input' (looked for: loops, veiled, ifaces, maps, wideKeys, modest, calm, conditions, laid).
  DERIVED. THE GIVEN ROWS OF THIS SEAT. 12 by the template 'for every input the law returns true; each argument reads behind the call as it read before'; 0 by the template 'total and deterministic' (their statements: YtbbekgliaedigaaTotals.lean).
  GIVEN WITH THE SEED: the statements are not yours to turn. If you find one false, say at which input.
  Laid BY PROGRAM, IN A SANDBOX (cutbox-rows.mjs): the forced cells as the released guide's own fill.sh prints them over the translation c71832cab47dc557… (all of the seat's roots in one cut). By AI agents, Wed Nov 11 2026. No macro, syntax, notation, axiom, sorry.
-/
import Derived.Test.YtbbekgliaedigaaChecked
import GoSem.Claim
import GoSem.ClaimJoined
import GoSem.ClaimMapViews
import Derived.JoinedTies
import Derived.KernelRfl
namespace Go.Proofs.Ytbbekgliaedigaa
/- THE CELL 'sum', in the pinned program and in every row, IS THE sha256 OF THE DUMP (.gsa) THAT YtbbekgliaedigaaProg.lean LOADS. Nothing in Lean hashes anything: it is a label: what it is worth is what the hold of that sum in a sandbox is worth. -/
noncomputable def Try.pinned : Pinned := { name := "ytbbekgliaedigaa", sum := "c71832cab47dc557251b09d337a9a87fe5871d94ff3e1ca0b29cecf59ce679ff", checked := Try.checked }
namespace Rows
def none {H : Type} : Left H := { results := [], args := [] }

/-- 'cordwainlaw12.KeymapPlays': WHATEVER THE INPUT: true; the input reads as it did. -/
def keymapPlaysSpec : ChangeSpec := { name := "keymapPlays", fn := fun _ => fun
  | [d1, d2, d3, d4] => { results := [.lit (.bool true)], args := [d1, d2, d3, d4] }
  | _ => none }
def keymapPlaysRow : OpenClaim := { program := "ytbbekgliaedigaa", sum := "c71832cab47dc557251b09d337a9a87fe5871d94ff3e1ca0b29cecf59ce679ff", func := "cordwain/cordwainlaw12.KeymapPlays", spec := "keymapPlays", unfollowed := true, recurses := true, apart := false }
def KeymapPlaysSaid : Prop := keymapPlaysRow.holds Try.pinned (OpenSpec.ofChange keymapPlaysSpec)

/-- ITS FALSE NEIGHBOUR: 'it returns false'. Refute it at one input. -/
def keymapPlaysWrong : ChangeSpec := { name := "keymapPlays", fn := fun _ => fun
  | [d1, d2, d3, d4] => { results := [.lit (.bool false)], args := [d1, d2, d3, d4] }
  | _ => none }
def KeymapPlaysWrongFalsely : Prop := keymapPlaysRow.holds Try.pinned (OpenSpec.ofChange keymapPlaysWrong)

/-- 'cordwainlaw12.KeymapBuilds': WHATEVER THE INPUT: true; the input reads as it did. -/
def keymapBuildsSpec : ChangeSpec := { name := "keymapBuilds", fn := fun _ => fun
  | [d1, d2, d3] => { results := [.lit (.bool true)], args := [d1, d2, d3] }
  | _ => none }
def keymapBuildsRow : OpenClaim := { program := "ytbbekgliaedigaa", sum := "c71832cab47dc557251b09d337a9a87fe5871d94ff3e1ca0b29cecf59ce679ff", func := "cordwain/cordwainlaw12.KeymapBuilds", spec := "keymapBuilds", unfollowed := true, recurses := true, apart := false }
def KeymapBuildsSaid : Prop := keymapBuildsRow.holds Try.pinned (OpenSpec.ofChange keymapBuildsSpec)

/-- ITS FALSE NEIGHBOUR: 'it returns false'. Refute it at one input. -/
def keymapBuildsWrong : ChangeSpec := { name := "keymapBuilds", fn := fun _ => fun
  | [d1, d2, d3] => { results := [.lit (.bool false)], args := [d1, d2, d3] }
  | _ => none }
def KeymapBuildsWrongFalsely : Prop := keymapBuildsRow.holds Try.pinned (OpenSpec.ofChange keymapBuildsWrong)

/-- 'cordwainlaw12.KeymapCovers': WHATEVER THE INPUT: true; the input reads as it did. -/
def keymapCoversSpec : ChangeSpec := { name := "keymapCovers", fn := fun _ => fun
  | [d1, d2, d3] => { results := [.lit (.bool true)], args := [d1, d2, d3] }
  | _ => none }
def keymapCoversRow : OpenClaim := { program := "ytbbekgliaedigaa", sum := "c71832cab47dc557251b09d337a9a87fe5871d94ff3e1ca0b29cecf59ce679ff", func := "cordwain/cordwainlaw12.KeymapCovers", spec := "keymapCovers", apart := false }
def KeymapCoversSaid : Prop := keymapCoversRow.holds Try.pinned (OpenSpec.ofChange keymapCoversSpec)

/-- ITS FALSE NEIGHBOUR: 'it returns false'. Refute it at one input. -/
def keymapCoversWrong : ChangeSpec := { name := "keymapCovers", fn := fun _ => fun
  | [d1, d2, d3] => { results := [.lit (.bool false)], args := [d1, d2, d3] }
  | _ => none }
def KeymapCoversWrongFalsely : Prop := keymapCoversRow.holds Try.pinned (OpenSpec.ofChange keymapCoversWrong)

/-- 'cordwainlaw13.FoldLast': WHATEVER THE INPUT: true; the input reads as it did. -/
def foldLastSpec : ChangeSpec := { name := "foldLast", fn := fun _ => fun
  | [d] => { results := [.lit (.bool true)], args := [d] }
  | _ => none }
def foldLastRow : OpenClaim := { program := "ytbbekgliaedigaa", sum := "c71832cab47dc557251b09d337a9a87fe5871d94ff3e1ca0b29cecf59ce679ff", func := "cordwain/cordwainlaw13.FoldLast", spec := "foldLast", unfollowed := true, recurses := true, apart := false }
def FoldLastSaid : Prop := foldLastRow.holds Try.pinned (OpenSpec.ofChange foldLastSpec)

/-- ITS FALSE NEIGHBOUR: 'it returns false'. Refute it at one input. -/
def foldLastWrong : ChangeSpec := { name := "foldLast", fn := fun _ => fun
  | [d] => { results := [.lit (.bool false)], args := [d] }
  | _ => none }
def FoldLastWrongFalsely : Prop := foldLastRow.holds Try.pinned (OpenSpec.ofChange foldLastWrong)

/-- 'cordwainlaw13.FoldAsks': WHATEVER THE INPUT: true; the input reads as it did. -/
def foldAsksSpec : ChangeSpec := { name := "foldAsks", fn := fun _ => fun
  | [d1, d2] => { results := [.lit (.bool true)], args := [d1, d2] }
  | _ => none }
def foldAsksRow : OpenClaim := { program := "ytbbekgliaedigaa", sum := "c71832cab47dc557251b09d337a9a87fe5871d94ff3e1ca0b29cecf59ce679ff", func := "cordwain/cordwainlaw13.FoldAsks", spec := "foldAsks", unfollowed := true, recurses := true, apart := false }
def FoldAsksSaid : Prop := foldAsksRow.holds Try.pinned (OpenSpec.ofChange foldAsksSpec)

/-- ITS FALSE NEIGHBOUR: 'it returns false'. Refute it at one input. -/
def foldAsksWrong : ChangeSpec := { name := "foldAsks", fn := fun _ => fun
  | [d1, d2] => { results := [.lit (.bool false)], args := [d1, d2] }
  | _ => none }
def FoldAsksWrongFalsely : Prop := foldAsksRow.holds Try.pinned (OpenSpec.ofChange foldAsksWrong)

/-- 'cordwainlaw13.FoldRestricts': WHATEVER THE INPUT: true; the input reads as it did. -/
def foldRestrictsSpec : ChangeSpec := { name := "foldRestricts", fn := fun _ => fun
  | [d1, d2, d3, d4, d5] => { results := [.lit (.bool true)], args := [d1, d2, d3, d4, d5] }
  | _ => none }
def foldRestrictsRow : OpenClaim := { program := "ytbbekgliaedigaa", sum := "c71832cab47dc557251b09d337a9a87fe5871d94ff3e1ca0b29cecf59ce679ff", func := "cordwain/cordwainlaw13.FoldRestricts", spec := "foldRestricts", unfollowed := true, recurses := true, apart := false }
def FoldRestrictsSaid : Prop := foldRestrictsRow.holds Try.pinned (OpenSpec.ofChange foldRestrictsSpec)

/-- ITS FALSE NEIGHBOUR: 'it returns false'. Refute it at one input. -/
def foldRestrictsWrong : ChangeSpec := { name := "foldRestricts", fn := fun _ => fun
  | [d1, d2, d3, d4, d5] => { results := [.lit (.bool false)], args := [d1, d2, d3, d4, d5] }
  | _ => none }
def FoldRestrictsWrongFalsely : Prop := foldRestrictsRow.holds Try.pinned (OpenSpec.ofChange foldRestrictsWrong)

/-- 'cordwainlaw13.FoldWhole': WHATEVER THE INPUT: true; the input reads as it did. -/
def foldWholeSpec : ChangeSpec := { name := "foldWhole", fn := fun _ => fun
  | [d1, d2] => { results := [.lit (.bool true)], args := [d1, d2] }
  | _ => none }
def foldWholeRow : OpenClaim := { program := "ytbbekgliaedigaa", sum := "c71832cab47dc557251b09d337a9a87fe5871d94ff3e1ca0b29cecf59ce679ff", func := "cordwain/cordwainlaw13.FoldWhole", spec := "foldWhole", unfollowed := true, recurses := true, apart := false }
def FoldWholeSaid : Prop := foldWholeRow.holds Try.pinned (OpenSpec.ofChange foldWholeSpec)

/-- ITS FALSE NEIGHBOUR: 'it returns false'. Refute it at one input. -/
def foldWholeWrong : ChangeSpec := { name := "foldWhole", fn := fun _ => fun
  | [d1, d2] => { results := [.lit (.bool false)], args := [d1, d2] }
  | _ => none }
def FoldWholeWrongFalsely : Prop := foldWholeRow.holds Try.pinned (OpenSpec.ofChange foldWholeWrong)

/-- 'cordwainlaw14.CleanGrace': WHATEVER THE INPUT: true; the input reads as it did. -/
def cleanGraceSpec : ChangeSpec := { name := "cleanGrace", fn := fun _ => fun
  | [d1, d2, d3, d4] => { results := [.lit (.bool true)], args := [d1, d2, d3, d4] }
  | _ => none }
def cleanGraceRow : OpenClaim := { program := "ytbbekgliaedigaa", sum := "c71832cab47dc557251b09d337a9a87fe5871d94ff3e1ca0b29cecf59ce679ff", func := "cordwain/cordwainlaw14.CleanGrace", spec := "cleanGrace", apart := false }
def CleanGraceSaid : Prop := cleanGraceRow.holds Try.pinned (OpenSpec.ofChange cleanGraceSpec)

/-- ITS FALSE NEIGHBOUR: 'it returns false'. Refute it at one input. -/
def cleanGraceWrong : ChangeSpec := { name := "cleanGrace", fn := fun _ => fun
  | [d1, d2, d3, d4] => { results := [.lit (.bool false)], args := [d1, d2, d3, d4] }
  | _ => none }
def CleanGraceWrongFalsely : Prop := cleanGraceRow.holds Try.pinned (OpenSpec.ofChange cleanGraceWrong)

/-- 'cordwainlaw14.CleanParts': WHATEVER THE INPUT: true; the input reads as it did. -/
def cleanPartsSpec : ChangeSpec := { name := "cleanParts", fn := fun _ => fun
  | [d1, d2, d3, d4, d5, d6, d7] => { results := [.lit (.bool true)], args := [d1, d2, d3, d4, d5, d6, d7] }
  | _ => none }
def cleanPartsRow : OpenClaim := { program := "ytbbekgliaedigaa", sum := "c71832cab47dc557251b09d337a9a87fe5871d94ff3e1ca0b29cecf59ce679ff", func := "cordwain/cordwainlaw14.CleanParts", spec := "cleanParts", apart := false }
def CleanPartsSaid : Prop := cleanPartsRow.holds Try.pinned (OpenSpec.ofChange cleanPartsSpec)

/-- ITS FALSE NEIGHBOUR: 'it returns false'. Refute it at one input. -/
def cleanPartsWrong : ChangeSpec := { name := "cleanParts", fn := fun _ => fun
  | [d1, d2, d3, d4, d5, d6, d7] => { results := [.lit (.bool false)], args := [d1, d2, d3, d4, d5, d6, d7] }
  | _ => none }
def CleanPartsWrongFalsely : Prop := cleanPartsRow.holds Try.pinned (OpenSpec.ofChange cleanPartsWrong)

/-- 'cordwainlaw23.NetKeeps': WHATEVER THE INPUT: true; the input reads as it did. -/
def netKeepsSpec : ChangeSpec := { name := "netKeeps", fn := fun _ => fun
  | [d1, d2] => { results := [.lit (.bool true)], args := [d1, d2] }
  | _ => none }
def netKeepsRow : OpenClaim := { program := "ytbbekgliaedigaa", sum := "c71832cab47dc557251b09d337a9a87fe5871d94ff3e1ca0b29cecf59ce679ff", func := "cordwain/cordwainlaw23.NetKeeps", spec := "netKeeps", unfollowed := true, recurses := true, apart := false }
def NetKeepsSaid : Prop := netKeepsRow.holds Try.pinned (OpenSpec.ofChange netKeepsSpec)

/-- ITS FALSE NEIGHBOUR: 'it returns false'. Refute it at one input. -/
def netKeepsWrong : ChangeSpec := { name := "netKeeps", fn := fun _ => fun
  | [d1, d2] => { results := [.lit (.bool false)], args := [d1, d2] }
  | _ => none }
def NetKeepsWrongFalsely : Prop := netKeepsRow.holds Try.pinned (OpenSpec.ofChange netKeepsWrong)

/-- 'cordwainlaw23.NetOrder': WHATEVER THE INPUT: true; the input reads as it did. -/
def netOrderSpec : ChangeSpec := { name := "netOrder", fn := fun _ => fun
  | [d1, d2] => { results := [.lit (.bool true)], args := [d1, d2] }
  | _ => none }
def netOrderRow : OpenClaim := { program := "ytbbekgliaedigaa", sum := "c71832cab47dc557251b09d337a9a87fe5871d94ff3e1ca0b29cecf59ce679ff", func := "cordwain/cordwainlaw23.NetOrder", spec := "netOrder", unfollowed := true, recurses := true, apart := false }
def NetOrderSaid : Prop := netOrderRow.holds Try.pinned (OpenSpec.ofChange netOrderSpec)

/-- ITS FALSE NEIGHBOUR: 'it returns false'. Refute it at one input. -/
def netOrderWrong : ChangeSpec := { name := "netOrder", fn := fun _ => fun
  | [d1, d2] => { results := [.lit (.bool false)], args := [d1, d2] }
  | _ => none }
def NetOrderWrongFalsely : Prop := netOrderRow.holds Try.pinned (OpenSpec.ofChange netOrderWrong)

/-- 'cordwainlaw23.NetPlays': WHATEVER THE INPUT: true; the input reads as it did. -/
def netPlaysSpec : ChangeSpec := { name := "netPlays", fn := fun _ => fun
  | [d1, d2] => { results := [.lit (.bool true)], args := [d1, d2] }
  | _ => none }
def netPlaysRow : OpenClaim := { program := "ytbbekgliaedigaa", sum := "c71832cab47dc557251b09d337a9a87fe5871d94ff3e1ca0b29cecf59ce679ff", func := "cordwain/cordwainlaw23.NetPlays", spec := "netPlays", unfollowed := true, recurses := true, apart := false }
def NetPlaysSaid : Prop := netPlaysRow.holds Try.pinned (OpenSpec.ofChange netPlaysSpec)

/-- ITS FALSE NEIGHBOUR: 'it returns false'. Refute it at one input. -/
def netPlaysWrong : ChangeSpec := { name := "netPlays", fn := fun _ => fun
  | [d1, d2] => { results := [.lit (.bool false)], args := [d1, d2] }
  | _ => none }
def NetPlaysWrongFalsely : Prop := netPlaysRow.holds Try.pinned (OpenSpec.ofChange netPlaysWrong)

/- THE SECOND FORM. 'bulk': how many values and letters a reading holds, each counted each time it is reached (what is shared counts as often as it is met; a slice's spare places count too). A statement '..UptoSaid' is the law's where the arguments, and the package variables that the reading takes, are together of bulk at most 1048576: NARROWER than '..Said'. Prove '..Said' where nothing that the law and all that it calls make is longer than what came in: it says more and counts as full. Else prove '..UptoSaid'. A law counts once. -/
mutual
def uptoBulk {H : Type} : DataW H → Nat
  | .lit (.string bytes) => bytes.length + 1
  | .lit _ => 1
  | .nil => 1
  | .ptr d => uptoBulk d + 1
  | .slice elems spare => uptoBulkAll elems + uptoBulkAll spare + 1
  | .agg parts => uptoBulkAll parts + 1
  | .iface _ d => uptoBulk d + 1
  | .map entries => uptoBulkEntries entries + 1
  | .held _ => 1
def uptoBulkAll {H : Type} : List (DataW H) → Nat
  | [] => 0
  | d :: r => uptoBulk d + uptoBulkAll r
def uptoBulkEntries {H : Type} : List (Lit × DataW H) → Nat
  | [] => 0
  | x :: r => uptoBulkEntry x + uptoBulkEntries r
def uptoBulkEntry {H : Type} : Lit × DataW H → Nat
  | (.string bytes, d) => bytes.length + uptoBulk d + 1
  | (_, d) => uptoBulk d + 1
 end
def uptoSmall : (H : Type) → List (DataW H) → Bool := fun _ ds => decide (uptoBulkAll ds ≤ 1048576)
def OpenSpec.upto (s : _root_.Go.ChangeSpec) : _root_.Go.OpenSpec := { _root_.Go.OpenSpec.ofChange s with cond := some uptoSmall }

/-- 'cordwainlaw12.KeymapPlays', WHERE WHAT IT READS IS OF BULK AT MOST 1048576: true; the input reads as it did. -/
def keymapPlaysUptoRow : OpenClaim := { program := "ytbbekgliaedigaa", sum := "c71832cab47dc557251b09d337a9a87fe5871d94ff3e1ca0b29cecf59ce679ff", func := "cordwain/cordwainlaw12.KeymapPlays", spec := "keymapPlays", unfollowed := true, recurses := true, apart := false, narrowed := true }
def KeymapPlaysUptoSaid : Prop := keymapPlaysUptoRow.holds Try.pinned (OpenSpec.upto keymapPlaysSpec)

/-- 'cordwainlaw12.KeymapBuilds', WHERE WHAT IT READS IS OF BULK AT MOST 1048576: true; the input reads as it did. -/
def keymapBuildsUptoRow : OpenClaim := { program := "ytbbekgliaedigaa", sum := "c71832cab47dc557251b09d337a9a87fe5871d94ff3e1ca0b29cecf59ce679ff", func := "cordwain/cordwainlaw12.KeymapBuilds", spec := "keymapBuilds", unfollowed := true, recurses := true, apart := false, narrowed := true }
def KeymapBuildsUptoSaid : Prop := keymapBuildsUptoRow.holds Try.pinned (OpenSpec.upto keymapBuildsSpec)

/-- 'cordwainlaw12.KeymapCovers', WHERE WHAT IT READS IS OF BULK AT MOST 1048576: true; the input reads as it did. -/
def keymapCoversUptoRow : OpenClaim := { program := "ytbbekgliaedigaa", sum := "c71832cab47dc557251b09d337a9a87fe5871d94ff3e1ca0b29cecf59ce679ff", func := "cordwain/cordwainlaw12.KeymapCovers", spec := "keymapCovers", apart := false, narrowed := true }
def KeymapCoversUptoSaid : Prop := keymapCoversUptoRow.holds Try.pinned (OpenSpec.upto keymapCoversSpec)

/-- 'cordwainlaw13.FoldLast', WHERE WHAT IT READS IS OF BULK AT MOST 1048576: true; the input reads as it did. -/
def foldLastUptoRow : OpenClaim := { program := "ytbbekgliaedigaa", sum := "c71832cab47dc557251b09d337a9a87fe5871d94ff3e1ca0b29cecf59ce679ff", func := "cordwain/cordwainlaw13.FoldLast", spec := "foldLast", unfollowed := true, recurses := true, apart := false, narrowed := true }
def FoldLastUptoSaid : Prop := foldLastUptoRow.holds Try.pinned (OpenSpec.upto foldLastSpec)

/-- 'cordwainlaw13.FoldAsks', WHERE WHAT IT READS IS OF BULK AT MOST 1048576: true; the input reads as it did. -/
def foldAsksUptoRow : OpenClaim := { program := "ytbbekgliaedigaa", sum := "c71832cab47dc557251b09d337a9a87fe5871d94ff3e1ca0b29cecf59ce679ff", func := "cordwain/cordwainlaw13.FoldAsks", spec := "foldAsks", unfollowed := true, recurses := true, apart := false, narrowed := true }
def FoldAsksUptoSaid : Prop := foldAsksUptoRow.holds Try.pinned (OpenSpec.upto foldAsksSpec)

/-- 'cordwainlaw13.FoldRestricts', WHERE WHAT IT READS IS OF BULK AT MOST 1048576: true; the input reads as it did. -/
def foldRestrictsUptoRow : OpenClaim := { program := "ytbbekgliaedigaa", sum := "c71832cab47dc557251b09d337a9a87fe5871d94ff3e1ca0b29cecf59ce679ff", func := "cordwain/cordwainlaw13.FoldRestricts", spec := "foldRestricts", unfollowed := true, recurses := true, apart := false, narrowed := true }
def FoldRestrictsUptoSaid : Prop := foldRestrictsUptoRow.holds Try.pinned (OpenSpec.upto foldRestrictsSpec)

/-- 'cordwainlaw13.FoldWhole', WHERE WHAT IT READS IS OF BULK AT MOST 1048576: true; the input reads as it did. -/
def foldWholeUptoRow : OpenClaim := { program := "ytbbekgliaedigaa", sum := "c71832cab47dc557251b09d337a9a87fe5871d94ff3e1ca0b29cecf59ce679ff", func := "cordwain/cordwainlaw13.FoldWhole", spec := "foldWhole", unfollowed := true, recurses := true, apart := false, narrowed := true }
def FoldWholeUptoSaid : Prop := foldWholeUptoRow.holds Try.pinned (OpenSpec.upto foldWholeSpec)

/-- 'cordwainlaw14.CleanGrace', WHERE WHAT IT READS IS OF BULK AT MOST 1048576: true; the input reads as it did. -/
def cleanGraceUptoRow : OpenClaim := { program := "ytbbekgliaedigaa", sum := "c71832cab47dc557251b09d337a9a87fe5871d94ff3e1ca0b29cecf59ce679ff", func := "cordwain/cordwainlaw14.CleanGrace", spec := "cleanGrace", apart := false, narrowed := true }
def CleanGraceUptoSaid : Prop := cleanGraceUptoRow.holds Try.pinned (OpenSpec.upto cleanGraceSpec)

/-- 'cordwainlaw14.CleanParts', WHERE WHAT IT READS IS OF BULK AT MOST 1048576: true; the input reads as it did. -/
def cleanPartsUptoRow : OpenClaim := { program := "ytbbekgliaedigaa", sum := "c71832cab47dc557251b09d337a9a87fe5871d94ff3e1ca0b29cecf59ce679ff", func := "cordwain/cordwainlaw14.CleanParts", spec := "cleanParts", apart := false, narrowed := true }
def CleanPartsUptoSaid : Prop := cleanPartsUptoRow.holds Try.pinned (OpenSpec.upto cleanPartsSpec)

/-- 'cordwainlaw23.NetKeeps', WHERE WHAT IT READS IS OF BULK AT MOST 1048576: true; the input reads as it did. -/
def netKeepsUptoRow : OpenClaim := { program := "ytbbekgliaedigaa", sum := "c71832cab47dc557251b09d337a9a87fe5871d94ff3e1ca0b29cecf59ce679ff", func := "cordwain/cordwainlaw23.NetKeeps", spec := "netKeeps", unfollowed := true, recurses := true, apart := false, narrowed := true }
def NetKeepsUptoSaid : Prop := netKeepsUptoRow.holds Try.pinned (OpenSpec.upto netKeepsSpec)

/-- 'cordwainlaw23.NetOrder', WHERE WHAT IT READS IS OF BULK AT MOST 1048576: true; the input reads as it did. -/
def netOrderUptoRow : OpenClaim := { program := "ytbbekgliaedigaa", sum := "c71832cab47dc557251b09d337a9a87fe5871d94ff3e1ca0b29cecf59ce679ff", func := "cordwain/cordwainlaw23.NetOrder", spec := "netOrder", unfollowed := true, recurses := true, apart := false, narrowed := true }
def NetOrderUptoSaid : Prop := netOrderUptoRow.holds Try.pinned (OpenSpec.upto netOrderSpec)

/-- 'cordwainlaw23.NetPlays', WHERE WHAT IT READS IS OF BULK AT MOST 1048576: true; the input reads as it did. -/
def netPlaysUptoRow : OpenClaim := { program := "ytbbekgliaedigaa", sum := "c71832cab47dc557251b09d337a9a87fe5871d94ff3e1ca0b29cecf59ce679ff", func := "cordwain/cordwainlaw23.NetPlays", spec := "netPlays", unfollowed := true, recurses := true, apart := false, narrowed := true }
def NetPlaysUptoSaid : Prop := netPlaysUptoRow.holds Try.pinned (OpenSpec.upto netPlaysSpec)

end Rows
end Go.Proofs.Ytbbekgliaedigaa

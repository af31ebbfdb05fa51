/-
  No cell of these rows narrows 'for every input' (looked for: loops, veiled, ifaces, maps, wideKeys, modest, calm, conditions, laid).
  DERIVED. THE GIVEN ROWS OF THIS SEAT. 12 by the template 'for every input the law returns true; each argument reads behind the call as it read before'; 0 by the template 'total and deterministic' (their statements: YtgkocnnkknodhaaTotals.lean).
  GIVEN WITH THE SEED: the statements are not yours to turn. If you find one false, say at which input.
  Laid BY PROGRAM, IN A SANDBOX (cutbox-rows.mjs): the forced cells as the released guide's own fill.sh prints them over the translation c9570f8ad119a343… (all of the seat's roots in one cut). By AI agents, Wed Nov 11 2026. No macro, syntax, notation, axiom, sorry.
-/
import Derived.Test.YtgkocnnkknodhaaChecked
import GoSem.Claim
import GoSem.ClaimJoined
import GoSem.ClaimMapViews
import Derived.JoinedTies
import Derived.KernelRfl
namespace Go.Proofs.Ytgkocnnkknodhaa
/- THE CELL 'sum', in the pinned program and in every row, IS THE sha256 OF THE DUMP (.gsa) THAT YtgkocnnkknodhaaProg.lean LOADS. Nothing in Lean hashes anything: it is a label: what it is worth is what the hold of that sum in a sandbox is worth. -/
noncomputable def Try.pinned : Pinned := { name := "ytgkocnnkknodhaa", sum := "c9570f8ad119a34373eab26f2499c6cd005f4e3d0ce26ab523f1d522457f2ff5", checked := Try.checked }
namespace Rows
def none {H : Type} : Left H := { results := [], args := [] }

/-- 'cordwainlaw3.WireReads': WHATEVER THE INPUT: true; the input reads as it did. -/
def wireReadsSpec : ChangeSpec := { name := "wireReads", fn := fun _ => fun
  | [d1, d2, d3] => { results := [.lit (.bool true)], args := [d1, d2, d3] }
  | _ => none }
def wireReadsRow : OpenClaim := { program := "ytgkocnnkknodhaa", sum := "c9570f8ad119a34373eab26f2499c6cd005f4e3d0ce26ab523f1d522457f2ff5", func := "cordwain/cordwainlaw3.WireReads", spec := "wireReads", unfollowed := true, recurses := true, apart := false }
def WireReadsSaid : Prop := wireReadsRow.holds Try.pinned (OpenSpec.ofChange wireReadsSpec)

/-- ITS FALSE NEIGHBOUR: 'it returns false'. Refute it at one input. -/
def wireReadsWrong : ChangeSpec := { name := "wireReads", fn := fun _ => fun
  | [d1, d2, d3] => { results := [.lit (.bool false)], args := [d1, d2, d3] }
  | _ => none }
def WireReadsWrongFalsely : Prop := wireReadsRow.holds Try.pinned (OpenSpec.ofChange wireReadsWrong)

/-- 'cordwainlaw10.ProducerOnce': WHATEVER THE INPUT: true; the input reads as it did. -/
def producerOnceSpec : ChangeSpec := { name := "producerOnce", fn := fun _ => fun
  | [d1, d2] => { results := [.lit (.bool true)], args := [d1, d2] }
  | _ => none }
def producerOnceRow : OpenClaim := { program := "ytgkocnnkknodhaa", sum := "c9570f8ad119a34373eab26f2499c6cd005f4e3d0ce26ab523f1d522457f2ff5", func := "cordwain/cordwainlaw10.ProducerOnce", spec := "producerOnce", apart := false }
def ProducerOnceSaid : Prop := producerOnceRow.holds Try.pinned (OpenSpec.ofChange producerOnceSpec)

/-- ITS FALSE NEIGHBOUR: 'it returns false'. Refute it at one input. -/
def producerOnceWrong : ChangeSpec := { name := "producerOnce", fn := fun _ => fun
  | [d1, d2] => { results := [.lit (.bool false)], args := [d1, d2] }
  | _ => none }
def ProducerOnceWrongFalsely : Prop := producerOnceRow.holds Try.pinned (OpenSpec.ofChange producerOnceWrong)

/-- 'cordwainlaw10.ProducerEpochs': WHATEVER THE INPUT: true; the input reads as it did. -/
def producerEpochsSpec : ChangeSpec := { name := "producerEpochs", fn := fun _ => fun
  | [d1, d2, d3] => { results := [.lit (.bool true)], args := [d1, d2, d3] }
  | _ => none }
def producerEpochsRow : OpenClaim := { program := "ytgkocnnkknodhaa", sum := "c9570f8ad119a34373eab26f2499c6cd005f4e3d0ce26ab523f1d522457f2ff5", func := "cordwain/cordwainlaw10.ProducerEpochs", spec := "producerEpochs", apart := false }
def ProducerEpochsSaid : Prop := producerEpochsRow.holds Try.pinned (OpenSpec.ofChange producerEpochsSpec)

/-- ITS FALSE NEIGHBOUR: 'it returns false'. Refute it at one input. -/
def producerEpochsWrong : ChangeSpec := { name := "producerEpochs", fn := fun _ => fun
  | [d1, d2, d3] => { results := [.lit (.bool false)], args := [d1, d2, d3] }
  | _ => none }
def ProducerEpochsWrongFalsely : Prop := producerEpochsRow.holds Try.pinned (OpenSpec.ofChange producerEpochsWrong)

/-- 'cordwainlaw10.ProducerNothing': WHATEVER THE INPUT: true; the input reads as it did. -/
def producerNothingSpec : ChangeSpec := { name := "producerNothing", fn := fun _ => fun
  | [d1, d2] => { results := [.lit (.bool true)], args := [d1, d2] }
  | _ => none }
def producerNothingRow : OpenClaim := { program := "ytgkocnnkknodhaa", sum := "c9570f8ad119a34373eab26f2499c6cd005f4e3d0ce26ab523f1d522457f2ff5", func := "cordwain/cordwainlaw10.ProducerNothing", spec := "producerNothing", unfollowed := true, recurses := true, apart := false }
def ProducerNothingSaid : Prop := producerNothingRow.holds Try.pinned (OpenSpec.ofChange producerNothingSpec)

/-- ITS FALSE NEIGHBOUR: 'it returns false'. Refute it at one input. -/
def producerNothingWrong : ChangeSpec := { name := "producerNothing", fn := fun _ => fun
  | [d1, d2] => { results := [.lit (.bool false)], args := [d1, d2] }
  | _ => none }
def ProducerNothingWrongFalsely : Prop := producerNothingRow.holds Try.pinned (OpenSpec.ofChange producerNothingWrong)

/-- 'cordwainlaw10.ProducerApart': WHATEVER THE INPUT: true; the input reads as it did. -/
def producerApartSpec : ChangeSpec := { name := "producerApart", fn := fun _ => fun
  | [d1, d2] => { results := [.lit (.bool true)], args := [d1, d2] }
  | _ => none }
def producerApartRow : OpenClaim := { program := "ytgkocnnkknodhaa", sum := "c9570f8ad119a34373eab26f2499c6cd005f4e3d0ce26ab523f1d522457f2ff5", func := "cordwain/cordwainlaw10.ProducerApart", spec := "producerApart", unfollowed := true, recurses := true, apart := false }
def ProducerApartSaid : Prop := producerApartRow.holds Try.pinned (OpenSpec.ofChange producerApartSpec)

/-- ITS FALSE NEIGHBOUR: 'it returns false'. Refute it at one input. -/
def producerApartWrong : ChangeSpec := { name := "producerApart", fn := fun _ => fun
  | [d1, d2] => { results := [.lit (.bool false)], args := [d1, d2] }
  | _ => none }
def ProducerApartWrongFalsely : Prop := producerApartRow.holds Try.pinned (OpenSpec.ofChange producerApartWrong)

/-- 'cordwainlaw12.KeymapPlays': WHATEVER THE INPUT: true; the input reads as it did. -/
def keymapPlaysSpec : ChangeSpec := { name := "keymapPlays", fn := fun _ => fun
  | [d1, d2, d3, d4] => { results := [.lit (.bool true)], args := [d1, d2, d3, d4] }
  | _ => none }
def keymapPlaysRow : OpenClaim := { program := "ytgkocnnkknodhaa", sum := "c9570f8ad119a34373eab26f2499c6cd005f4e3d0ce26ab523f1d522457f2ff5", func := "cordwain/cordwainlaw12.KeymapPlays", spec := "keymapPlays", unfollowed := true, recurses := true, apart := false }
def KeymapPlaysSaid : Prop := keymapPlaysRow.holds Try.pinned (OpenSpec.ofChange keymapPlaysSpec)

/-- ITS FALSE NEIGHBOUR: 'it returns false'. Refute it at one input. -/
def keymapPlaysWrong : ChangeSpec := { name := "keymapPlays", fn := fun _ => fun
  | [d1, d2, d3, d4] => { results := [.lit (.bool false)], args := [d1, d2, d3, d4] }
  | _ => none }
def KeymapPlaysWrongFalsely : Prop := keymapPlaysRow.holds Try.pinned (OpenSpec.ofChange keymapPlaysWrong)

/-- 'cordwainlaw12.KeymapCovers': WHATEVER THE INPUT: true; the input reads as it did. -/
def keymapCoversSpec : ChangeSpec := { name := "keymapCovers", fn := fun _ => fun
  | [d1, d2, d3] => { results := [.lit (.bool true)], args := [d1, d2, d3] }
  | _ => none }
def keymapCoversRow : OpenClaim := { program := "ytgkocnnkknodhaa", sum := "c9570f8ad119a34373eab26f2499c6cd005f4e3d0ce26ab523f1d522457f2ff5", func := "cordwain/cordwainlaw12.KeymapCovers", spec := "keymapCovers", apart := false }
def KeymapCoversSaid : Prop := keymapCoversRow.holds Try.pinned (OpenSpec.ofChange keymapCoversSpec)

/-- ITS FALSE NEIGHBOUR: 'it returns false'. Refute it at one input. -/
def keymapCoversWrong : ChangeSpec := { name := "keymapCovers", fn := fun _ => fun
  | [d1, d2, d3] => { results := [.lit (.bool false)], args := [d1, d2, d3] }
  | _ => none }
def KeymapCoversWrongFalsely : Prop := keymapCoversRow.holds Try.pinned (OpenSpec.ofChange keymapCoversWrong)

/-- 'cordwainlaw13.FoldLast': WHATEVER THE INPUT: true; the input reads as it did. -/
def foldLastSpec : ChangeSpec := { name := "foldLast", fn := fun _ => fun
  | [d] => { results := [.lit (.bool true)], args := [d] }
  | _ => none }
def foldLastRow : OpenClaim := { program := "ytgkocnnkknodhaa", sum := "c9570f8ad119a34373eab26f2499c6cd005f4e3d0ce26ab523f1d522457f2ff5", func := "cordwain/cordwainlaw13.FoldLast", spec := "foldLast", unfollowed := true, recurses := true, apart := false }
def FoldLastSaid : Prop := foldLastRow.holds Try.pinned (OpenSpec.ofChange foldLastSpec)

/-- ITS FALSE NEIGHBOUR: 'it returns false'. Refute it at one input. -/
def foldLastWrong : ChangeSpec := { name := "foldLast", fn := fun _ => fun
  | [d] => { results := [.lit (.bool false)], args := [d] }
  | _ => none }
def FoldLastWrongFalsely : Prop := foldLastRow.holds Try.pinned (OpenSpec.ofChange foldLastWrong)

/-- 'cordwainlaw14.CleanGrace': WHATEVER THE INPUT: true; the input reads as it did. -/
def cleanGraceSpec : ChangeSpec := { name := "cleanGrace", fn := fun _ => fun
  | [d1, d2, d3, d4] => { results := [.lit (.bool true)], args := [d1, d2, d3, d4] }
  | _ => none }
def cleanGraceRow : OpenClaim := { program := "ytgkocnnkknodhaa", sum := "c9570f8ad119a34373eab26f2499c6cd005f4e3d0ce26ab523f1d522457f2ff5", func := "cordwain/cordwainlaw14.CleanGrace", spec := "cleanGrace", apart := false }
def CleanGraceSaid : Prop := cleanGraceRow.holds Try.pinned (OpenSpec.ofChange cleanGraceSpec)

/-- ITS FALSE NEIGHBOUR: 'it returns false'. Refute it at one input. -/
def cleanGraceWrong : ChangeSpec := { name := "cleanGrace", fn := fun _ => fun
  | [d1, d2, d3, d4] => { results := [.lit (.bool false)], args := [d1, d2, d3, d4] }
  | _ => none }
def CleanGraceWrongFalsely : Prop := cleanGraceRow.holds Try.pinned (OpenSpec.ofChange cleanGraceWrong)

/-- 'cordwainlaw23.NetPlays': WHATEVER THE INPUT: true; the input reads as it did. -/
def netPlaysSpec : ChangeSpec := { name := "netPlays", fn := fun _ => fun
  | [d1, d2] => { results := [.lit (.bool true)], args := [d1, d2] }
  | _ => none }
def netPlaysRow : OpenClaim := { program := "ytgkocnnkknodhaa", sum := "c9570f8ad119a34373eab26f2499c6cd005f4e3d0ce26ab523f1d522457f2ff5", func := "cordwain/cordwainlaw23.NetPlays", spec := "netPlays", unfollowed := true, recurses := true, apart := false }
def NetPlaysSaid : Prop := netPlaysRow.holds Try.pinned (OpenSpec.ofChange netPlaysSpec)

/-- ITS FALSE NEIGHBOUR: 'it returns false'. Refute it at one input. -/
def netPlaysWrong : ChangeSpec := { name := "netPlays", fn := fun _ => fun
  | [d1, d2] => { results := [.lit (.bool false)], args := [d1, d2] }
  | _ => none }
def NetPlaysWrongFalsely : Prop := netPlaysRow.holds Try.pinned (OpenSpec.ofChange netPlaysWrong)

/-- 'cordwainlaw23.NetKeeps': WHATEVER THE INPUT: true; the input reads as it did. -/
def netKeepsSpec : ChangeSpec := { name := "netKeeps", fn := fun _ => fun
  | [d1, d2] => { results := [.lit (.bool true)], args := [d1, d2] }
  | _ => none }
def netKeepsRow : OpenClaim := { program := "ytgkocnnkknodhaa", sum := "c9570f8ad119a34373eab26f2499c6cd005f4e3d0ce26ab523f1d522457f2ff5", func := "cordwain/cordwainlaw23.NetKeeps", spec := "netKeeps", unfollowed := true, recurses := true, apart := false }
def NetKeepsSaid : Prop := netKeepsRow.holds Try.pinned (OpenSpec.ofChange netKeepsSpec)

/-- ITS FALSE NEIGHBOUR: 'it returns false'. Refute it at one input. -/
def netKeepsWrong : ChangeSpec := { name := "netKeeps", fn := fun _ => fun
  | [d1, d2] => { results := [.lit (.bool false)], args := [d1, d2] }
  | _ => none }
def NetKeepsWrongFalsely : Prop := netKeepsRow.holds Try.pinned (OpenSpec.ofChange netKeepsWrong)

/-- 'cordwainlaw23.NetOrder': WHATEVER THE INPUT: true; the input reads as it did. -/
def netOrderSpec : ChangeSpec := { name := "netOrder", fn := fun _ => fun
  | [d1, d2] => { results := [.lit (.bool true)], args := [d1, d2] }
  | _ => none }
def netOrderRow : OpenClaim := { program := "ytgkocnnkknodhaa", sum := "c9570f8ad119a34373eab26f2499c6cd005f4e3d0ce26ab523f1d522457f2ff5", func := "cordwain/cordwainlaw23.NetOrder", spec := "netOrder", unfollowed := true, recurses := true, apart := false }
def NetOrderSaid : Prop := netOrderRow.holds Try.pinned (OpenSpec.ofChange netOrderSpec)

/-- ITS FALSE NEIGHBOUR: 'it returns false'. Refute it at one input. -/
def netOrderWrong : ChangeSpec := { name := "netOrder", fn := fun _ => fun
  | [d1, d2] => { results := [.lit (.bool false)], args := [d1, d2] }
  | _ => none }
def NetOrderWrongFalsely : Prop := netOrderRow.holds Try.pinned (OpenSpec.ofChange netOrderWrong)

/- THE SECOND FORM. 'bulk': how many values and letters a reading holds, each counted each time it is reached (what is shared counts as often as it is met; a slice's spare places count too). A statement '..UptoSaid' is the law's where the arguments, and the package variables that the reading takes, are together of bulk at most 1048576: NARROWER than '..Said'. Prove '..Said' where nothing that the law and all that it calls make is longer than what came in: it says more and counts as full. Else prove '..UptoSaid'. A law counts once. -/
mutual
def uptoBulk {H : Type} : DataW H → Nat
  | .lit (.string bytes) => bytes.length + 1
  | .lit _ => 1
  | .nil => 1
  | .ptr d => uptoBulk d + 1
  | .slice elems spare => uptoBulkAll elems + uptoBulkAll spare + 1
  | .agg parts => uptoBulkAll parts + 1
  | .iface _ d => uptoBulk d + 1
  | .map entries => uptoBulkEntries entries + 1
  | .held _ => 1
def uptoBulkAll {H : Type} : List (DataW H) → Nat
  | [] => 0
  | d :: r => uptoBulk d + uptoBulkAll r
def uptoBulkEntries {H : Type} : List (Lit × DataW H) → Nat
  | [] => 0
  | x :: r => uptoBulkEntry x + uptoBulkEntries r
def uptoBulkEntry {H : Type} : Lit × DataW H → Nat
  | (.string bytes, d) => bytes.length + uptoBulk d + 1
  | (_, d) => uptoBulk d + 1
 end
def uptoSmall : (H : Type) → List (DataW H) → Bool := fun _ ds => decide (uptoBulkAll ds ≤ 1048576)
def OpenSpec.upto (s : _root_.Go.ChangeSpec) : _root_.Go.OpenSpec := { _root_.Go.OpenSpec.ofChange s with cond := some uptoSmall }

/-- 'cordwainlaw3.WireReads', WHERE WHAT IT READS IS OF BULK AT MOST 1048576: true; the input reads as it did. -/
def wireReadsUptoRow : OpenClaim := { program := "ytgkocnnkknodhaa", sum := "c9570f8ad119a34373eab26f2499c6cd005f4e3d0ce26ab523f1d522457f2ff5", func := "cordwain/cordwainlaw3.WireReads", spec := "wireReads", unfollowed := true, recurses := true, apart := false, narrowed := true }
def WireReadsUptoSaid : Prop := wireReadsUptoRow.holds Try.pinned (OpenSpec.upto wireReadsSpec)

/-- 'cordwainlaw10.ProducerOnce', WHERE WHAT IT READS IS OF BULK AT MOST 1048576: true; the input reads as it did. -/
def producerOnceUptoRow : OpenClaim := { program := "ytgkocnnkknodhaa", sum := "c9570f8ad119a34373eab26f2499c6cd005f4e3d0ce26ab523f1d522457f2ff5", func := "cordwain/cordwainlaw10.ProducerOnce", spec := "producerOnce", apart := false, narrowed := true }
def ProducerOnceUptoSaid : Prop := producerOnceUptoRow.holds Try.pinned (OpenSpec.upto producerOnceSpec)

/-- 'cordwainlaw10.ProducerEpochs', WHERE WHAT IT READS IS OF BULK AT MOST 1048576: true; the input reads as it did. -/
def producerEpochsUptoRow : OpenClaim := { program := "ytgkocnnkknodhaa", sum := "c9570f8ad119a34373eab26f2499c6cd005f4e3d0ce26ab523f1d522457f2ff5", func := "cordwain/cordwainlaw10.ProducerEpochs", spec := "producerEpochs", apart := false, narrowed := true }
def ProducerEpochsUptoSaid : Prop := producerEpochsUptoRow.holds Try.pinned (OpenSpec.upto producerEpochsSpec)

/-- 'cordwainlaw10.ProducerNothing', WHERE WHAT IT READS IS OF BULK AT MOST 1048576: true; the input reads as it did. -/
def producerNothingUptoRow : OpenClaim := { program := "ytgkocnnkknodhaa", sum := "c9570f8ad119a34373eab26f2499c6cd005f4e3d0ce26ab523f1d522457f2ff5", func := "cordwain/cordwainlaw10.ProducerNothing", spec := "producerNothing", unfollowed := true, recurses := true, apart := false, narrowed := true }
def ProducerNothingUptoSaid : Prop := producerNothingUptoRow.holds Try.pinned (OpenSpec.upto producerNothingSpec)

/-- 'cordwainlaw10.ProducerApart', WHERE WHAT IT READS IS OF BULK AT MOST 1048576: true; the input reads as it did. -/
def producerApartUptoRow : OpenClaim := { program := "ytgkocnnkknodhaa", sum := "c9570f8ad119a34373eab26f2499c6cd005f4e3d0ce26ab523f1d522457f2ff5", func := "cordwain/cordwainlaw10.ProducerApart", spec := "producerApart", unfollowed := true, recurses := true, apart := false, narrowed := true }
def ProducerApartUptoSaid : Prop := producerApartUptoRow.holds Try.pinned (OpenSpec.upto producerApartSpec)

/-- 'cordwainlaw12.KeymapPlays', WHERE WHAT IT READS IS OF BULK AT MOST 1048576: true; the input reads as it did. -/
def keymapPlaysUptoRow : OpenClaim := { program := "ytgkocnnkknodhaa", sum := "c9570f8ad119a34373eab26f2499c6cd005f4e3d0ce26ab523f1d522457f2ff5", func := "cordwain/cordwainlaw12.KeymapPlays", spec := "keymapPlays", unfollowed := true, recurses := true, apart := false, narrowed := true }
def KeymapPlaysUptoSaid : Prop := keymapPlaysUptoRow.holds Try.pinned (OpenSpec.upto keymapPlaysSpec)

/-- 'cordwainlaw12.KeymapCovers', WHERE WHAT IT READS IS OF BULK AT MOST 1048576: true; the input reads as it did. -/
def keymapCoversUptoRow : OpenClaim := { program := "ytgkocnnkknodhaa", sum := "c9570f8ad119a34373eab26f2499c6cd005f4e3d0ce26ab523f1d522457f2ff5", func := "cordwain/cordwainlaw12.KeymapCovers", spec := "keymapCovers", apart := false, narrowed := true }
def KeymapCoversUptoSaid : Prop := keymapCoversUptoRow.holds Try.pinned (OpenSpec.upto keymapCoversSpec)

/-- 'cordwainlaw13.FoldLast', WHERE WHAT IT READS IS OF BULK AT MOST 1048576: true; the input reads as it did. -/
def foldLastUptoRow : OpenClaim := { program := "ytgkocnnkknodhaa", sum := "c9570f8ad119a34373eab26f2499c6cd005f4e3d0ce26ab523f1d522457f2ff5", func := "cordwain/cordwainlaw13.FoldLast", spec := "foldLast", unfollowed := true, recurses := true, apart := false, narrowed := true }
def FoldLastUptoSaid : Prop := foldLastUptoRow.holds Try.pinned (OpenSpec.upto foldLastSpec)

/-- 'cordwainlaw14.CleanGrace', WHERE WHAT IT READS IS OF BULK AT MOST 1048576: true; the input reads as it did. -/
def cleanGraceUptoRow : OpenClaim := { program := "ytgkocnnkknodhaa", sum := "c9570f8ad119a34373eab26f2499c6cd005f4e3d0ce26ab523f1d522457f2ff5", func := "cordwain/cordwainlaw14.CleanGrace", spec := "cleanGrace", apart := false, narrowed := true }
def CleanGraceUptoSaid : Prop := cleanGraceUptoRow.holds Try.pinned (OpenSpec.upto cleanGraceSpec)

/-- 'cordwainlaw23.NetPlays', WHERE WHAT IT READS IS OF BULK AT MOST 1048576: true; the input reads as it did. -/
def netPlaysUptoRow : OpenClaim := { program := "ytgkocnnkknodhaa", sum := "c9570f8ad119a34373eab26f2499c6cd005f4e3d0ce26ab523f1d522457f2ff5", func := "cordwain/cordwainlaw23.NetPlays", spec := "netPlays", unfollowed := true, recurses := true, apart := false, narrowed := true }
def NetPlaysUptoSaid : Prop := netPlaysUptoRow.holds Try.pinned (OpenSpec.upto netPlaysSpec)

/-- 'cordwainlaw23.NetKeeps', WHERE WHAT IT READS IS OF BULK AT MOST 1048576: true; the input reads as it did. -/
def netKeepsUptoRow : OpenClaim := { program := "ytgkocnnkknodhaa", sum := "c9570f8ad119a34373eab26f2499c6cd005f4e3d0ce26ab523f1d522457f2ff5", func := "cordwain/cordwainlaw23.NetKeeps", spec := "netKeeps", unfollowed := true, recurses := true, apart := false, narrowed := true }
def NetKeepsUptoSaid : Prop := netKeepsUptoRow.holds Try.pinned (OpenSpec.upto netKeepsSpec)

/-- 'cordwainlaw23.NetOrder', WHERE WHAT IT READS IS OF BULK AT MOST 1048576: true; the input reads as it did. -/
def netOrderUptoRow : OpenClaim := { program := "ytgkocnnkknodhaa", sum := "c9570f8ad119a34373eab26f2499c6cd005f4e3d0ce26ab523f1d522457f2ff5", func := "cordwain/cordwainlaw23.NetOrder", spec := "netOrder", unfollowed := true, recurses := true, apart := false, narrowed := true }
def NetOrderUptoSaid : Prop := netOrderUptoRow.holds Try.pinned (OpenSpec.upto netOrderSpec)

end Rows
end Go.Proofs.Ytgkocnnkknodhaa

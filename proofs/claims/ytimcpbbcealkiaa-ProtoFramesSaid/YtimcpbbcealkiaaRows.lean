/-
  No cell of these rows narrows 'for every input' (looked for: loops, veiled, ifaces, maps, wideKeys, modest, calm, conditions, laid).
  DERIVED. THE GIVEN ROWS OF THIS SEAT. 5 by the template 'for every input the law returns true; each argument reads behind the call as it read before'; 0 by the template 'total and deterministic' (their statements: YtimcpbbcealkiaaTotals.lean).
  GIVEN WITH THE SEED: the statements are not yours to turn. If you find one false, say at which input.
  Laid BY PROGRAM, IN A SANDBOX (cutbox-rows.mjs): the forced cells as the released guide's own fill.sh prints them over the translation aebfdae788e14deb… (all of the seat's roots in one cut). By AI agents, Wed Nov 11 2026. No macro, syntax, notation, axiom, sorry.
-/
import Derived.Test.YtimcpbbcealkiaaChecked
import GoSem.Claim
import GoSem.ClaimJoined
import GoSem.ClaimMapViews
import Derived.JoinedTies
import Derived.KernelRfl
namespace Go.Proofs.Ytimcpbbcealkiaa
/- THE CELL 'sum', in the pinned program and in every row, IS THE sha256 OF THE DUMP (.gsa) THAT YtimcpbbcealkiaaProg.lean LOADS. Nothing in Lean hashes anything: it is a label: what it is worth is what the hold of that sum in a sandbox is worth. -/
noncomputable def Try.pinned : Pinned := { name := "ytimcpbbcealkiaa", sum := "aebfdae788e14deb04f0b722d3cf9c35bab91d0c3964cf10146959f6af2b88ea", checked := Try.checked }
namespace Rows
def none {H : Type} : Left H := { results := [], args := [] }

/-- 'cordwainlaw20.ProtoRequests': WHATEVER THE INPUT: true; the input reads as it did. -/
def protoRequestsSpec : ChangeSpec := { name := "protoRequests", fn := fun _ => fun
  | [d1, d2] => { results := [.lit (.bool true)], args := [d1, d2] }
  | _ => none }
def protoRequestsRow : OpenClaim := { program := "ytimcpbbcealkiaa", sum := "aebfdae788e14deb04f0b722d3cf9c35bab91d0c3964cf10146959f6af2b88ea", func := "cordwain/cordwainlaw20.ProtoRequests", spec := "protoRequests", unfollowed := true, recurses := true, apart := false }
def ProtoRequestsSaid : Prop := protoRequestsRow.holds Try.pinned (OpenSpec.ofChange protoRequestsSpec)

/-- ITS FALSE NEIGHBOUR: 'it returns false'. Refute it at one input. -/
def protoRequestsWrong : ChangeSpec := { name := "protoRequests", fn := fun _ => fun
  | [d1, d2] => { results := [.lit (.bool false)], args := [d1, d2] }
  | _ => none }
def ProtoRequestsWrongFalsely : Prop := protoRequestsRow.holds Try.pinned (OpenSpec.ofChange protoRequestsWrong)

/-- 'cordwainlaw20.ProtoBack': WHATEVER THE INPUT: true; the input reads as it did. -/
def protoBackSpec : ChangeSpec := { name := "protoBack", fn := fun _ => fun
  | [d1, d2, d3, d4] => { results := [.lit (.bool true)], args := [d1, d2, d3, d4] }
  | _ => none }
def protoBackRow : OpenClaim := { program := "ytimcpbbcealkiaa", sum := "aebfdae788e14deb04f0b722d3cf9c35bab91d0c3964cf10146959f6af2b88ea", func := "cordwain/cordwainlaw20.ProtoBack", spec := "protoBack", unfollowed := true, recurses := true, apart := false }
def ProtoBackSaid : Prop := protoBackRow.holds Try.pinned (OpenSpec.ofChange protoBackSpec)

/-- ITS FALSE NEIGHBOUR: 'it returns false'. Refute it at one input. -/
def protoBackWrong : ChangeSpec := { name := "protoBack", fn := fun _ => fun
  | [d1, d2, d3, d4] => { results := [.lit (.bool false)], args := [d1, d2, d3, d4] }
  | _ => none }
def ProtoBackWrongFalsely : Prop := protoBackRow.holds Try.pinned (OpenSpec.ofChange protoBackWrong)

/-- 'cordwainlaw20.ProtoFrames': WHATEVER THE INPUT: true; the input reads as it did. -/
def protoFramesSpec : ChangeSpec := { name := "protoFrames", fn := fun _ => fun
  | [d1, d2, d3] => { results := [.lit (.bool true)], args := [d1, d2, d3] }
  | _ => none }
def protoFramesRow : OpenClaim := { program := "ytimcpbbcealkiaa", sum := "aebfdae788e14deb04f0b722d3cf9c35bab91d0c3964cf10146959f6af2b88ea", func := "cordwain/cordwainlaw20.ProtoFrames", spec := "protoFrames", unfollowed := true, recurses := true, apart := false }
def ProtoFramesSaid : Prop := protoFramesRow.holds Try.pinned (OpenSpec.ofChange protoFramesSpec)

/-- ITS FALSE NEIGHBOUR: 'it returns false'. Refute it at one input. -/
def protoFramesWrong : ChangeSpec := { name := "protoFrames", fn := fun _ => fun
  | [d1, d2, d3] => { results := [.lit (.bool false)], args := [d1, d2, d3] }
  | _ => none }
def ProtoFramesWrongFalsely : Prop := protoFramesRow.holds Try.pinned (OpenSpec.ofChange protoFramesWrong)

/-- 'cordwainlaw20.ProtoSame': WHATEVER THE INPUT: true; the input reads as it did. -/
def protoSameSpec : ChangeSpec := { name := "protoSame", fn := fun _ => fun
  | [d1, d2, d3, d4] => { results := [.lit (.bool true)], args := [d1, d2, d3, d4] }
  | _ => none }
def protoSameRow : OpenClaim := { program := "ytimcpbbcealkiaa", sum := "aebfdae788e14deb04f0b722d3cf9c35bab91d0c3964cf10146959f6af2b88ea", func := "cordwain/cordwainlaw20.ProtoSame", spec := "protoSame", unfollowed := true, recurses := true, apart := false }
def ProtoSameSaid : Prop := protoSameRow.holds Try.pinned (OpenSpec.ofChange protoSameSpec)

/-- ITS FALSE NEIGHBOUR: 'it returns false'. Refute it at one input. -/
def protoSameWrong : ChangeSpec := { name := "protoSame", fn := fun _ => fun
  | [d1, d2, d3, d4] => { results := [.lit (.bool false)], args := [d1, d2, d3, d4] }
  | _ => none }
def ProtoSameWrongFalsely : Prop := protoSameRow.holds Try.pinned (OpenSpec.ofChange protoSameWrong)

/-- 'cordwainlaw20.ProtoKinds': WHATEVER THE INPUT: true; the input reads as it did. -/
def protoKindsSpec : ChangeSpec := { name := "protoKinds", fn := fun _ => fun
  | [d1, d2, d3, d4] => { results := [.lit (.bool true)], args := [d1, d2, d3, d4] }
  | _ => none }
def protoKindsRow : OpenClaim := { program := "ytimcpbbcealkiaa", sum := "aebfdae788e14deb04f0b722d3cf9c35bab91d0c3964cf10146959f6af2b88ea", func := "cordwain/cordwainlaw20.ProtoKinds", spec := "protoKinds", unfollowed := true, recurses := true, apart := false }
def ProtoKindsSaid : Prop := protoKindsRow.holds Try.pinned (OpenSpec.ofChange protoKindsSpec)

/-- ITS FALSE NEIGHBOUR: 'it returns false'. Refute it at one input. -/
def protoKindsWrong : ChangeSpec := { name := "protoKinds", fn := fun _ => fun
  | [d1, d2, d3, d4] => { results := [.lit (.bool false)], args := [d1, d2, d3, d4] }
  | _ => none }
def ProtoKindsWrongFalsely : Prop := protoKindsRow.holds Try.pinned (OpenSpec.ofChange protoKindsWrong)

/- THE SECOND FORM. 'bulk': how many values and letters a reading holds, each counted each time it is reached (what is shared counts as often as it is met; a slice's spare places count too). A statement '..UptoSaid' is the law's where the arguments, and the package variables that the reading takes, are together of bulk at most 1048576: NARROWER than '..Said'. Prove '..Said' where nothing that the law and all that it calls make is longer than what came in: it says more and counts as full. Else prove '..UptoSaid'. A law counts once. -/
mutual
def uptoBulk {H : Type} : DataW H → Nat
  | .lit (.string bytes) => bytes.length + 1
  | .lit _ => 1
  | .nil => 1
  | .ptr d => uptoBulk d + 1
  | .slice elems spare => uptoBulkAll elems + uptoBulkAll spare + 1
  | .agg parts => uptoBulkAll parts + 1
  | .iface _ d => uptoBulk d + 1
  | .map entries => uptoBulkEntries entries + 1
  | .held _ => 1
def uptoBulkAll {H : Type} : List (DataW H) → Nat
  | [] => 0
  | d :: r => uptoBulk d + uptoBulkAll r
def uptoBulkEntries {H : Type} : List (Lit × DataW H) → Nat
  | [] => 0
  | x :: r => uptoBulkEntry x + uptoBulkEntries r
def uptoBulkEntry {H : Type} : Lit × DataW H → Nat
  | (.string bytes, d) => bytes.length + uptoBulk d + 1
  | (_, d) => uptoBulk d + 1
 end
def uptoSmall : (H : Type) → List (DataW H) → Bool := fun _ ds => decide (uptoBulkAll ds ≤ 1048576)
def OpenSpec.upto (s : _root_.Go.ChangeSpec) : _root_.Go.OpenSpec := { _root_.Go.OpenSpec.ofChange s with cond := some uptoSmall }

/-- 'cordwainlaw20.ProtoRequests', WHERE WHAT IT READS IS OF BULK AT MOST 1048576: true; the input reads as it did. -/
def protoRequestsUptoRow : OpenClaim := { program := "ytimcpbbcealkiaa", sum := "aebfdae788e14deb04f0b722d3cf9c35bab91d0c3964cf10146959f6af2b88ea", func := "cordwain/cordwainlaw20.ProtoRequests", spec := "protoRequests", unfollowed := true, recurses := true, apart := false, narrowed := true }
def ProtoRequestsUptoSaid : Prop := protoRequestsUptoRow.holds Try.pinned (OpenSpec.upto protoRequestsSpec)

/-- 'cordwainlaw20.ProtoBack', WHERE WHAT IT READS IS OF BULK AT MOST 1048576: true; the input reads as it did. -/
def protoBackUptoRow : OpenClaim := { program := "ytimcpbbcealkiaa", sum := "aebfdae788e14deb04f0b722d3cf9c35bab91d0c3964cf10146959f6af2b88ea", func := "cordwain/cordwainlaw20.ProtoBack", spec := "protoBack", unfollowed := true, recurses := true, apart := false, narrowed := true }
def ProtoBackUptoSaid : Prop := protoBackUptoRow.holds Try.pinned (OpenSpec.upto protoBackSpec)

/-- 'cordwainlaw20.ProtoFrames', WHERE WHAT IT READS IS OF BULK AT MOST 1048576: true; the input reads as it did. -/
def protoFramesUptoRow : OpenClaim := { program := "ytimcpbbcealkiaa", sum := "aebfdae788e14deb04f0b722d3cf9c35bab91d0c3964cf10146959f6af2b88ea", func := "cordwain/cordwainlaw20.ProtoFrames", spec := "protoFrames", unfollowed := true, recurses := true, apart := false, narrowed := true }
def ProtoFramesUptoSaid : Prop := protoFramesUptoRow.holds Try.pinned (OpenSpec.upto protoFramesSpec)

/-- 'cordwainlaw20.ProtoSame', WHERE WHAT IT READS IS OF BULK AT MOST 1048576: true; the input reads as it did. -/
def protoSameUptoRow : OpenClaim := { program := "ytimcpbbcealkiaa", sum := "aebfdae788e14deb04f0b722d3cf9c35bab91d0c3964cf10146959f6af2b88ea", func := "cordwain/cordwainlaw20.ProtoSame", spec := "protoSame", unfollowed := true, recurses := true, apart := false, narrowed := true }
def ProtoSameUptoSaid : Prop := protoSameUptoRow.holds Try.pinned (OpenSpec.upto protoSameSpec)

/-- 'cordwainlaw20.ProtoKinds', WHERE WHAT IT READS IS OF BULK AT MOST 1048576: true; the input reads as it did. -/
def protoKindsUptoRow : OpenClaim := { program := "ytimcpbbcealkiaa", sum := "aebfdae788e14deb04f0b722d3cf9c35bab91d0c3964cf10146959f6af2b88ea", func := "cordwain/cordwainlaw20.ProtoKinds", spec := "protoKinds", unfollowed := true, recurses := true, apart := false, narrowed := true }
def ProtoKindsUptoSaid : Prop := protoKindsUptoRow.holds Try.pinned (OpenSpec.upto protoKindsSpec)

end Rows
end Go.Proofs.Ytimcpbbcealkiaa

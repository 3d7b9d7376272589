/-
  No cell of these rows narrows 'for every input' (looked for: loops, veiled, ifaces, maps, wideKeys, modest, calm, conditions, laid).
  DERIVED. THE GIVEN ROWS OF THIS SEAT. 8 by the template 'for every input the law returns true; each argument reads behind the call as it read before'; 0 by the template 'total and deterministic' (their statements: YtodfcpblcpogiaaTotals.lean).
  GIVEN WITH THE SEED: the statements are not yours to turn. If you find one false, say at which input.
  Laid BY PROGRAM, IN A SANDBOX (cutbox-rows.mjs): the forced cells as the released guide's own fill.sh prints them over the translation 19ff84b3c8e86e23… (all of the seat's roots in one cut). By AI agents, Wed Nov 11 2026. No macro, syntax, notation, axiom, sorry.
-/
import Derived.Test.YtodfcpblcpogiaaChecked
import GoSem.Claim
import GoSem.ClaimJoined
import GoSem.ClaimMapViews
import Derived.JoinedTies
import Derived.KernelRfl
namespace Go.Proofs.Ytodfcpblcpogiaa
/- THE CELL 'sum', in the pinned program and in every row, IS THE sha256 OF THE DUMP (.gsa) THAT YtodfcpblcpogiaaProg.lean LOADS. Nothing in Lean hashes anything: it is a label: what it is worth is what the hold of that sum in a sandbox is worth. -/
noncomputable def Try.pinned : Pinned := { name := "ytodfcpblcpogiaa", sum := "19ff84b3c8e86e23c6aa4239aedfb0f4814fed4a472e545d88a9faf129002c61", checked := Try.checked }
namespace Rows
def none {H : Type} : Left H := { results := [], args := [] }

/-- 'roverkeep.Needed': WHATEVER THE INPUT: true; the input reads as it did. -/
def neededSpec : ChangeSpec := { name := "needed", fn := fun _ => fun
  | [d1, d2, d3, d4, d5] => { results := [.lit (.bool true)], args := [d1, d2, d3, d4, d5] }
  | _ => none }
def neededRow : OpenClaim := { program := "ytodfcpblcpogiaa", sum := "19ff84b3c8e86e23c6aa4239aedfb0f4814fed4a472e545d88a9faf129002c61", func := "rover/roverkeep.Needed", spec := "needed", unfollowed := true, recurses := true, plainKeys := false, apart := false }
def NeededSaid : Prop := neededRow.holds Try.pinned (OpenSpec.ofChange neededSpec)

/-- ITS FALSE NEIGHBOUR: 'it returns false'. Refute it at one input. -/
def neededWrong : ChangeSpec := { name := "needed", fn := fun _ => fun
  | [d1, d2, d3, d4, d5] => { results := [.lit (.bool false)], args := [d1, d2, d3, d4, d5] }
  | _ => none }
def NeededWrongFalsely : Prop := neededRow.holds Try.pinned (OpenSpec.ofChange neededWrong)

/-- 'roverkeep.Still': WHATEVER THE INPUT: true; the input reads as it did. -/
def stillSpec : ChangeSpec := { name := "still", fn := fun _ => fun
  | [d1, d2, d3, d4] => { results := [.lit (.bool true)], args := [d1, d2, d3, d4] }
  | _ => none }
def stillRow : OpenClaim := { program := "ytodfcpblcpogiaa", sum := "19ff84b3c8e86e23c6aa4239aedfb0f4814fed4a472e545d88a9faf129002c61", func := "rover/roverkeep.Still", spec := "still", unfollowed := true, recurses := true, plainKeys := false, apart := false }
def StillSaid : Prop := stillRow.holds Try.pinned (OpenSpec.ofChange stillSpec)

/-- ITS FALSE NEIGHBOUR: 'it returns false'. Refute it at one input. -/
def stillWrong : ChangeSpec := { name := "still", fn := fun _ => fun
  | [d1, d2, d3, d4] => { results := [.lit (.bool false)], args := [d1, d2, d3, d4] }
  | _ => none }
def StillWrongFalsely : Prop := stillRow.holds Try.pinned (OpenSpec.ofChange stillWrong)

/-- 'roverkeep.Once': WHATEVER THE INPUT: true; the input reads as it did. -/
def onceSpec : ChangeSpec := { name := "once", fn := fun _ => fun
  | [d1, d2] => { results := [.lit (.bool true)], args := [d1, d2] }
  | _ => none }
def onceRow : OpenClaim := { program := "ytodfcpblcpogiaa", sum := "19ff84b3c8e86e23c6aa4239aedfb0f4814fed4a472e545d88a9faf129002c61", func := "rover/roverkeep.Once", spec := "once", unfollowed := true, recurses := true, plainKeys := false, apart := false }
def OnceSaid : Prop := onceRow.holds Try.pinned (OpenSpec.ofChange onceSpec)

/-- ITS FALSE NEIGHBOUR: 'it returns false'. Refute it at one input. -/
def onceWrong : ChangeSpec := { name := "once", fn := fun _ => fun
  | [d1, d2] => { results := [.lit (.bool false)], args := [d1, d2] }
  | _ => none }
def OnceWrongFalsely : Prop := onceRow.holds Try.pinned (OpenSpec.ofChange onceWrong)

/-- 'roverkeep.Complete': WHATEVER THE INPUT: true; the input reads as it did. -/
def completeSpec : ChangeSpec := { name := "complete", fn := fun _ => fun
  | [d1, d2, d3] => { results := [.lit (.bool true)], args := [d1, d2, d3] }
  | _ => none }
def completeRow : OpenClaim := { program := "ytodfcpblcpogiaa", sum := "19ff84b3c8e86e23c6aa4239aedfb0f4814fed4a472e545d88a9faf129002c61", func := "rover/roverkeep.Complete", spec := "complete", unfollowed := true, recurses := true, plainKeys := false, apart := false }
def CompleteSaid : Prop := completeRow.holds Try.pinned (OpenSpec.ofChange completeSpec)

/-- ITS FALSE NEIGHBOUR: 'it returns false'. Refute it at one input. -/
def completeWrong : ChangeSpec := { name := "complete", fn := fun _ => fun
  | [d1, d2, d3] => { results := [.lit (.bool false)], args := [d1, d2, d3] }
  | _ => none }
def CompleteWrongFalsely : Prop := completeRow.holds Try.pinned (OpenSpec.ofChange completeWrong)

/-- 'roverkeep.Kept': WHATEVER THE INPUT: true; the input reads as it did. -/
def keptSpec : ChangeSpec := { name := "kept", fn := fun _ => fun
  | [d1, d2, d3, d4, d5] => { results := [.lit (.bool true)], args := [d1, d2, d3, d4, d5] }
  | _ => none }
def keptRow : OpenClaim := { program := "ytodfcpblcpogiaa", sum := "19ff84b3c8e86e23c6aa4239aedfb0f4814fed4a472e545d88a9faf129002c61", func := "rover/roverkeep.Kept", spec := "kept", unfollowed := true, recurses := true, plainKeys := false, apart := false }
def KeptSaid : Prop := keptRow.holds Try.pinned (OpenSpec.ofChange keptSpec)

/-- ITS FALSE NEIGHBOUR: 'it returns false'. Refute it at one input. -/
def keptWrong : ChangeSpec := { name := "kept", fn := fun _ => fun
  | [d1, d2, d3, d4, d5] => { results := [.lit (.bool false)], args := [d1, d2, d3, d4, d5] }
  | _ => none }
def KeptWrongFalsely : Prop := keptRow.holds Try.pinned (OpenSpec.ofChange keptWrong)

/-- 'roverkeep.Shut': WHATEVER THE INPUT: true; the input reads as it did. -/
def shutSpec : ChangeSpec := { name := "shut", fn := fun _ => fun
  | [d1, d2] => { results := [.lit (.bool true)], args := [d1, d2] }
  | _ => none }
def shutRow : OpenClaim := { program := "ytodfcpblcpogiaa", sum := "19ff84b3c8e86e23c6aa4239aedfb0f4814fed4a472e545d88a9faf129002c61", func := "rover/roverkeep.Shut", spec := "shut", unfollowed := true, recurses := true, plainKeys := false, apart := false }
def ShutSaid : Prop := shutRow.holds Try.pinned (OpenSpec.ofChange shutSpec)

/-- ITS FALSE NEIGHBOUR: 'it returns false'. Refute it at one input. -/
def shutWrong : ChangeSpec := { name := "shut", fn := fun _ => fun
  | [d1, d2] => { results := [.lit (.bool false)], args := [d1, d2] }
  | _ => none }
def ShutWrongFalsely : Prop := shutRow.holds Try.pinned (OpenSpec.ofChange shutWrong)

/-- 'roverkeep.Roams': WHATEVER THE INPUT: true; the input reads as it did. -/
def roamsSpec : ChangeSpec := { name := "roams", fn := fun _ => fun
  | [d1, d2, d3, d4] => { results := [.lit (.bool true)], args := [d1, d2, d3, d4] }
  | _ => none }
def roamsRow : OpenClaim := { program := "ytodfcpblcpogiaa", sum := "19ff84b3c8e86e23c6aa4239aedfb0f4814fed4a472e545d88a9faf129002c61", func := "rover/roverkeep.Roams", spec := "roams", unfollowed := true, recurses := true, plainKeys := false, apart := false }
def RoamsSaid : Prop := roamsRow.holds Try.pinned (OpenSpec.ofChange roamsSpec)

/-- ITS FALSE NEIGHBOUR: 'it returns false'. Refute it at one input. -/
def roamsWrong : ChangeSpec := { name := "roams", fn := fun _ => fun
  | [d1, d2, d3, d4] => { results := [.lit (.bool false)], args := [d1, d2, d3, d4] }
  | _ => none }
def RoamsWrongFalsely : Prop := roamsRow.holds Try.pinned (OpenSpec.ofChange roamsWrong)

/-- 'roverkeep.Over': WHATEVER THE INPUT: true; the input reads as it did. -/
def overSpec : ChangeSpec := { name := "over", fn := fun _ => fun
  | [d1, d2, d3, d4, d5] => { results := [.lit (.bool true)], args := [d1, d2, d3, d4, d5] }
  | _ => none }
def overRow : OpenClaim := { program := "ytodfcpblcpogiaa", sum := "19ff84b3c8e86e23c6aa4239aedfb0f4814fed4a472e545d88a9faf129002c61", func := "rover/roverkeep.Over", spec := "over", unfollowed := true, recurses := true, plainKeys := false, apart := false }
def OverSaid : Prop := overRow.holds Try.pinned (OpenSpec.ofChange overSpec)

/-- ITS FALSE NEIGHBOUR: 'it returns false'. Refute it at one input. -/
def overWrong : ChangeSpec := { name := "over", fn := fun _ => fun
  | [d1, d2, d3, d4, d5] => { results := [.lit (.bool false)], args := [d1, d2, d3, d4, d5] }
  | _ => none }
def OverWrongFalsely : Prop := overRow.holds Try.pinned (OpenSpec.ofChange overWrong)

/- THE SECOND FORM. 'bulk': how many values and letters a reading holds, each counted each time it is reached (what is shared counts as often as it is met; a slice's spare places count too). A statement '..UptoSaid' is the law's where the arguments, and the package variables that the reading takes, are together of bulk at most 1048576: NARROWER than '..Said'. Prove '..Said' where nothing that the law and all that it calls make is longer than what came in: it says more and counts as full. Else prove '..UptoSaid'. A law counts once. -/
mutual
def uptoBulk {H : Type} : DataW H → Nat
  | .lit (.string bytes) => bytes.length + 1
  | .lit _ => 1
  | .nil => 1
  | .ptr d => uptoBulk d + 1
  | .slice elems spare => uptoBulkAll elems + uptoBulkAll spare + 1
  | .agg parts => uptoBulkAll parts + 1
  | .iface _ d => uptoBulk d + 1
  | .map entries => uptoBulkEntries entries + 1
  | .held _ => 1
def uptoBulkAll {H : Type} : List (DataW H) → Nat
  | [] => 0
  | d :: r => uptoBulk d + uptoBulkAll r
def uptoBulkEntries {H : Type} : List (Lit × DataW H) → Nat
  | [] => 0
  | x :: r => uptoBulkEntry x + uptoBulkEntries r
def uptoBulkEntry {H : Type} : Lit × DataW H → Nat
  | (.string bytes, d) => bytes.length + uptoBulk d + 1
  | (_, d) => uptoBulk d + 1
 end
def uptoSmall : (H : Type) → List (DataW H) → Bool := fun _ ds => decide (uptoBulkAll ds ≤ 1048576)
def OpenSpec.upto (s : _root_.Go.ChangeSpec) : _root_.Go.OpenSpec := { _root_.Go.OpenSpec.ofChange s with cond := some uptoSmall }

/-- 'roverkeep.Needed', WHERE WHAT IT READS IS OF BULK AT MOST 1048576: true; the input reads as it did. -/
def neededUptoRow : OpenClaim := { program := "ytodfcpblcpogiaa", sum := "19ff84b3c8e86e23c6aa4239aedfb0f4814fed4a472e545d88a9faf129002c61", func := "rover/roverkeep.Needed", spec := "needed", unfollowed := true, recurses := true, plainKeys := false, apart := false, narrowed := true }
def NeededUptoSaid : Prop := neededUptoRow.holds Try.pinned (OpenSpec.upto neededSpec)

/-- 'roverkeep.Still', WHERE WHAT IT READS IS OF BULK AT MOST 1048576: true; the input reads as it did. -/
def stillUptoRow : OpenClaim := { program := "ytodfcpblcpogiaa", sum := "19ff84b3c8e86e23c6aa4239aedfb0f4814fed4a472e545d88a9faf129002c61", func := "rover/roverkeep.Still", spec := "still", unfollowed := true, recurses := true, plainKeys := false, apart := false, narrowed := true }
def StillUptoSaid : Prop := stillUptoRow.holds Try.pinned (OpenSpec.upto stillSpec)

/-- 'roverkeep.Once', WHERE WHAT IT READS IS OF BULK AT MOST 1048576: true; the input reads as it did. -/
def onceUptoRow : OpenClaim := { program := "ytodfcpblcpogiaa", sum := "19ff84b3c8e86e23c6aa4239aedfb0f4814fed4a472e545d88a9faf129002c61", func := "rover/roverkeep.Once", spec := "once", unfollowed := true, recurses := true, plainKeys := false, apart := false, narrowed := true }
def OnceUptoSaid : Prop := onceUptoRow.holds Try.pinned (OpenSpec.upto onceSpec)

/-- 'roverkeep.Complete', WHERE WHAT IT READS IS OF BULK AT MOST 1048576: true; the input reads as it did. -/
def completeUptoRow : OpenClaim := { program := "ytodfcpblcpogiaa", sum := "19ff84b3c8e86e23c6aa4239aedfb0f4814fed4a472e545d88a9faf129002c61", func := "rover/roverkeep.Complete", spec := "complete", unfollowed := true, recurses := true, plainKeys := false, apart := false, narrowed := true }
def CompleteUptoSaid : Prop := completeUptoRow.holds Try.pinned (OpenSpec.upto completeSpec)

/-- 'roverkeep.Kept', WHERE WHAT IT READS IS OF BULK AT MOST 1048576: true; the input reads as it did. -/
def keptUptoRow : OpenClaim := { program := "ytodfcpblcpogiaa", sum := "19ff84b3c8e86e23c6aa4239aedfb0f4814fed4a472e545d88a9faf129002c61", func := "rover/roverkeep.Kept", spec := "kept", unfollowed := true, recurses := true, plainKeys := false, apart := false, narrowed := true }
def KeptUptoSaid : Prop := keptUptoRow.holds Try.pinned (OpenSpec.upto keptSpec)

/-- 'roverkeep.Shut', WHERE WHAT IT READS IS OF BULK AT MOST 1048576: true; the input reads as it did. -/
def shutUptoRow : OpenClaim := { program := "ytodfcpblcpogiaa", sum := "19ff84b3c8e86e23c6aa4239aedfb0f4814fed4a472e545d88a9faf129002c61", func := "rover/roverkeep.Shut", spec := "shut", unfollowed := true, recurses := true, plainKeys := false, apart := false, narrowed := true }
def ShutUptoSaid : Prop := shutUptoRow.holds Try.pinned (OpenSpec.upto shutSpec)

/-- 'roverkeep.Roams', WHERE WHAT IT READS IS OF BULK AT MOST 1048576: true; the input reads as it did. -/
def roamsUptoRow : OpenClaim := { program := "ytodfcpblcpogiaa", sum := "19ff84b3c8e86e23c6aa4239aedfb0f4814fed4a472e545d88a9faf129002c61", func := "rover/roverkeep.Roams", spec := "roams", unfollowed := true, recurses := true, plainKeys := false, apart := false, narrowed := true }
def RoamsUptoSaid : Prop := roamsUptoRow.holds Try.pinned (OpenSpec.upto roamsSpec)

/-- 'roverkeep.Over', WHERE WHAT IT READS IS OF BULK AT MOST 1048576: true; the input reads as it did. -/
def overUptoRow : OpenClaim := { program := "ytodfcpblcpogiaa", sum := "19ff84b3c8e86e23c6aa4239aedfb0f4814fed4a472e545d88a9faf129002c61", func := "rover/roverkeep.Over", spec := "over", unfollowed := true, recurses := true, plainKeys := false, apart := false, narrowed := true }
def OverUptoSaid : Prop := overUptoRow.holds Try.pinned (OpenSpec.upto overSpec)

end Rows
end Go.Proofs.Ytodfcpblcpogiaa

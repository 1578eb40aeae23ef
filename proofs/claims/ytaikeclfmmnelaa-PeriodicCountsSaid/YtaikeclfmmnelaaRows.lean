/-
  No cell of these rows narrows 'for every input' (looked for: loops, veiled, ifaces, maps, wideKeys, modest, calm, conditions, laid).
  DERIVED. THE GIVEN ROWS OF THIS SEAT. 9 by the template 'for every input the law returns true; each argument reads behind the call as it read before'; 0 by the template 'total and deterministic' (their statements: YtaikeclfmmnelaaTotals.lean).
  GIVEN WITH THE SEED: the statements are not yours to turn. If you find one false, say at which input.
  Laid BY PROGRAM, IN A SANDBOX (cutbox-rows.mjs): the forced cells as the released guide's own fill.sh prints them over the translation 9d4bd09c41329562… (all of the seat's roots in one cut). By AI agents, Wed Nov 11 2026. No macro, syntax, notation, axiom, sorry.
-/
import Derived.Test.YtaikeclfmmnelaaChecked
import GoSem.Claim
import GoSem.ClaimJoined
import GoSem.ClaimMapViews
import Derived.JoinedTies
import Derived.KernelRfl
namespace Go.Proofs.Ytaikeclfmmnelaa
/- THE CELL 'sum', in the pinned program and in every row, IS THE sha256 OF THE DUMP (.gsa) THAT YtaikeclfmmnelaaProg.lean LOADS. Nothing in Lean hashes anything: it is a label: what it is worth is what the hold of that sum in a sandbox is worth. -/
noncomputable def Try.pinned : Pinned := { name := "ytaikeclfmmnelaa", sum := "9d4bd09c4132956297b6f05b11d96972507eb284cefeacd50eb4090ae8c5c97b", checked := Try.checked }
namespace Rows
def none {H : Type} : Left H := { results := [], args := [] }

/-- 'civiltimelaw13.PeriodicValid': WHATEVER THE INPUT: true; the input reads as it did. -/
def periodicValidSpec : ChangeSpec := { name := "periodicValid", fn := fun _ => fun
  | [d1, d2, d3] => { results := [.lit (.bool true)], args := [d1, d2, d3] }
  | _ => none }
def periodicValidRow : OpenClaim := { program := "ytaikeclfmmnelaa", sum := "9d4bd09c4132956297b6f05b11d96972507eb284cefeacd50eb4090ae8c5c97b", func := "civiltime/civiltimelaw13.PeriodicValid", spec := "periodicValid", unfollowed := true, recurses := true, apart := false }
def PeriodicValidSaid : Prop := periodicValidRow.holds Try.pinned (OpenSpec.ofChange periodicValidSpec)

/-- ITS FALSE NEIGHBOUR: 'it returns false'. Refute it at one input. -/
def periodicValidWrong : ChangeSpec := { name := "periodicValid", fn := fun _ => fun
  | [d1, d2, d3] => { results := [.lit (.bool false)], args := [d1, d2, d3] }
  | _ => none }
def PeriodicValidWrongFalsely : Prop := periodicValidRow.holds Try.pinned (OpenSpec.ofChange periodicValidWrong)

/-- 'civiltimelaw13.PeriodicOf': WHATEVER THE INPUT: true; the input reads as it did. -/
def periodicOfSpec : ChangeSpec := { name := "periodicOf", fn := fun _ => fun
  | [d1, d2] => { results := [.lit (.bool true)], args := [d1, d2] }
  | _ => none }
def periodicOfRow : OpenClaim := { program := "ytaikeclfmmnelaa", sum := "9d4bd09c4132956297b6f05b11d96972507eb284cefeacd50eb4090ae8c5c97b", func := "civiltime/civiltimelaw13.PeriodicOf", spec := "periodicOf", unfollowed := true, recurses := true, apart := false }
def PeriodicOfSaid : Prop := periodicOfRow.holds Try.pinned (OpenSpec.ofChange periodicOfSpec)

/-- ITS FALSE NEIGHBOUR: 'it returns false'. Refute it at one input. -/
def periodicOfWrong : ChangeSpec := { name := "periodicOf", fn := fun _ => fun
  | [d1, d2] => { results := [.lit (.bool false)], args := [d1, d2] }
  | _ => none }
def PeriodicOfWrongFalsely : Prop := periodicOfRow.holds Try.pinned (OpenSpec.ofChange periodicOfWrong)

/-- 'civiltimelaw13.PeriodicCombines': WHATEVER THE INPUT: true; the input reads as it did. -/
def periodicCombinesSpec : ChangeSpec := { name := "periodicCombines", fn := fun _ => fun
  | [d1, d2, d3] => { results := [.lit (.bool true)], args := [d1, d2, d3] }
  | _ => none }
def periodicCombinesRow : OpenClaim := { program := "ytaikeclfmmnelaa", sum := "9d4bd09c4132956297b6f05b11d96972507eb284cefeacd50eb4090ae8c5c97b", func := "civiltime/civiltimelaw13.PeriodicCombines", spec := "periodicCombines", unfollowed := true, recurses := true, apart := false }
def PeriodicCombinesSaid : Prop := periodicCombinesRow.holds Try.pinned (OpenSpec.ofChange periodicCombinesSpec)

/-- ITS FALSE NEIGHBOUR: 'it returns false'. Refute it at one input. -/
def periodicCombinesWrong : ChangeSpec := { name := "periodicCombines", fn := fun _ => fun
  | [d1, d2, d3] => { results := [.lit (.bool false)], args := [d1, d2, d3] }
  | _ => none }
def PeriodicCombinesWrongFalsely : Prop := periodicCombinesRow.holds Try.pinned (OpenSpec.ofChange periodicCombinesWrong)

/-- 'civiltimelaw13.PeriodicPoints': WHATEVER THE INPUT: true; the input reads as it did. -/
def periodicPointsSpec : ChangeSpec := { name := "periodicPoints", fn := fun _ => fun
  | [d1, d2, d3, d4] => { results := [.lit (.bool true)], args := [d1, d2, d3, d4] }
  | _ => none }
def periodicPointsRow : OpenClaim := { program := "ytaikeclfmmnelaa", sum := "9d4bd09c4132956297b6f05b11d96972507eb284cefeacd50eb4090ae8c5c97b", func := "civiltime/civiltimelaw13.PeriodicPoints", spec := "periodicPoints", unfollowed := true, recurses := true, apart := false }
def PeriodicPointsSaid : Prop := periodicPointsRow.holds Try.pinned (OpenSpec.ofChange periodicPointsSpec)

/-- ITS FALSE NEIGHBOUR: 'it returns false'. Refute it at one input. -/
def periodicPointsWrong : ChangeSpec := { name := "periodicPoints", fn := fun _ => fun
  | [d1, d2, d3, d4] => { results := [.lit (.bool false)], args := [d1, d2, d3, d4] }
  | _ => none }
def PeriodicPointsWrongFalsely : Prop := periodicPointsRow.holds Try.pinned (OpenSpec.ofChange periodicPointsWrong)

/-- 'civiltimelaw13.PeriodicRepeats': WHATEVER THE INPUT: true; the input reads as it did. -/
def periodicRepeatsSpec : ChangeSpec := { name := "periodicRepeats", fn := fun _ => fun
  | [d1, d2, d3] => { results := [.lit (.bool true)], args := [d1, d2, d3] }
  | _ => none }
def periodicRepeatsRow : OpenClaim := { program := "ytaikeclfmmnelaa", sum := "9d4bd09c4132956297b6f05b11d96972507eb284cefeacd50eb4090ae8c5c97b", func := "civiltime/civiltimelaw13.PeriodicRepeats", spec := "periodicRepeats", unfollowed := true, recurses := true, apart := false }
def PeriodicRepeatsSaid : Prop := periodicRepeatsRow.holds Try.pinned (OpenSpec.ofChange periodicRepeatsSpec)

/-- ITS FALSE NEIGHBOUR: 'it returns false'. Refute it at one input. -/
def periodicRepeatsWrong : ChangeSpec := { name := "periodicRepeats", fn := fun _ => fun
  | [d1, d2, d3] => { results := [.lit (.bool false)], args := [d1, d2, d3] }
  | _ => none }
def PeriodicRepeatsWrongFalsely : Prop := periodicRepeatsRow.holds Try.pinned (OpenSpec.ofChange periodicRepeatsWrong)

/-- 'civiltimelaw13.PeriodicWindows': WHATEVER THE INPUT: true; the input reads as it did. -/
def periodicWindowsSpec : ChangeSpec := { name := "periodicWindows", fn := fun _ => fun
  | [d1, d2] => { results := [.lit (.bool true)], args := [d1, d2] }
  | _ => none }
def periodicWindowsRow : OpenClaim := { program := "ytaikeclfmmnelaa", sum := "9d4bd09c4132956297b6f05b11d96972507eb284cefeacd50eb4090ae8c5c97b", func := "civiltime/civiltimelaw13.PeriodicWindows", spec := "periodicWindows", unfollowed := true, recurses := true, apart := false }
def PeriodicWindowsSaid : Prop := periodicWindowsRow.holds Try.pinned (OpenSpec.ofChange periodicWindowsSpec)

/-- ITS FALSE NEIGHBOUR: 'it returns false'. Refute it at one input. -/
def periodicWindowsWrong : ChangeSpec := { name := "periodicWindows", fn := fun _ => fun
  | [d1, d2] => { results := [.lit (.bool false)], args := [d1, d2] }
  | _ => none }
def PeriodicWindowsWrongFalsely : Prop := periodicWindowsRow.holds Try.pinned (OpenSpec.ofChange periodicWindowsWrong)

/-- 'civiltimelaw13.PeriodicCounts': WHATEVER THE INPUT: true; the input reads as it did. -/
def periodicCountsSpec : ChangeSpec := { name := "periodicCounts", fn := fun _ => fun
  | [d1, d2, d3, d4] => { results := [.lit (.bool true)], args := [d1, d2, d3, d4] }
  | _ => none }
def periodicCountsRow : OpenClaim := { program := "ytaikeclfmmnelaa", sum := "9d4bd09c4132956297b6f05b11d96972507eb284cefeacd50eb4090ae8c5c97b", func := "civiltime/civiltimelaw13.PeriodicCounts", spec := "periodicCounts", unfollowed := true, recurses := true, apart := false }
def PeriodicCountsSaid : Prop := periodicCountsRow.holds Try.pinned (OpenSpec.ofChange periodicCountsSpec)

/-- ITS FALSE NEIGHBOUR: 'it returns false'. Refute it at one input. -/
def periodicCountsWrong : ChangeSpec := { name := "periodicCounts", fn := fun _ => fun
  | [d1, d2, d3, d4] => { results := [.lit (.bool false)], args := [d1, d2, d3, d4] }
  | _ => none }
def PeriodicCountsWrongFalsely : Prop := periodicCountsRow.holds Try.pinned (OpenSpec.ofChange periodicCountsWrong)

/-- 'civiltimelaw13.PeriodicNext': WHATEVER THE INPUT: true; the input reads as it did. -/
def periodicNextSpec : ChangeSpec := { name := "periodicNext", fn := fun _ => fun
  | [d1, d2] => { results := [.lit (.bool true)], args := [d1, d2] }
  | _ => none }
def periodicNextRow : OpenClaim := { program := "ytaikeclfmmnelaa", sum := "9d4bd09c4132956297b6f05b11d96972507eb284cefeacd50eb4090ae8c5c97b", func := "civiltime/civiltimelaw13.PeriodicNext", spec := "periodicNext", unfollowed := true, recurses := true, apart := false }
def PeriodicNextSaid : Prop := periodicNextRow.holds Try.pinned (OpenSpec.ofChange periodicNextSpec)

/-- ITS FALSE NEIGHBOUR: 'it returns false'. Refute it at one input. -/
def periodicNextWrong : ChangeSpec := { name := "periodicNext", fn := fun _ => fun
  | [d1, d2] => { results := [.lit (.bool false)], args := [d1, d2] }
  | _ => none }
def PeriodicNextWrongFalsely : Prop := periodicNextRow.holds Try.pinned (OpenSpec.ofChange periodicNextWrong)

/-- 'civiltimelaw13.PeriodicWithin': WHATEVER THE INPUT: true; the input reads as it did. -/
def periodicWithinSpec : ChangeSpec := { name := "periodicWithin", fn := fun _ => fun
  | [d1, d2] => { results := [.lit (.bool true)], args := [d1, d2] }
  | _ => none }
def periodicWithinRow : OpenClaim := { program := "ytaikeclfmmnelaa", sum := "9d4bd09c4132956297b6f05b11d96972507eb284cefeacd50eb4090ae8c5c97b", func := "civiltime/civiltimelaw13.PeriodicWithin", spec := "periodicWithin", unfollowed := true, recurses := true, apart := false }
def PeriodicWithinSaid : Prop := periodicWithinRow.holds Try.pinned (OpenSpec.ofChange periodicWithinSpec)

/-- ITS FALSE NEIGHBOUR: 'it returns false'. Refute it at one input. -/
def periodicWithinWrong : ChangeSpec := { name := "periodicWithin", fn := fun _ => fun
  | [d1, d2] => { results := [.lit (.bool false)], args := [d1, d2] }
  | _ => none }
def PeriodicWithinWrongFalsely : Prop := periodicWithinRow.holds Try.pinned (OpenSpec.ofChange periodicWithinWrong)

/- THE SECOND FORM. 'bulk': how many values and letters a reading holds, each counted each time it is reached (what is shared counts as often as it is met; a slice's spare places count too). A statement '..UptoSaid' is the law's where the arguments, and the package variables that the reading takes, are together of bulk at most 1048576: NARROWER than '..Said'. Prove '..Said' where nothing that the law and all that it calls make is longer than what came in: it says more and counts as full. Else prove '..UptoSaid'. A law counts once. -/
mutual
def uptoBulk {H : Type} : DataW H → Nat
  | .lit (.string bytes) => bytes.length + 1
  | .lit _ => 1
  | .nil => 1
  | .ptr d => uptoBulk d + 1
  | .slice elems spare => uptoBulkAll elems + uptoBulkAll spare + 1
  | .agg parts => uptoBulkAll parts + 1
  | .iface _ d => uptoBulk d + 1
  | .map entries => uptoBulkEntries entries + 1
  | .held _ => 1
def uptoBulkAll {H : Type} : List (DataW H) → Nat
  | [] => 0
  | d :: r => uptoBulk d + uptoBulkAll r
def uptoBulkEntries {H : Type} : List (Lit × DataW H) → Nat
  | [] => 0
  | x :: r => uptoBulkEntry x + uptoBulkEntries r
def uptoBulkEntry {H : Type} : Lit × DataW H → Nat
  | (.string bytes, d) => bytes.length + uptoBulk d + 1
  | (_, d) => uptoBulk d + 1
 end
def uptoSmall : (H : Type) → List (DataW H) → Bool := fun _ ds => decide (uptoBulkAll ds ≤ 1048576)
def OpenSpec.upto (s : _root_.Go.ChangeSpec) : _root_.Go.OpenSpec := { _root_.Go.OpenSpec.ofChange s with cond := some uptoSmall }

/-- 'civiltimelaw13.PeriodicValid', WHERE WHAT IT READS IS OF BULK AT MOST 1048576: true; the input reads as it did. -/
def periodicValidUptoRow : OpenClaim := { program := "ytaikeclfmmnelaa", sum := "9d4bd09c4132956297b6f05b11d96972507eb284cefeacd50eb4090ae8c5c97b", func := "civiltime/civiltimelaw13.PeriodicValid", spec := "periodicValid", unfollowed := true, recurses := true, apart := false, narrowed := true }
def PeriodicValidUptoSaid : Prop := periodicValidUptoRow.holds Try.pinned (OpenSpec.upto periodicValidSpec)

/-- 'civiltimelaw13.PeriodicOf', WHERE WHAT IT READS IS OF BULK AT MOST 1048576: true; the input reads as it did. -/
def periodicOfUptoRow : OpenClaim := { program := "ytaikeclfmmnelaa", sum := "9d4bd09c4132956297b6f05b11d96972507eb284cefeacd50eb4090ae8c5c97b", func := "civiltime/civiltimelaw13.PeriodicOf", spec := "periodicOf", unfollowed := true, recurses := true, apart := false, narrowed := true }
def PeriodicOfUptoSaid : Prop := periodicOfUptoRow.holds Try.pinned (OpenSpec.upto periodicOfSpec)

/-- 'civiltimelaw13.PeriodicCombines', WHERE WHAT IT READS IS OF BULK AT MOST 1048576: true; the input reads as it did. -/
def periodicCombinesUptoRow : OpenClaim := { program := "ytaikeclfmmnelaa", sum := "9d4bd09c4132956297b6f05b11d96972507eb284cefeacd50eb4090ae8c5c97b", func := "civiltime/civiltimelaw13.PeriodicCombines", spec := "periodicCombines", unfollowed := true, recurses := true, apart := false, narrowed := true }
def PeriodicCombinesUptoSaid : Prop := periodicCombinesUptoRow.holds Try.pinned (OpenSpec.upto periodicCombinesSpec)

/-- 'civiltimelaw13.PeriodicPoints', WHERE WHAT IT READS IS OF BULK AT MOST 1048576: true; the input reads as it did. -/
def periodicPointsUptoRow : OpenClaim := { program := "ytaikeclfmmnelaa", sum := "9d4bd09c4132956297b6f05b11d96972507eb284cefeacd50eb4090ae8c5c97b", func := "civiltime/civiltimelaw13.PeriodicPoints", spec := "periodicPoints", unfollowed := true, recurses := true, apart := false, narrowed := true }
def PeriodicPointsUptoSaid : Prop := periodicPointsUptoRow.holds Try.pinned (OpenSpec.upto periodicPointsSpec)

/-- 'civiltimelaw13.PeriodicRepeats', WHERE WHAT IT READS IS OF BULK AT MOST 1048576: true; the input reads as it did. -/
def periodicRepeatsUptoRow : OpenClaim := { program := "ytaikeclfmmnelaa", sum := "9d4bd09c4132956297b6f05b11d96972507eb284cefeacd50eb4090ae8c5c97b", func := "civiltime/civiltimelaw13.PeriodicRepeats", spec := "periodicRepeats", unfollowed := true, recurses := true, apart := false, narrowed := true }
def PeriodicRepeatsUptoSaid : Prop := periodicRepeatsUptoRow.holds Try.pinned (OpenSpec.upto periodicRepeatsSpec)

/-- 'civiltimelaw13.PeriodicWindows', WHERE WHAT IT READS IS OF BULK AT MOST 1048576: true; the input reads as it did. -/
def periodicWindowsUptoRow : OpenClaim := { program := "ytaikeclfmmnelaa", sum := "9d4bd09c4132956297b6f05b11d96972507eb284cefeacd50eb4090ae8c5c97b", func := "civiltime/civiltimelaw13.PeriodicWindows", spec := "periodicWindows", unfollowed := true, recurses := true, apart := false, narrowed := true }
def PeriodicWindowsUptoSaid : Prop := periodicWindowsUptoRow.holds Try.pinned (OpenSpec.upto periodicWindowsSpec)

/-- 'civiltimelaw13.PeriodicCounts', WHERE WHAT IT READS IS OF BULK AT MOST 1048576: true; the input reads as it did. -/
def periodicCountsUptoRow : OpenClaim := { program := "ytaikeclfmmnelaa", sum := "9d4bd09c4132956297b6f05b11d96972507eb284cefeacd50eb4090ae8c5c97b", func := "civiltime/civiltimelaw13.PeriodicCounts", spec := "periodicCounts", unfollowed := true, recurses := true, apart := false, narrowed := true }
def PeriodicCountsUptoSaid : Prop := periodicCountsUptoRow.holds Try.pinned (OpenSpec.upto periodicCountsSpec)

/-- 'civiltimelaw13.PeriodicNext', WHERE WHAT IT READS IS OF BULK AT MOST 1048576: true; the input reads as it did. -/
def periodicNextUptoRow : OpenClaim := { program := "ytaikeclfmmnelaa", sum := "9d4bd09c4132956297b6f05b11d96972507eb284cefeacd50eb4090ae8c5c97b", func := "civiltime/civiltimelaw13.PeriodicNext", spec := "periodicNext", unfollowed := true, recurses := true, apart := false, narrowed := true }
def PeriodicNextUptoSaid : Prop := periodicNextUptoRow.holds Try.pinned (OpenSpec.upto periodicNextSpec)

/-- 'civiltimelaw13.PeriodicWithin', WHERE WHAT IT READS IS OF BULK AT MOST 1048576: true; the input reads as it did. -/
def periodicWithinUptoRow : OpenClaim := { program := "ytaikeclfmmnelaa", sum := "9d4bd09c4132956297b6f05b11d96972507eb284cefeacd50eb4090ae8c5c97b", func := "civiltime/civiltimelaw13.PeriodicWithin", spec := "periodicWithin", unfollowed := true, recurses := true, apart := false, narrowed := true }
def PeriodicWithinUptoSaid : Prop := periodicWithinUptoRow.holds Try.pinned (OpenSpec.upto periodicWithinSpec)

end Rows
end Go.Proofs.Ytaikeclfmmnelaa

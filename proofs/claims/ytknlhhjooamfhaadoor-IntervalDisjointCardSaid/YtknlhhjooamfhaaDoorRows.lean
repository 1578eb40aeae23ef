/-
  NARROWER THAN 'FOR EVERY INPUT', by the rows' own cells (each row's printed sentence says how): IntervalRelations: laid · IntervalParts: laid · IntervalPoints: laid · IntervalNames: laid · IntervalInverse: laid · IntervalCovers: laid · IntervalMoves: laid · IntervalDisjoint: laid.
  DERIVED. THE GIVEN ROWS OF THIS SEAT. 8 by the template 'for every input the law returns true; each argument reads behind the call as it read before'; 0 by the template 'total and deterministic' (their statements: YtknlhhjooamfhaaDoorTotals.lean).
  GIVEN WITH THE SEED: the statements are not yours to turn. If you find one false, say at which input.
  Laid BY PROGRAM, IN A SANDBOX (cutbox-rows.mjs): the forced cells as the released guide's own fill.sh prints them over the translation 827cf507aefe168e… (all of the seat's roots in one cut). By AI agents, Wed Nov 11 2026. No macro, syntax, notation, axiom, sorry.
-/
import Derived.Test.YtknlhhjooamfhaaDoorChecked
import GoSem.Claim
import GoSem.ClaimJoined
import GoSem.ClaimMapViews
import Derived.JoinedTies
import Derived.KernelRfl
namespace Go.Proofs.YtknlhhjooamfhaaDoor
/- THE CELL 'sum', in the pinned program and in every row, IS THE sha256 OF THE DUMP (.gsa) THAT YtknlhhjooamfhaaDoorProg.lean LOADS. Nothing in Lean hashes anything: it is a label: what it is worth is what the hold of that sum in a sandbox is worth. -/
noncomputable def Tryd.pinned : Pinned := { name := "ytknlhhjooamfhaadoor", sum := "827cf507aefe168edac1668fab571c3009cc1bc115e7eef9dfa84599b2e2664f", checked := Tryd.checked }
namespace Rows
def none {H : Type} : Left H := { results := [], args := [] }

/- WHAT THE LISTED PACKAGE-LEVEL VARIABLES READ AS WHEN THE CALL BEGINS. Each datum BY PROGRAM (the guide's laid-datum.mjs) off the statement by which the dump's own 'gosem.cut.vars' lays the variable. In a bare row this is a premise. The card (YtknlhhjooamfhaaDoorCards.lean) ties it to the program's text. -/
def laid_civiltime_interval_names {H : Type} : DataW H := .agg [.lit (.string [98, 101, 102, 111, 114, 101]), .lit (.string [109, 101, 101, 116, 115]), .lit (.string [111, 118, 101, 114, 108, 97, 112, 115]), .lit (.string [115, 116, 97, 114, 116, 115]), .lit (.string [100, 117, 114, 105, 110, 103]), .lit (.string [102, 105, 110, 105, 115, 104, 101, 115]), .lit (.string [101, 113, 117, 97, 108, 115]), .lit (.string [102, 105, 110, 105, 115, 104, 101, 100, 98, 121]), .lit (.string [99, 111, 110, 116, 97, 105, 110, 115]), .lit (.string [115, 116, 97, 114, 116, 101, 100, 98, 121]), .lit (.string [111, 118, 101, 114, 108, 97, 112, 112, 101, 100, 98, 121]), .lit (.string [109, 101, 116, 98, 121]), .lit (.string [97, 102, 116, 101, 114])]
def laid_civiltime_interval_sharing {H : Type} : DataW H := .agg [.agg [.lit (.int .i64 2), .lit (.int .i64 7), .lit (.int .i64 8)], .agg [.lit (.int .i64 3), .lit (.int .i64 6), .lit (.int .i64 9)], .agg [.lit (.int .i64 4), .lit (.int .i64 5), .lit (.int .i64 10)]]

/-- 'civiltimelaw10.IntervalRelations': WHATEVER THE INPUT: true; the input reads as it did. -/
def intervalRelationsSpec : ChangeSpec := { name := "intervalRelations", fn := fun _ => fun
  | [d1, d2, d3] => { results := [.lit (.bool true)], args := [d1, d2, d3] }
  | _ => none }
def intervalRelationsRow : OpenClaim := { program := "ytknlhhjooamfhaadoor", sum := "827cf507aefe168edac1668fab571c3009cc1bc115e7eef9dfa84599b2e2664f", func := "civiltime/civiltimelaw10.IntervalRelations", spec := "intervalRelations", named := ["civiltime/interval.sharing", "civiltime/interval.names"], apart := false, laid := [("civiltime/interval.names", laid_civiltime_interval_names), ("civiltime/interval.sharing", laid_civiltime_interval_sharing)] }
def IntervalRelationsSaid : Prop := intervalRelationsRow.holds Tryd.pinned (OpenSpec.ofChange intervalRelationsSpec)

/-- ITS FALSE NEIGHBOUR: 'it returns false'. Refute it at one input. -/
def intervalRelationsWrong : ChangeSpec := { name := "intervalRelations", fn := fun _ => fun
  | [d1, d2, d3] => { results := [.lit (.bool false)], args := [d1, d2, d3] }
  | _ => none }
def IntervalRelationsWrongFalsely : Prop := intervalRelationsRow.holds Tryd.pinned (OpenSpec.ofChange intervalRelationsWrong)

/-- 'civiltimelaw10.IntervalParts': WHATEVER THE INPUT: true; the input reads as it did. -/
def intervalPartsSpec : ChangeSpec := { name := "intervalParts", fn := fun _ => fun
  | [d1, d2] => { results := [.lit (.bool true)], args := [d1, d2] }
  | _ => none }
def intervalPartsRow : OpenClaim := { program := "ytknlhhjooamfhaadoor", sum := "827cf507aefe168edac1668fab571c3009cc1bc115e7eef9dfa84599b2e2664f", func := "civiltime/civiltimelaw10.IntervalParts", spec := "intervalParts", named := ["civiltime/interval.sharing", "civiltime/interval.names"], apart := false, laid := [("civiltime/interval.names", laid_civiltime_interval_names), ("civiltime/interval.sharing", laid_civiltime_interval_sharing)] }
def IntervalPartsSaid : Prop := intervalPartsRow.holds Tryd.pinned (OpenSpec.ofChange intervalPartsSpec)

/-- ITS FALSE NEIGHBOUR: 'it returns false'. Refute it at one input. -/
def intervalPartsWrong : ChangeSpec := { name := "intervalParts", fn := fun _ => fun
  | [d1, d2] => { results := [.lit (.bool false)], args := [d1, d2] }
  | _ => none }
def IntervalPartsWrongFalsely : Prop := intervalPartsRow.holds Tryd.pinned (OpenSpec.ofChange intervalPartsWrong)

/-- 'civiltimelaw10.IntervalPoints': WHATEVER THE INPUT: true; the input reads as it did. -/
def intervalPointsSpec : ChangeSpec := { name := "intervalPoints", fn := fun _ => fun
  | [d1, d2, d3] => { results := [.lit (.bool true)], args := [d1, d2, d3] }
  | _ => none }
def intervalPointsRow : OpenClaim := { program := "ytknlhhjooamfhaadoor", sum := "827cf507aefe168edac1668fab571c3009cc1bc115e7eef9dfa84599b2e2664f", func := "civiltime/civiltimelaw10.IntervalPoints", spec := "intervalPoints", named := ["civiltime/interval.sharing", "civiltime/interval.names"], apart := false, laid := [("civiltime/interval.names", laid_civiltime_interval_names), ("civiltime/interval.sharing", laid_civiltime_interval_sharing)] }
def IntervalPointsSaid : Prop := intervalPointsRow.holds Tryd.pinned (OpenSpec.ofChange intervalPointsSpec)

/-- ITS FALSE NEIGHBOUR: 'it returns false'. Refute it at one input. -/
def intervalPointsWrong : ChangeSpec := { name := "intervalPoints", fn := fun _ => fun
  | [d1, d2, d3] => { results := [.lit (.bool false)], args := [d1, d2, d3] }
  | _ => none }
def IntervalPointsWrongFalsely : Prop := intervalPointsRow.holds Tryd.pinned (OpenSpec.ofChange intervalPointsWrong)

/-- 'civiltimelaw10.IntervalNames': WHATEVER THE INPUT: true; the input reads as it did. -/
def intervalNamesSpec : ChangeSpec := { name := "intervalNames", fn := fun _ => fun
  | [d1, d2] => { results := [.lit (.bool true)], args := [d1, d2] }
  | _ => none }
def intervalNamesRow : OpenClaim := { program := "ytknlhhjooamfhaadoor", sum := "827cf507aefe168edac1668fab571c3009cc1bc115e7eef9dfa84599b2e2664f", func := "civiltime/civiltimelaw10.IntervalNames", spec := "intervalNames", named := ["civiltime/interval.sharing", "civiltime/interval.names"], apart := false, laid := [("civiltime/interval.names", laid_civiltime_interval_names), ("civiltime/interval.sharing", laid_civiltime_interval_sharing)] }
def IntervalNamesSaid : Prop := intervalNamesRow.holds Tryd.pinned (OpenSpec.ofChange intervalNamesSpec)

/-- ITS FALSE NEIGHBOUR: 'it returns false'. Refute it at one input. -/
def intervalNamesWrong : ChangeSpec := { name := "intervalNames", fn := fun _ => fun
  | [d1, d2] => { results := [.lit (.bool false)], args := [d1, d2] }
  | _ => none }
def IntervalNamesWrongFalsely : Prop := intervalNamesRow.holds Tryd.pinned (OpenSpec.ofChange intervalNamesWrong)

/-- 'civiltimelaw10.IntervalInverse': WHATEVER THE INPUT: true; the input reads as it did. -/
def intervalInverseSpec : ChangeSpec := { name := "intervalInverse", fn := fun _ => fun
  | [d1, d2] => { results := [.lit (.bool true)], args := [d1, d2] }
  | _ => none }
def intervalInverseRow : OpenClaim := { program := "ytknlhhjooamfhaadoor", sum := "827cf507aefe168edac1668fab571c3009cc1bc115e7eef9dfa84599b2e2664f", func := "civiltime/civiltimelaw10.IntervalInverse", spec := "intervalInverse", named := ["civiltime/interval.sharing", "civiltime/interval.names"], apart := false, laid := [("civiltime/interval.names", laid_civiltime_interval_names), ("civiltime/interval.sharing", laid_civiltime_interval_sharing)] }
def IntervalInverseSaid : Prop := intervalInverseRow.holds Tryd.pinned (OpenSpec.ofChange intervalInverseSpec)

/-- ITS FALSE NEIGHBOUR: 'it returns false'. Refute it at one input. -/
def intervalInverseWrong : ChangeSpec := { name := "intervalInverse", fn := fun _ => fun
  | [d1, d2] => { results := [.lit (.bool false)], args := [d1, d2] }
  | _ => none }
def IntervalInverseWrongFalsely : Prop := intervalInverseRow.holds Tryd.pinned (OpenSpec.ofChange intervalInverseWrong)

/-- 'civiltimelaw10.IntervalCovers': WHATEVER THE INPUT: true; the input reads as it did. -/
def intervalCoversSpec : ChangeSpec := { name := "intervalCovers", fn := fun _ => fun
  | [d1, d2, d3] => { results := [.lit (.bool true)], args := [d1, d2, d3] }
  | _ => none }
def intervalCoversRow : OpenClaim := { program := "ytknlhhjooamfhaadoor", sum := "827cf507aefe168edac1668fab571c3009cc1bc115e7eef9dfa84599b2e2664f", func := "civiltime/civiltimelaw10.IntervalCovers", spec := "intervalCovers", named := ["civiltime/interval.sharing", "civiltime/interval.names"], apart := false, laid := [("civiltime/interval.names", laid_civiltime_interval_names), ("civiltime/interval.sharing", laid_civiltime_interval_sharing)] }
def IntervalCoversSaid : Prop := intervalCoversRow.holds Tryd.pinned (OpenSpec.ofChange intervalCoversSpec)

/-- ITS FALSE NEIGHBOUR: 'it returns false'. Refute it at one input. -/
def intervalCoversWrong : ChangeSpec := { name := "intervalCovers", fn := fun _ => fun
  | [d1, d2, d3] => { results := [.lit (.bool false)], args := [d1, d2, d3] }
  | _ => none }
def IntervalCoversWrongFalsely : Prop := intervalCoversRow.holds Tryd.pinned (OpenSpec.ofChange intervalCoversWrong)

/-- 'civiltimelaw10.IntervalMoves': WHATEVER THE INPUT: true; the input reads as it did. -/
def intervalMovesSpec : ChangeSpec := { name := "intervalMoves", fn := fun _ => fun
  | [d1, d2, d3] => { results := [.lit (.bool true)], args := [d1, d2, d3] }
  | _ => none }
def intervalMovesRow : OpenClaim := { program := "ytknlhhjooamfhaadoor", sum := "827cf507aefe168edac1668fab571c3009cc1bc115e7eef9dfa84599b2e2664f", func := "civiltime/civiltimelaw10.IntervalMoves", spec := "intervalMoves", named := ["civiltime/interval.sharing", "civiltime/interval.names"], apart := false, laid := [("civiltime/interval.names", laid_civiltime_interval_names), ("civiltime/interval.sharing", laid_civiltime_interval_sharing)] }
def IntervalMovesSaid : Prop := intervalMovesRow.holds Tryd.pinned (OpenSpec.ofChange intervalMovesSpec)

/-- ITS FALSE NEIGHBOUR: 'it returns false'. Refute it at one input. -/
def intervalMovesWrong : ChangeSpec := { name := "intervalMoves", fn := fun _ => fun
  | [d1, d2, d3] => { results := [.lit (.bool false)], args := [d1, d2, d3] }
  | _ => none }
def IntervalMovesWrongFalsely : Prop := intervalMovesRow.holds Tryd.pinned (OpenSpec.ofChange intervalMovesWrong)

/-- 'civiltimelaw10.IntervalDisjoint': WHATEVER THE INPUT: true; the input reads as it did. -/
def intervalDisjointSpec : ChangeSpec := { name := "intervalDisjoint", fn := fun _ => fun
  | [d1, d2] => { results := [.lit (.bool true)], args := [d1, d2] }
  | _ => none }
def intervalDisjointRow : OpenClaim := { program := "ytknlhhjooamfhaadoor", sum := "827cf507aefe168edac1668fab571c3009cc1bc115e7eef9dfa84599b2e2664f", func := "civiltime/civiltimelaw10.IntervalDisjoint", spec := "intervalDisjoint", named := ["civiltime/interval.sharing", "civiltime/interval.names"], apart := false, laid := [("civiltime/interval.names", laid_civiltime_interval_names), ("civiltime/interval.sharing", laid_civiltime_interval_sharing)] }
def IntervalDisjointSaid : Prop := intervalDisjointRow.holds Tryd.pinned (OpenSpec.ofChange intervalDisjointSpec)

/-- ITS FALSE NEIGHBOUR: 'it returns false'. Refute it at one input. -/
def intervalDisjointWrong : ChangeSpec := { name := "intervalDisjoint", fn := fun _ => fun
  | [d1, d2] => { results := [.lit (.bool false)], args := [d1, d2] }
  | _ => none }
def IntervalDisjointWrongFalsely : Prop := intervalDisjointRow.holds Tryd.pinned (OpenSpec.ofChange intervalDisjointWrong)

/- THE SECOND FORM. 'bulk': how many values and letters a reading holds, each counted each time it is reached (what is shared counts as often as it is met; a slice's spare places count too). A statement '..UptoSaid' is the law's where the arguments, and the package variables that the reading takes, are together of bulk at most 1048576: NARROWER than '..Said'. Prove '..Said' where nothing that the law and all that it calls make is longer than what came in: it says more and counts as full. Else prove '..UptoSaid'. A law counts once. -/
mutual
def uptoBulk {H : Type} : DataW H → Nat
  | .lit (.string bytes) => bytes.length + 1
  | .lit _ => 1
  | .nil => 1
  | .ptr d => uptoBulk d + 1
  | .slice elems spare => uptoBulkAll elems + uptoBulkAll spare + 1
  | .agg parts => uptoBulkAll parts + 1
  | .iface _ d => uptoBulk d + 1
  | .map entries => uptoBulkEntries entries + 1
  | .held _ => 1
def uptoBulkAll {H : Type} : List (DataW H) → Nat
  | [] => 0
  | d :: r => uptoBulk d + uptoBulkAll r
def uptoBulkEntries {H : Type} : List (Lit × DataW H) → Nat
  | [] => 0
  | x :: r => uptoBulkEntry x + uptoBulkEntries r
def uptoBulkEntry {H : Type} : Lit × DataW H → Nat
  | (.string bytes, d) => bytes.length + uptoBulk d + 1
  | (_, d) => uptoBulk d + 1
 end
def uptoSmall : (H : Type) → List (DataW H) → Bool := fun _ ds => decide (uptoBulkAll ds ≤ 1048576)
def OpenSpec.upto (s : _root_.Go.ChangeSpec) : _root_.Go.OpenSpec := { _root_.Go.OpenSpec.ofChange s with cond := some uptoSmall }

/-- 'civiltimelaw10.IntervalRelations', WHERE WHAT IT READS IS OF BULK AT MOST 1048576: true; the input reads as it did. -/
def intervalRelationsUptoRow : OpenClaim := { program := "ytknlhhjooamfhaadoor", sum := "827cf507aefe168edac1668fab571c3009cc1bc115e7eef9dfa84599b2e2664f", func := "civiltime/civiltimelaw10.IntervalRelations", spec := "intervalRelations", named := ["civiltime/interval.sharing", "civiltime/interval.names"], apart := false, laid := [("civiltime/interval.names", laid_civiltime_interval_names), ("civiltime/interval.sharing", laid_civiltime_interval_sharing)], narrowed := true }
def IntervalRelationsUptoSaid : Prop := intervalRelationsUptoRow.holds Tryd.pinned (OpenSpec.upto intervalRelationsSpec)

/-- 'civiltimelaw10.IntervalParts', WHERE WHAT IT READS IS OF BULK AT MOST 1048576: true; the input reads as it did. -/
def intervalPartsUptoRow : OpenClaim := { program := "ytknlhhjooamfhaadoor", sum := "827cf507aefe168edac1668fab571c3009cc1bc115e7eef9dfa84599b2e2664f", func := "civiltime/civiltimelaw10.IntervalParts", spec := "intervalParts", named := ["civiltime/interval.sharing", "civiltime/interval.names"], apart := false, laid := [("civiltime/interval.names", laid_civiltime_interval_names), ("civiltime/interval.sharing", laid_civiltime_interval_sharing)], narrowed := true }
def IntervalPartsUptoSaid : Prop := intervalPartsUptoRow.holds Tryd.pinned (OpenSpec.upto intervalPartsSpec)

/-- 'civiltimelaw10.IntervalPoints', WHERE WHAT IT READS IS OF BULK AT MOST 1048576: true; the input reads as it did. -/
def intervalPointsUptoRow : OpenClaim := { program := "ytknlhhjooamfhaadoor", sum := "827cf507aefe168edac1668fab571c3009cc1bc115e7eef9dfa84599b2e2664f", func := "civiltime/civiltimelaw10.IntervalPoints", spec := "intervalPoints", named := ["civiltime/interval.sharing", "civiltime/interval.names"], apart := false, laid := [("civiltime/interval.names", laid_civiltime_interval_names), ("civiltime/interval.sharing", laid_civiltime_interval_sharing)], narrowed := true }
def IntervalPointsUptoSaid : Prop := intervalPointsUptoRow.holds Tryd.pinned (OpenSpec.upto intervalPointsSpec)

/-- 'civiltimelaw10.IntervalNames', WHERE WHAT IT READS IS OF BULK AT MOST 1048576: true; the input reads as it did. -/
def intervalNamesUptoRow : OpenClaim := { program := "ytknlhhjooamfhaadoor", sum := "827cf507aefe168edac1668fab571c3009cc1bc115e7eef9dfa84599b2e2664f", func := "civiltime/civiltimelaw10.IntervalNames", spec := "intervalNames", named := ["civiltime/interval.sharing", "civiltime/interval.names"], apart := false, laid := [("civiltime/interval.names", laid_civiltime_interval_names), ("civiltime/interval.sharing", laid_civiltime_interval_sharing)], narrowed := true }
def IntervalNamesUptoSaid : Prop := intervalNamesUptoRow.holds Tryd.pinned (OpenSpec.upto intervalNamesSpec)

/-- 'civiltimelaw10.IntervalInverse', WHERE WHAT IT READS IS OF BULK AT MOST 1048576: true; the input reads as it did. -/
def intervalInverseUptoRow : OpenClaim := { program := "ytknlhhjooamfhaadoor", sum := "827cf507aefe168edac1668fab571c3009cc1bc115e7eef9dfa84599b2e2664f", func := "civiltime/civiltimelaw10.IntervalInverse", spec := "intervalInverse", named := ["civiltime/interval.sharing", "civiltime/interval.names"], apart := false, laid := [("civiltime/interval.names", laid_civiltime_interval_names), ("civiltime/interval.sharing", laid_civiltime_interval_sharing)], narrowed := true }
def IntervalInverseUptoSaid : Prop := intervalInverseUptoRow.holds Tryd.pinned (OpenSpec.upto intervalInverseSpec)

/-- 'civiltimelaw10.IntervalCovers', WHERE WHAT IT READS IS OF BULK AT MOST 1048576: true; the input reads as it did. -/
def intervalCoversUptoRow : OpenClaim := { program := "ytknlhhjooamfhaadoor", sum := "827cf507aefe168edac1668fab571c3009cc1bc115e7eef9dfa84599b2e2664f", func := "civiltime/civiltimelaw10.IntervalCovers", spec := "intervalCovers", named := ["civiltime/interval.sharing", "civiltime/interval.names"], apart := false, laid := [("civiltime/interval.names", laid_civiltime_interval_names), ("civiltime/interval.sharing", laid_civiltime_interval_sharing)], narrowed := true }
def IntervalCoversUptoSaid : Prop := intervalCoversUptoRow.holds Tryd.pinned (OpenSpec.upto intervalCoversSpec)

/-- 'civiltimelaw10.IntervalMoves', WHERE WHAT IT READS IS OF BULK AT MOST 1048576: true; the input reads as it did. -/
def intervalMovesUptoRow : OpenClaim := { program := "ytknlhhjooamfhaadoor", sum := "827cf507aefe168edac1668fab571c3009cc1bc115e7eef9dfa84599b2e2664f", func := "civiltime/civiltimelaw10.IntervalMoves", spec := "intervalMoves", named := ["civiltime/interval.sharing", "civiltime/interval.names"], apart := false, laid := [("civiltime/interval.names", laid_civiltime_interval_names), ("civiltime/interval.sharing", laid_civiltime_interval_sharing)], narrowed := true }
def IntervalMovesUptoSaid : Prop := intervalMovesUptoRow.holds Tryd.pinned (OpenSpec.upto intervalMovesSpec)

/-- 'civiltimelaw10.IntervalDisjoint', WHERE WHAT IT READS IS OF BULK AT MOST 1048576: true; the input reads as it did. -/
def intervalDisjointUptoRow : OpenClaim := { program := "ytknlhhjooamfhaadoor", sum := "827cf507aefe168edac1668fab571c3009cc1bc115e7eef9dfa84599b2e2664f", func := "civiltime/civiltimelaw10.IntervalDisjoint", spec := "intervalDisjoint", named := ["civiltime/interval.sharing", "civiltime/interval.names"], apart := false, laid := [("civiltime/interval.names", laid_civiltime_interval_names), ("civiltime/interval.sharing", laid_civiltime_interval_sharing)], narrowed := true }
def IntervalDisjointUptoSaid : Prop := intervalDisjointUptoRow.holds Tryd.pinned (OpenSpec.upto intervalDisjointSpec)

end Rows
end Go.Proofs.YtknlhhjooamfhaaDoor

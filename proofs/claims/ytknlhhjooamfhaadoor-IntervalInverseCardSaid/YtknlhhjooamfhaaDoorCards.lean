/-
  DERIVED. GIVEN WITH THE SEED: THE CARDS: each row of YtknlhhjooamfhaaDoorRows.lean that lists a variable, with what it lists TIED to the program's text (the seventh form; the later family's looks); each row that meets fmt, with fmt's text TOLD by the authors' own Lean function (tested against real Go, not proved from fmt's source: count such statements apart). THE CARD IS WHAT COUNTS. Prove the row's statement (the work); the ties are given (YtknlhhjooamfhaaDoorTie.lean); close each card by the builder's one call (the guide's Derived/Test/ToyasCard.lean, 'card_holds'). Laid BY PROGRAM, IN A SANDBOX (cutbox-door.mjs). By AI agents, Wed Nov 11 2026. No macro, syntax, notation, axiom, sorry.
-/
import Derived.Test.YtknlhhjooamfhaaDoorRows
import GoSem.ClaimSeven
namespace Go.Proofs.YtknlhhjooamfhaaDoor
namespace Rows

/-- THE TIED CARD OF 'civiltimelaw10.IntervalRelations'. -/
def intervalRelationsCard : Claim7 := { stood := { row := intervalRelationsRow, standIns := [], harness := (true, "2dfb95c09bf5f3e994c098edb9841495b381c3156bb82c0c1c0ad383ec2430b8"), looks := false }, kinds := [], alts := [], laidByText := true, laidKinds := [.data, .data], laidTests := true, laidLooks := .later }
def IntervalRelationsCardSaid : Prop := Claim7.holds Tryd.pinned (.plain (OpenSpec.ofChange intervalRelationsSpec)) intervalRelationsCard

/-- THE TIED CARD OF 'civiltimelaw10.IntervalParts'. -/
def intervalPartsCard : Claim7 := { stood := { row := intervalPartsRow, standIns := [], harness := (true, "2dfb95c09bf5f3e994c098edb9841495b381c3156bb82c0c1c0ad383ec2430b8"), looks := false }, kinds := [], alts := [], laidByText := true, laidKinds := [.data, .data], laidTests := true, laidLooks := .later }
def IntervalPartsCardSaid : Prop := Claim7.holds Tryd.pinned (.plain (OpenSpec.ofChange intervalPartsSpec)) intervalPartsCard

/-- THE TIED CARD OF 'civiltimelaw10.IntervalPoints'. -/
def intervalPointsCard : Claim7 := { stood := { row := intervalPointsRow, standIns := [], harness := (true, "2dfb95c09bf5f3e994c098edb9841495b381c3156bb82c0c1c0ad383ec2430b8"), looks := false }, kinds := [], alts := [], laidByText := true, laidKinds := [.data, .data], laidTests := true, laidLooks := .later }
def IntervalPointsCardSaid : Prop := Claim7.holds Tryd.pinned (.plain (OpenSpec.ofChange intervalPointsSpec)) intervalPointsCard

/-- THE TIED CARD OF 'civiltimelaw10.IntervalNames'. -/
def intervalNamesCard : Claim7 := { stood := { row := intervalNamesRow, standIns := [], harness := (true, "2dfb95c09bf5f3e994c098edb9841495b381c3156bb82c0c1c0ad383ec2430b8"), looks := false }, kinds := [], alts := [], laidByText := true, laidKinds := [.data, .data], laidTests := true, laidLooks := .later }
def IntervalNamesCardSaid : Prop := Claim7.holds Tryd.pinned (.plain (OpenSpec.ofChange intervalNamesSpec)) intervalNamesCard

/-- THE TIED CARD OF 'civiltimelaw10.IntervalInverse'. -/
def intervalInverseCard : Claim7 := { stood := { row := intervalInverseRow, standIns := [], harness := (true, "2dfb95c09bf5f3e994c098edb9841495b381c3156bb82c0c1c0ad383ec2430b8"), looks := false }, kinds := [], alts := [], laidByText := true, laidKinds := [.data, .data], laidTests := true, laidLooks := .later }
def IntervalInverseCardSaid : Prop := Claim7.holds Tryd.pinned (.plain (OpenSpec.ofChange intervalInverseSpec)) intervalInverseCard

/-- THE TIED CARD OF 'civiltimelaw10.IntervalCovers'. -/
def intervalCoversCard : Claim7 := { stood := { row := intervalCoversRow, standIns := [], harness := (true, "2dfb95c09bf5f3e994c098edb9841495b381c3156bb82c0c1c0ad383ec2430b8"), looks := false }, kinds := [], alts := [], laidByText := true, laidKinds := [.data, .data], laidTests := true, laidLooks := .later }
def IntervalCoversCardSaid : Prop := Claim7.holds Tryd.pinned (.plain (OpenSpec.ofChange intervalCoversSpec)) intervalCoversCard

/-- THE TIED CARD OF 'civiltimelaw10.IntervalMoves'. -/
def intervalMovesCard : Claim7 := { stood := { row := intervalMovesRow, standIns := [], harness := (true, "2dfb95c09bf5f3e994c098edb9841495b381c3156bb82c0c1c0ad383ec2430b8"), looks := false }, kinds := [], alts := [], laidByText := true, laidKinds := [.data, .data], laidTests := true, laidLooks := .later }
def IntervalMovesCardSaid : Prop := Claim7.holds Tryd.pinned (.plain (OpenSpec.ofChange intervalMovesSpec)) intervalMovesCard

/-- THE TIED CARD OF 'civiltimelaw10.IntervalDisjoint'. -/
def intervalDisjointCard : Claim7 := { stood := { row := intervalDisjointRow, standIns := [], harness := (true, "2dfb95c09bf5f3e994c098edb9841495b381c3156bb82c0c1c0ad383ec2430b8"), looks := false }, kinds := [], alts := [], laidByText := true, laidKinds := [.data, .data], laidTests := true, laidLooks := .later }
def IntervalDisjointCardSaid : Prop := Claim7.holds Tryd.pinned (.plain (OpenSpec.ofChange intervalDisjointSpec)) intervalDisjointCard

/-- THE SECOND FORM's CARD OF 'civiltimelaw10.IntervalRelations'. -/
def intervalRelationsUptoCard : Claim7 := { stood := { row := intervalRelationsUptoRow, standIns := [], harness := (true, "2dfb95c09bf5f3e994c098edb9841495b381c3156bb82c0c1c0ad383ec2430b8"), looks := false }, kinds := [], alts := [], laidByText := true, laidKinds := [.data, .data], laidTests := true, laidLooks := .later }
def IntervalRelationsUptoCardSaid : Prop := Claim7.holds Tryd.pinned (.plain (OpenSpec.upto intervalRelationsSpec)) intervalRelationsUptoCard

/-- THE SECOND FORM's CARD OF 'civiltimelaw10.IntervalParts'. -/
def intervalPartsUptoCard : Claim7 := { stood := { row := intervalPartsUptoRow, standIns := [], harness := (true, "2dfb95c09bf5f3e994c098edb9841495b381c3156bb82c0c1c0ad383ec2430b8"), looks := false }, kinds := [], alts := [], laidByText := true, laidKinds := [.data, .data], laidTests := true, laidLooks := .later }
def IntervalPartsUptoCardSaid : Prop := Claim7.holds Tryd.pinned (.plain (OpenSpec.upto intervalPartsSpec)) intervalPartsUptoCard

/-- THE SECOND FORM's CARD OF 'civiltimelaw10.IntervalPoints'. -/
def intervalPointsUptoCard : Claim7 := { stood := { row := intervalPointsUptoRow, standIns := [], harness := (true, "2dfb95c09bf5f3e994c098edb9841495b381c3156bb82c0c1c0ad383ec2430b8"), looks := false }, kinds := [], alts := [], laidByText := true, laidKinds := [.data, .data], laidTests := true, laidLooks := .later }
def IntervalPointsUptoCardSaid : Prop := Claim7.holds Tryd.pinned (.plain (OpenSpec.upto intervalPointsSpec)) intervalPointsUptoCard

/-- THE SECOND FORM's CARD OF 'civiltimelaw10.IntervalNames'. -/
def intervalNamesUptoCard : Claim7 := { stood := { row := intervalNamesUptoRow, standIns := [], harness := (true, "2dfb95c09bf5f3e994c098edb9841495b381c3156bb82c0c1c0ad383ec2430b8"), looks := false }, kinds := [], alts := [], laidByText := true, laidKinds := [.data, .data], laidTests := true, laidLooks := .later }
def IntervalNamesUptoCardSaid : Prop := Claim7.holds Tryd.pinned (.plain (OpenSpec.upto intervalNamesSpec)) intervalNamesUptoCard

/-- THE SECOND FORM's CARD OF 'civiltimelaw10.IntervalInverse'. -/
def intervalInverseUptoCard : Claim7 := { stood := { row := intervalInverseUptoRow, standIns := [], harness := (true, "2dfb95c09bf5f3e994c098edb9841495b381c3156bb82c0c1c0ad383ec2430b8"), looks := false }, kinds := [], alts := [], laidByText := true, laidKinds := [.data, .data], laidTests := true, laidLooks := .later }
def IntervalInverseUptoCardSaid : Prop := Claim7.holds Tryd.pinned (.plain (OpenSpec.upto intervalInverseSpec)) intervalInverseUptoCard

/-- THE SECOND FORM's CARD OF 'civiltimelaw10.IntervalCovers'. -/
def intervalCoversUptoCard : Claim7 := { stood := { row := intervalCoversUptoRow, standIns := [], harness := (true, "2dfb95c09bf5f3e994c098edb9841495b381c3156bb82c0c1c0ad383ec2430b8"), looks := false }, kinds := [], alts := [], laidByText := true, laidKinds := [.data, .data], laidTests := true, laidLooks := .later }
def IntervalCoversUptoCardSaid : Prop := Claim7.holds Tryd.pinned (.plain (OpenSpec.upto intervalCoversSpec)) intervalCoversUptoCard

/-- THE SECOND FORM's CARD OF 'civiltimelaw10.IntervalMoves'. -/
def intervalMovesUptoCard : Claim7 := { stood := { row := intervalMovesUptoRow, standIns := [], harness := (true, "2dfb95c09bf5f3e994c098edb9841495b381c3156bb82c0c1c0ad383ec2430b8"), looks := false }, kinds := [], alts := [], laidByText := true, laidKinds := [.data, .data], laidTests := true, laidLooks := .later }
def IntervalMovesUptoCardSaid : Prop := Claim7.holds Tryd.pinned (.plain (OpenSpec.upto intervalMovesSpec)) intervalMovesUptoCard

/-- THE SECOND FORM's CARD OF 'civiltimelaw10.IntervalDisjoint'. -/
def intervalDisjointUptoCard : Claim7 := { stood := { row := intervalDisjointUptoRow, standIns := [], harness := (true, "2dfb95c09bf5f3e994c098edb9841495b381c3156bb82c0c1c0ad383ec2430b8"), looks := false }, kinds := [], alts := [], laidByText := true, laidKinds := [.data, .data], laidTests := true, laidLooks := .later }
def IntervalDisjointUptoCardSaid : Prop := Claim7.holds Tryd.pinned (.plain (OpenSpec.upto intervalDisjointSpec)) intervalDisjointUptoCard
end Rows
end Go.Proofs.YtknlhhjooamfhaaDoor

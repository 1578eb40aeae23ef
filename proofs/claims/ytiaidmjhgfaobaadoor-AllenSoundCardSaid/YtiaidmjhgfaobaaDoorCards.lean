/-
  DERIVED. GIVEN WITH THE SEED: THE CARDS: each row of YtiaidmjhgfaobaaDoorRows.lean that lists a variable, with what it lists TIED to the program's text (the seventh form; the later family's looks); each row that meets fmt, with fmt's text TOLD by the authors' own Lean function (tested against real Go, not proved from fmt's source: count such statements apart). THE CARD IS WHAT COUNTS. Prove the row's statement (the work); the ties are given (YtiaidmjhgfaobaaDoorTie.lean); close each card by the builder's one call (the guide's Derived/Test/ToyasCard.lean, 'card_holds'). Laid BY PROGRAM, IN A SANDBOX (cutbox-door.mjs). By AI agents, Wed Nov 11 2026. No macro, syntax, notation, axiom, sorry.
-/
import Derived.Test.YtiaidmjhgfaobaaDoorRows
import GoSem.ClaimSeven
namespace Go.Proofs.YtiaidmjhgfaobaaDoor
namespace Rows

/-- THE TIED CARD OF 'civiltimelaw11.AllenComposes'. -/
def allenComposesCard : Claim7 := { stood := { row := allenComposesRow, standIns := [], harness := (true, "1f7498c2d6e3877114cf4d77be8a18f061e36beae3d1de22976bdf7ae859760a"), looks := false }, kinds := [], alts := [], laidByText := true, laidKinds := [.data, .data], laidTests := true, laidLooks := .later }
def AllenComposesCardSaid : Prop := Claim7.holds Tryd.pinned (.plain (OpenSpec.ofChange allenComposesSpec)) allenComposesCard

/-- THE TIED CARD OF 'civiltimelaw11.AllenBasics'. -/
def allenBasicsCard : Claim7 := { stood := { row := allenBasicsRow, standIns := [], harness := (true, "1f7498c2d6e3877114cf4d77be8a18f061e36beae3d1de22976bdf7ae859760a"), looks := false }, kinds := [], alts := [], laidByText := true, laidKinds := [.data, .data, .data], laidTests := true, laidLooks := .later }
def AllenBasicsCardSaid : Prop := Claim7.holds Tryd.pinned (.plain (OpenSpec.ofChange allenBasicsSpec)) allenBasicsCard

/-- THE TIED CARD OF 'civiltimelaw11.AllenTexts'. -/
def allenTextsCard : Claim7 := { stood := { row := allenTextsRow, standIns := [], harness := (true, "1f7498c2d6e3877114cf4d77be8a18f061e36beae3d1de22976bdf7ae859760a"), looks := false }, kinds := [], alts := [], laidByText := true, laidKinds := [.data, .data, .data, .data, .pinned], laidTests := true, laidLooks := .later }
def AllenTextsCardSaid : Prop := Claim7.holds Tryd.pinned (.plain (OpenSpec.ofChange allenTextsSpec)) allenTextsCard

/-- THE TIED CARD OF 'civiltimelaw11.AllenConvex'. -/
def allenConvexCard : Claim7 := { stood := { row := allenConvexRow, standIns := [], harness := (true, "1f7498c2d6e3877114cf4d77be8a18f061e36beae3d1de22976bdf7ae859760a"), looks := false }, kinds := [], alts := [], laidByText := true, laidKinds := [.data, .data], laidTests := true, laidLooks := .later }
def AllenConvexCardSaid : Prop := Claim7.holds Tryd.pinned (.plain (OpenSpec.ofChange allenConvexSpec)) allenConvexCard

/-- THE TIED CARD OF 'civiltimelaw11.AllenPossible'. -/
def allenPossibleCard : Claim7 := { stood := { row := allenPossibleRow, standIns := [], harness := (true, "1f7498c2d6e3877114cf4d77be8a18f061e36beae3d1de22976bdf7ae859760a"), looks := false }, kinds := [], alts := [], laidByText := true, laidKinds := [.data, .data, .data], laidTests := true, laidLooks := .later }
def AllenPossibleCardSaid : Prop := Claim7.holds Tryd.pinned (.plain (OpenSpec.ofChange allenPossibleSpec)) allenPossibleCard

/-- THE TIED CARD OF 'civiltimelaw11.AllenSound'. -/
def allenSoundCard : Claim7 := { stood := { row := allenSoundRow, standIns := [], harness := (true, "1f7498c2d6e3877114cf4d77be8a18f061e36beae3d1de22976bdf7ae859760a"), looks := false }, kinds := [], alts := [], laidByText := true, laidKinds := [.data, .data, .data], laidTests := true, laidLooks := .later }
def AllenSoundCardSaid : Prop := Claim7.holds Tryd.pinned (.plain (OpenSpec.ofChange allenSoundSpec)) allenSoundCard

/-- THE TIED CARD OF 'civiltimelaw11.AllenTight'. -/
def allenTightCard : Claim7 := { stood := { row := allenTightRow, standIns := [], harness := (true, "1f7498c2d6e3877114cf4d77be8a18f061e36beae3d1de22976bdf7ae859760a"), looks := false }, kinds := [], alts := [], laidByText := true, laidKinds := [.data, .data, .data], laidTests := true, laidLooks := .later }
def AllenTightCardSaid : Prop := Claim7.holds Tryd.pinned (.plain (OpenSpec.ofChange allenTightSpec)) allenTightCard

/-- THE TIED CARD OF 'civiltimelaw11.AllenAlgebra'. -/
def allenAlgebraCard : Claim7 := { stood := { row := allenAlgebraRow, standIns := [], harness := (true, "1f7498c2d6e3877114cf4d77be8a18f061e36beae3d1de22976bdf7ae859760a"), looks := false }, kinds := [], alts := [], laidByText := true, laidKinds := [.data, .data], laidTests := true, laidLooks := .later }
def AllenAlgebraCardSaid : Prop := Claim7.holds Tryd.pinned (.plain (OpenSpec.ofChange allenAlgebraSpec)) allenAlgebraCard

/-- THE TIED CARD OF 'civiltimelaw11.AllenBack'. -/
def allenBackCard : Claim7 := { stood := { row := allenBackRow, standIns := [], harness := (true, "1f7498c2d6e3877114cf4d77be8a18f061e36beae3d1de22976bdf7ae859760a"), looks := false }, kinds := [], alts := [], laidByText := true, laidKinds := [.data, .data, .data, .data, .pinned], laidTests := true, laidLooks := .later }
def AllenBackCardSaid : Prop := Claim7.holds Tryd.pinned (.plain (OpenSpec.ofChange allenBackSpec)) allenBackCard

/-- THE TIED CARD OF 'civiltimelaw11.AllenParts'. -/
def allenPartsCard : Claim7 := { stood := { row := allenPartsRow, standIns := [], harness := (true, "1f7498c2d6e3877114cf4d77be8a18f061e36beae3d1de22976bdf7ae859760a"), looks := false }, kinds := [], alts := [], laidByText := true, laidKinds := [.data, .data, .data], laidTests := true, laidLooks := .later }
def AllenPartsCardSaid : Prop := Claim7.holds Tryd.pinned (.plain (OpenSpec.ofChange allenPartsSpec)) allenPartsCard

/-- THE SECOND FORM's CARD OF 'civiltimelaw11.AllenComposes'. -/
def allenComposesUptoCard : Claim7 := { stood := { row := allenComposesUptoRow, standIns := [], harness := (true, "1f7498c2d6e3877114cf4d77be8a18f061e36beae3d1de22976bdf7ae859760a"), looks := false }, kinds := [], alts := [], laidByText := true, laidKinds := [.data, .data], laidTests := true, laidLooks := .later }
def AllenComposesUptoCardSaid : Prop := Claim7.holds Tryd.pinned (.plain (OpenSpec.upto allenComposesSpec)) allenComposesUptoCard

/-- THE SECOND FORM's CARD OF 'civiltimelaw11.AllenBasics'. -/
def allenBasicsUptoCard : Claim7 := { stood := { row := allenBasicsUptoRow, standIns := [], harness := (true, "1f7498c2d6e3877114cf4d77be8a18f061e36beae3d1de22976bdf7ae859760a"), looks := false }, kinds := [], alts := [], laidByText := true, laidKinds := [.data, .data, .data], laidTests := true, laidLooks := .later }
def AllenBasicsUptoCardSaid : Prop := Claim7.holds Tryd.pinned (.plain (OpenSpec.upto allenBasicsSpec)) allenBasicsUptoCard

/-- THE SECOND FORM's CARD OF 'civiltimelaw11.AllenTexts'. -/
def allenTextsUptoCard : Claim7 := { stood := { row := allenTextsUptoRow, standIns := [], harness := (true, "1f7498c2d6e3877114cf4d77be8a18f061e36beae3d1de22976bdf7ae859760a"), looks := false }, kinds := [], alts := [], laidByText := true, laidKinds := [.data, .data, .data, .data, .pinned], laidTests := true, laidLooks := .later }
def AllenTextsUptoCardSaid : Prop := Claim7.holds Tryd.pinned (.plain (OpenSpec.upto allenTextsSpec)) allenTextsUptoCard

/-- THE SECOND FORM's CARD OF 'civiltimelaw11.AllenConvex'. -/
def allenConvexUptoCard : Claim7 := { stood := { row := allenConvexUptoRow, standIns := [], harness := (true, "1f7498c2d6e3877114cf4d77be8a18f061e36beae3d1de22976bdf7ae859760a"), looks := false }, kinds := [], alts := [], laidByText := true, laidKinds := [.data, .data], laidTests := true, laidLooks := .later }
def AllenConvexUptoCardSaid : Prop := Claim7.holds Tryd.pinned (.plain (OpenSpec.upto allenConvexSpec)) allenConvexUptoCard

/-- THE SECOND FORM's CARD OF 'civiltimelaw11.AllenPossible'. -/
def allenPossibleUptoCard : Claim7 := { stood := { row := allenPossibleUptoRow, standIns := [], harness := (true, "1f7498c2d6e3877114cf4d77be8a18f061e36beae3d1de22976bdf7ae859760a"), looks := false }, kinds := [], alts := [], laidByText := true, laidKinds := [.data, .data, .data], laidTests := true, laidLooks := .later }
def AllenPossibleUptoCardSaid : Prop := Claim7.holds Tryd.pinned (.plain (OpenSpec.upto allenPossibleSpec)) allenPossibleUptoCard

/-- THE SECOND FORM's CARD OF 'civiltimelaw11.AllenSound'. -/
def allenSoundUptoCard : Claim7 := { stood := { row := allenSoundUptoRow, standIns := [], harness := (true, "1f7498c2d6e3877114cf4d77be8a18f061e36beae3d1de22976bdf7ae859760a"), looks := false }, kinds := [], alts := [], laidByText := true, laidKinds := [.data, .data, .data], laidTests := true, laidLooks := .later }
def AllenSoundUptoCardSaid : Prop := Claim7.holds Tryd.pinned (.plain (OpenSpec.upto allenSoundSpec)) allenSoundUptoCard

/-- THE SECOND FORM's CARD OF 'civiltimelaw11.AllenTight'. -/
def allenTightUptoCard : Claim7 := { stood := { row := allenTightUptoRow, standIns := [], harness := (true, "1f7498c2d6e3877114cf4d77be8a18f061e36beae3d1de22976bdf7ae859760a"), looks := false }, kinds := [], alts := [], laidByText := true, laidKinds := [.data, .data, .data], laidTests := true, laidLooks := .later }
def AllenTightUptoCardSaid : Prop := Claim7.holds Tryd.pinned (.plain (OpenSpec.upto allenTightSpec)) allenTightUptoCard

/-- THE SECOND FORM's CARD OF 'civiltimelaw11.AllenAlgebra'. -/
def allenAlgebraUptoCard : Claim7 := { stood := { row := allenAlgebraUptoRow, standIns := [], harness := (true, "1f7498c2d6e3877114cf4d77be8a18f061e36beae3d1de22976bdf7ae859760a"), looks := false }, kinds := [], alts := [], laidByText := true, laidKinds := [.data, .data], laidTests := true, laidLooks := .later }
def AllenAlgebraUptoCardSaid : Prop := Claim7.holds Tryd.pinned (.plain (OpenSpec.upto allenAlgebraSpec)) allenAlgebraUptoCard

/-- THE SECOND FORM's CARD OF 'civiltimelaw11.AllenBack'. -/
def allenBackUptoCard : Claim7 := { stood := { row := allenBackUptoRow, standIns := [], harness := (true, "1f7498c2d6e3877114cf4d77be8a18f061e36beae3d1de22976bdf7ae859760a"), looks := false }, kinds := [], alts := [], laidByText := true, laidKinds := [.data, .data, .data, .data, .pinned], laidTests := true, laidLooks := .later }
def AllenBackUptoCardSaid : Prop := Claim7.holds Tryd.pinned (.plain (OpenSpec.upto allenBackSpec)) allenBackUptoCard

/-- THE SECOND FORM's CARD OF 'civiltimelaw11.AllenParts'. -/
def allenPartsUptoCard : Claim7 := { stood := { row := allenPartsUptoRow, standIns := [], harness := (true, "1f7498c2d6e3877114cf4d77be8a18f061e36beae3d1de22976bdf7ae859760a"), looks := false }, kinds := [], alts := [], laidByText := true, laidKinds := [.data, .data, .data], laidTests := true, laidLooks := .later }
def AllenPartsUptoCardSaid : Prop := Claim7.holds Tryd.pinned (.plain (OpenSpec.upto allenPartsSpec)) allenPartsUptoCard
end Rows
end Go.Proofs.YtiaidmjhgfaobaaDoor

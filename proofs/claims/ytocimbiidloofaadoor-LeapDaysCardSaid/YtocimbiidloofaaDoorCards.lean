/-
  DERIVED. GIVEN WITH THE SEED: THE CARDS: each row of YtocimbiidloofaaDoorRows.lean that lists a variable, with what it lists TIED to the program's text (the seventh form; the later family's looks); each row that meets fmt, with fmt's text TOLD by the authors' own Lean function (tested against real Go, not proved from fmt's source: count such statements apart). THE CARD IS WHAT COUNTS. Prove the row's statement (the work); the ties are given (YtocimbiidloofaaDoorTie.lean); close each card by the builder's one call (the guide's Derived/Test/ToyasCard.lean, 'card_holds'). Laid BY PROGRAM, IN A SANDBOX (cutbox-door.mjs). By AI agents, Wed Nov 11 2026. No macro, syntax, notation, axiom, sorry.
-/
import Derived.Test.YtocimbiidloofaaDoorRows
import GoSem.ClaimSeven
namespace Go.Proofs.YtocimbiidloofaaDoor
namespace Rows

/-- THE TIED CARD OF 'civiltimelaw09.LeapParses'. -/
def leapParsesCard : Claim7 := { stood := { row := leapParsesRow, standIns := [], harness := (true, "c6d5674655b0913d1a51b0694024a9953649acc8dcbdd5d22e6682351c60f7d3"), looks := true }, kinds := [], alts := [], laidByText := true, laidKinds := [.data, .data, .data, .sentinel, .sentinel, .data], laidTests := true, laidLooks := .later }
def LeapParsesCardSaid : Prop := Claim7.holds Tryd.pinned (.plain (OpenSpec.ofChange leapParsesSpec)) leapParsesCard

/-- THE TIED CARD OF 'civiltimelaw09.LeapConverts'. -/
def leapConvertsCard : Claim7 := { stood := { row := leapConvertsRow, standIns := [], harness := (true, "c6d5674655b0913d1a51b0694024a9953649acc8dcbdd5d22e6682351c60f7d3"), looks := true }, kinds := [], alts := [], laidByText := true, laidKinds := [.data, .data, .data, .sentinel, .sentinel, .data], laidTests := true, laidLooks := .later }
def LeapConvertsCardSaid : Prop := Claim7.holds Tryd.pinned (.plain (OpenSpec.ofChange leapConvertsSpec)) leapConvertsCard

/-- THE TIED CARD OF 'civiltimelaw09.LeapBack'. -/
def leapBackCard : Claim7 := { stood := { row := leapBackRow, standIns := [], harness := (true, "c6d5674655b0913d1a51b0694024a9953649acc8dcbdd5d22e6682351c60f7d3"), looks := true }, kinds := [], alts := [], laidByText := true, laidKinds := [.data, .data, .data, .sentinel, .sentinel, .data], laidTests := true, laidLooks := .later }
def LeapBackCardSaid : Prop := Claim7.holds Tryd.pinned (.plain (OpenSpec.ofChange leapBackSpec)) leapBackCard

/-- THE TIED CARD OF 'civiltimelaw09.LeapDistances'. -/
def leapDistancesCard : Claim7 := { stood := { row := leapDistancesRow, standIns := [], harness := (true, "c6d5674655b0913d1a51b0694024a9953649acc8dcbdd5d22e6682351c60f7d3"), looks := true }, kinds := [], alts := [], laidByText := true, laidKinds := [.data, .data, .data, .sentinel, .sentinel, .data], laidTests := true, laidLooks := .later }
def LeapDistancesCardSaid : Prop := Claim7.holds Tryd.pinned (.plain (OpenSpec.ofChange leapDistancesSpec)) leapDistancesCard

/-- THE TIED CARD OF 'civiltimelaw09.LeapMinutes'. -/
def leapMinutesCard : Claim7 := { stood := { row := leapMinutesRow, standIns := [], harness := (true, "c6d5674655b0913d1a51b0694024a9953649acc8dcbdd5d22e6682351c60f7d3"), looks := true }, kinds := [], alts := [], laidByText := true, laidKinds := [.data, .data, .data, .sentinel, .sentinel, .data], laidTests := true, laidLooks := .later }
def LeapMinutesCardSaid : Prop := Claim7.holds Tryd.pinned (.plain (OpenSpec.ofChange leapMinutesSpec)) leapMinutesCard

/-- THE TIED CARD OF 'civiltimelaw09.LeapAdds'. -/
def leapAddsCard : Claim7 := { stood := { row := leapAddsRow, standIns := [], harness := (true, "c6d5674655b0913d1a51b0694024a9953649acc8dcbdd5d22e6682351c60f7d3"), looks := true }, kinds := [], alts := [], laidByText := true, laidKinds := [.data, .data, .data, .sentinel, .sentinel, .data], laidTests := true, laidLooks := .later }
def LeapAddsCardSaid : Prop := Claim7.holds Tryd.pinned (.plain (OpenSpec.ofChange leapAddsSpec)) leapAddsCard

/-- THE TIED CARD OF 'civiltimelaw09.LeapDays'. -/
def leapDaysCard : Claim7 := { stood := { row := leapDaysRow, standIns := [], harness := (true, "c6d5674655b0913d1a51b0694024a9953649acc8dcbdd5d22e6682351c60f7d3"), looks := true }, kinds := [], alts := [], laidByText := true, laidKinds := [.data, .data, .data, .sentinel, .sentinel, .data], laidTests := true, laidLooks := .later }
def LeapDaysCardSaid : Prop := Claim7.holds Tryd.pinned (.plain (OpenSpec.ofChange leapDaysSpec)) leapDaysCard

/-- THE SECOND FORM's CARD OF 'civiltimelaw09.LeapParses'. -/
def leapParsesUptoCard : Claim7 := { stood := { row := leapParsesUptoRow, standIns := [], harness := (true, "c6d5674655b0913d1a51b0694024a9953649acc8dcbdd5d22e6682351c60f7d3"), looks := true }, kinds := [], alts := [], laidByText := true, laidKinds := [.data, .data, .data, .sentinel, .sentinel, .data], laidTests := true, laidLooks := .later }
def LeapParsesUptoCardSaid : Prop := Claim7.holds Tryd.pinned (.plain (OpenSpec.upto leapParsesSpec)) leapParsesUptoCard

/-- THE SECOND FORM's CARD OF 'civiltimelaw09.LeapConverts'. -/
def leapConvertsUptoCard : Claim7 := { stood := { row := leapConvertsUptoRow, standIns := [], harness := (true, "c6d5674655b0913d1a51b0694024a9953649acc8dcbdd5d22e6682351c60f7d3"), looks := true }, kinds := [], alts := [], laidByText := true, laidKinds := [.data, .data, .data, .sentinel, .sentinel, .data], laidTests := true, laidLooks := .later }
def LeapConvertsUptoCardSaid : Prop := Claim7.holds Tryd.pinned (.plain (OpenSpec.upto leapConvertsSpec)) leapConvertsUptoCard

/-- THE SECOND FORM's CARD OF 'civiltimelaw09.LeapBack'. -/
def leapBackUptoCard : Claim7 := { stood := { row := leapBackUptoRow, standIns := [], harness := (true, "c6d5674655b0913d1a51b0694024a9953649acc8dcbdd5d22e6682351c60f7d3"), looks := true }, kinds := [], alts := [], laidByText := true, laidKinds := [.data, .data, .data, .sentinel, .sentinel, .data], laidTests := true, laidLooks := .later }
def LeapBackUptoCardSaid : Prop := Claim7.holds Tryd.pinned (.plain (OpenSpec.upto leapBackSpec)) leapBackUptoCard

/-- THE SECOND FORM's CARD OF 'civiltimelaw09.LeapDistances'. -/
def leapDistancesUptoCard : Claim7 := { stood := { row := leapDistancesUptoRow, standIns := [], harness := (true, "c6d5674655b0913d1a51b0694024a9953649acc8dcbdd5d22e6682351c60f7d3"), looks := true }, kinds := [], alts := [], laidByText := true, laidKinds := [.data, .data, .data, .sentinel, .sentinel, .data], laidTests := true, laidLooks := .later }
def LeapDistancesUptoCardSaid : Prop := Claim7.holds Tryd.pinned (.plain (OpenSpec.upto leapDistancesSpec)) leapDistancesUptoCard

/-- THE SECOND FORM's CARD OF 'civiltimelaw09.LeapMinutes'. -/
def leapMinutesUptoCard : Claim7 := { stood := { row := leapMinutesUptoRow, standIns := [], harness := (true, "c6d5674655b0913d1a51b0694024a9953649acc8dcbdd5d22e6682351c60f7d3"), looks := true }, kinds := [], alts := [], laidByText := true, laidKinds := [.data, .data, .data, .sentinel, .sentinel, .data], laidTests := true, laidLooks := .later }
def LeapMinutesUptoCardSaid : Prop := Claim7.holds Tryd.pinned (.plain (OpenSpec.upto leapMinutesSpec)) leapMinutesUptoCard

/-- THE SECOND FORM's CARD OF 'civiltimelaw09.LeapAdds'. -/
def leapAddsUptoCard : Claim7 := { stood := { row := leapAddsUptoRow, standIns := [], harness := (true, "c6d5674655b0913d1a51b0694024a9953649acc8dcbdd5d22e6682351c60f7d3"), looks := true }, kinds := [], alts := [], laidByText := true, laidKinds := [.data, .data, .data, .sentinel, .sentinel, .data], laidTests := true, laidLooks := .later }
def LeapAddsUptoCardSaid : Prop := Claim7.holds Tryd.pinned (.plain (OpenSpec.upto leapAddsSpec)) leapAddsUptoCard

/-- THE SECOND FORM's CARD OF 'civiltimelaw09.LeapDays'. -/
def leapDaysUptoCard : Claim7 := { stood := { row := leapDaysUptoRow, standIns := [], harness := (true, "c6d5674655b0913d1a51b0694024a9953649acc8dcbdd5d22e6682351c60f7d3"), looks := true }, kinds := [], alts := [], laidByText := true, laidKinds := [.data, .data, .data, .sentinel, .sentinel, .data], laidTests := true, laidLooks := .later }
def LeapDaysUptoCardSaid : Prop := Claim7.holds Tryd.pinned (.plain (OpenSpec.upto leapDaysSpec)) leapDaysUptoCard
end Rows
end Go.Proofs.YtocimbiidloofaaDoor

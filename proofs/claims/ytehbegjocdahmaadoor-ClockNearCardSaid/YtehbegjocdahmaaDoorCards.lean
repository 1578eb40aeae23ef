/-
  DERIVED. GIVEN WITH THE SEED: THE CARDS: each row of YtehbegjocdahmaaDoorRows.lean that lists a variable, with what it lists TIED to the program's text (the seventh form; the later family's looks); each row that meets fmt, with fmt's text TOLD by the authors' own Lean function (tested against real Go, not proved from fmt's source: count such statements apart). THE CARD IS WHAT COUNTS. Prove the row's statement (the work); the ties are given (YtehbegjocdahmaaDoorTie.lean); close each card by the builder's one call (the guide's Derived/Test/ToyasCard.lean, 'card_holds'). Laid BY PROGRAM, IN A SANDBOX (cutbox-door.mjs). By AI agents, Wed Nov 11 2026. No macro, syntax, notation, axiom, sorry.
-/
import Derived.Test.YtehbegjocdahmaaDoorRows
import GoSem.ClaimSeven
namespace Go.Proofs.YtehbegjocdahmaaDoor
namespace Rows

/-- THE TIED CARD OF 'civiltimelaw04.ClockTimes'. -/
def clockTimesCard : Claim7 := { stood := { row := clockTimesRow, standIns := [], harness := (true, "547baeb88e90f168428c5e4fcc906349f16559b43d7780aeb4546cace01ae8b1"), looks := false }, kinds := [], alts := [], laidByText := true, laidKinds := [.data, .data, .data, .data, .data], laidTests := true, laidLooks := .later }
def ClockTimesCardSaid : Prop := Claim7.holds Tryd.pinned (.plain (OpenSpec.ofChange clockTimesSpec)) clockTimesCard

/-- THE TIED CARD OF 'civiltimelaw04.ClockInstants'. -/
def clockInstantsCard : Claim7 := { stood := { row := clockInstantsRow, standIns := [], harness := (true, "547baeb88e90f168428c5e4fcc906349f16559b43d7780aeb4546cace01ae8b1"), looks := false }, kinds := [], alts := [], laidByText := true, laidKinds := [.data, .data, .data, .data, .data], laidTests := true, laidLooks := .later }
def ClockInstantsCardSaid : Prop := Claim7.holds Tryd.pinned (.plain (OpenSpec.ofChange clockInstantsSpec)) clockInstantsCard

/-- THE TIED CARD OF 'civiltimelaw04.ClockMoments'. -/
def clockMomentsCard : Claim7 := { stood := { row := clockMomentsRow, standIns := [], harness := (true, "547baeb88e90f168428c5e4fcc906349f16559b43d7780aeb4546cace01ae8b1"), looks := false }, kinds := [], alts := [], laidByText := true, laidKinds := [.data, .data, .data, .data, .data], laidTests := true, laidLooks := .later }
def ClockMomentsCardSaid : Prop := Claim7.holds Tryd.pinned (.plain (OpenSpec.ofChange clockMomentsSpec)) clockMomentsCard

/-- THE TIED CARD OF 'civiltimelaw04.ClockSteps'. -/
def clockStepsCard : Claim7 := { stood := { row := clockStepsRow, standIns := [], harness := (true, "547baeb88e90f168428c5e4fcc906349f16559b43d7780aeb4546cace01ae8b1"), looks := false }, kinds := [], alts := [], laidByText := true, laidKinds := [.data, .data, .data, .data, .data], laidTests := true, laidLooks := .later }
def ClockStepsCardSaid : Prop := Claim7.holds Tryd.pinned (.plain (OpenSpec.ofChange clockStepsSpec)) clockStepsCard

/-- THE TIED CARD OF 'civiltimelaw04.ClockOrder'. -/
def clockOrderCard : Claim7 := { stood := { row := clockOrderRow, standIns := [], harness := (true, "547baeb88e90f168428c5e4fcc906349f16559b43d7780aeb4546cace01ae8b1"), looks := false }, kinds := [], alts := [], laidByText := true, laidKinds := [.data, .data, .data, .data, .data], laidTests := true, laidLooks := .later }
def ClockOrderCardSaid : Prop := Claim7.holds Tryd.pinned (.plain (OpenSpec.ofChange clockOrderSpec)) clockOrderCard

/-- THE TIED CARD OF 'civiltimelaw04.ClockDurations'. -/
def clockDurationsCard : Claim7 := { stood := { row := clockDurationsRow, standIns := [], harness := (true, "547baeb88e90f168428c5e4fcc906349f16559b43d7780aeb4546cace01ae8b1"), looks := false }, kinds := [], alts := [], laidByText := true, laidKinds := [.data, .data, .data, .data, .data], laidTests := true, laidLooks := .later }
def ClockDurationsCardSaid : Prop := Claim7.holds Tryd.pinned (.plain (OpenSpec.ofChange clockDurationsSpec)) clockDurationsCard

/-- THE TIED CARD OF 'civiltimelaw04.ClockSums'. -/
def clockSumsCard : Claim7 := { stood := { row := clockSumsRow, standIns := [], harness := (true, "547baeb88e90f168428c5e4fcc906349f16559b43d7780aeb4546cace01ae8b1"), looks := false }, kinds := [], alts := [], laidByText := true, laidKinds := [.data, .data, .data, .data, .data], laidTests := true, laidLooks := .later }
def ClockSumsCardSaid : Prop := Claim7.holds Tryd.pinned (.plain (OpenSpec.ofChange clockSumsSpec)) clockSumsCard

/-- THE TIED CARD OF 'civiltimelaw04.ClockRounds'. -/
def clockRoundsCard : Claim7 := { stood := { row := clockRoundsRow, standIns := [], harness := (true, "547baeb88e90f168428c5e4fcc906349f16559b43d7780aeb4546cace01ae8b1"), looks := false }, kinds := [], alts := [], laidByText := true, laidKinds := [.data, .data, .data, .data, .data], laidTests := true, laidLooks := .later }
def ClockRoundsCardSaid : Prop := Claim7.holds Tryd.pinned (.plain (OpenSpec.ofChange clockRoundsSpec)) clockRoundsCard

/-- THE TIED CARD OF 'civiltimelaw04.ClockNear'. -/
def clockNearCard : Claim7 := { stood := { row := clockNearRow, standIns := [], harness := (true, "547baeb88e90f168428c5e4fcc906349f16559b43d7780aeb4546cace01ae8b1"), looks := false }, kinds := [], alts := [], laidByText := true, laidKinds := [.data, .data, .data, .data, .data], laidTests := true, laidLooks := .later }
def ClockNearCardSaid : Prop := Claim7.holds Tryd.pinned (.plain (OpenSpec.ofChange clockNearSpec)) clockNearCard

/-- THE SECOND FORM's CARD OF 'civiltimelaw04.ClockTimes'. -/
def clockTimesUptoCard : Claim7 := { stood := { row := clockTimesUptoRow, standIns := [], harness := (true, "547baeb88e90f168428c5e4fcc906349f16559b43d7780aeb4546cace01ae8b1"), looks := false }, kinds := [], alts := [], laidByText := true, laidKinds := [.data, .data, .data, .data, .data], laidTests := true, laidLooks := .later }
def ClockTimesUptoCardSaid : Prop := Claim7.holds Tryd.pinned (.plain (OpenSpec.upto clockTimesSpec)) clockTimesUptoCard

/-- THE SECOND FORM's CARD OF 'civiltimelaw04.ClockInstants'. -/
def clockInstantsUptoCard : Claim7 := { stood := { row := clockInstantsUptoRow, standIns := [], harness := (true, "547baeb88e90f168428c5e4fcc906349f16559b43d7780aeb4546cace01ae8b1"), looks := false }, kinds := [], alts := [], laidByText := true, laidKinds := [.data, .data, .data, .data, .data], laidTests := true, laidLooks := .later }
def ClockInstantsUptoCardSaid : Prop := Claim7.holds Tryd.pinned (.plain (OpenSpec.upto clockInstantsSpec)) clockInstantsUptoCard

/-- THE SECOND FORM's CARD OF 'civiltimelaw04.ClockMoments'. -/
def clockMomentsUptoCard : Claim7 := { stood := { row := clockMomentsUptoRow, standIns := [], harness := (true, "547baeb88e90f168428c5e4fcc906349f16559b43d7780aeb4546cace01ae8b1"), looks := false }, kinds := [], alts := [], laidByText := true, laidKinds := [.data, .data, .data, .data, .data], laidTests := true, laidLooks := .later }
def ClockMomentsUptoCardSaid : Prop := Claim7.holds Tryd.pinned (.plain (OpenSpec.upto clockMomentsSpec)) clockMomentsUptoCard

/-- THE SECOND FORM's CARD OF 'civiltimelaw04.ClockSteps'. -/
def clockStepsUptoCard : Claim7 := { stood := { row := clockStepsUptoRow, standIns := [], harness := (true, "547baeb88e90f168428c5e4fcc906349f16559b43d7780aeb4546cace01ae8b1"), looks := false }, kinds := [], alts := [], laidByText := true, laidKinds := [.data, .data, .data, .data, .data], laidTests := true, laidLooks := .later }
def ClockStepsUptoCardSaid : Prop := Claim7.holds Tryd.pinned (.plain (OpenSpec.upto clockStepsSpec)) clockStepsUptoCard

/-- THE SECOND FORM's CARD OF 'civiltimelaw04.ClockOrder'. -/
def clockOrderUptoCard : Claim7 := { stood := { row := clockOrderUptoRow, standIns := [], harness := (true, "547baeb88e90f168428c5e4fcc906349f16559b43d7780aeb4546cace01ae8b1"), looks := false }, kinds := [], alts := [], laidByText := true, laidKinds := [.data, .data, .data, .data, .data], laidTests := true, laidLooks := .later }
def ClockOrderUptoCardSaid : Prop := Claim7.holds Tryd.pinned (.plain (OpenSpec.upto clockOrderSpec)) clockOrderUptoCard

/-- THE SECOND FORM's CARD OF 'civiltimelaw04.ClockDurations'. -/
def clockDurationsUptoCard : Claim7 := { stood := { row := clockDurationsUptoRow, standIns := [], harness := (true, "547baeb88e90f168428c5e4fcc906349f16559b43d7780aeb4546cace01ae8b1"), looks := false }, kinds := [], alts := [], laidByText := true, laidKinds := [.data, .data, .data, .data, .data], laidTests := true, laidLooks := .later }
def ClockDurationsUptoCardSaid : Prop := Claim7.holds Tryd.pinned (.plain (OpenSpec.upto clockDurationsSpec)) clockDurationsUptoCard

/-- THE SECOND FORM's CARD OF 'civiltimelaw04.ClockSums'. -/
def clockSumsUptoCard : Claim7 := { stood := { row := clockSumsUptoRow, standIns := [], harness := (true, "547baeb88e90f168428c5e4fcc906349f16559b43d7780aeb4546cace01ae8b1"), looks := false }, kinds := [], alts := [], laidByText := true, laidKinds := [.data, .data, .data, .data, .data], laidTests := true, laidLooks := .later }
def ClockSumsUptoCardSaid : Prop := Claim7.holds Tryd.pinned (.plain (OpenSpec.upto clockSumsSpec)) clockSumsUptoCard

/-- THE SECOND FORM's CARD OF 'civiltimelaw04.ClockRounds'. -/
def clockRoundsUptoCard : Claim7 := { stood := { row := clockRoundsUptoRow, standIns := [], harness := (true, "547baeb88e90f168428c5e4fcc906349f16559b43d7780aeb4546cace01ae8b1"), looks := false }, kinds := [], alts := [], laidByText := true, laidKinds := [.data, .data, .data, .data, .data], laidTests := true, laidLooks := .later }
def ClockRoundsUptoCardSaid : Prop := Claim7.holds Tryd.pinned (.plain (OpenSpec.upto clockRoundsSpec)) clockRoundsUptoCard

/-- THE SECOND FORM's CARD OF 'civiltimelaw04.ClockNear'. -/
def clockNearUptoCard : Claim7 := { stood := { row := clockNearUptoRow, standIns := [], harness := (true, "547baeb88e90f168428c5e4fcc906349f16559b43d7780aeb4546cace01ae8b1"), looks := false }, kinds := [], alts := [], laidByText := true, laidKinds := [.data, .data, .data, .data, .data], laidTests := true, laidLooks := .later }
def ClockNearUptoCardSaid : Prop := Claim7.holds Tryd.pinned (.plain (OpenSpec.upto clockNearSpec)) clockNearUptoCard
end Rows
end Go.Proofs.YtehbegjocdahmaaDoor

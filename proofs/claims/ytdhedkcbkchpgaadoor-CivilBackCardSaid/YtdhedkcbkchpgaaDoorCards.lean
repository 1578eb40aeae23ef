/-
  DERIVED. GIVEN WITH THE SEED: THE CARDS: each row of YtdhedkcbkchpgaaDoorRows.lean that lists a variable, with what it lists TIED to the program's text (the seventh form; the later family's looks); each row that meets fmt, with fmt's text TOLD by the authors' own Lean function (tested against real Go, not proved from fmt's source: count such statements apart). THE CARD IS WHAT COUNTS. Prove the row's statement (the work); the ties are given (YtdhedkcbkchpgaaDoorTie.lean); close each card by the builder's one call (the guide's Derived/Test/ToyasCard.lean, 'card_holds'). Laid BY PROGRAM, IN A SANDBOX (cutbox-door.mjs). By AI agents, Wed Nov 11 2026. No macro, syntax, notation, axiom, sorry.
-/
import Derived.Test.YtdhedkcbkchpgaaDoorRows
import GoSem.ClaimSeven
namespace Go.Proofs.YtdhedkcbkchpgaaDoor
namespace Rows

/-- THE TIED CARD OF 'civiltimelaw02.CivilLengths'. -/
def civilLengthsCard : Claim7 := { stood := { row := civilLengthsRow, standIns := [], harness := (true, "bd011182d6331d794c386aaa31e12a62fccca0f2e7394d2e26b528242f577efe"), looks := true }, kinds := [], alts := [], laidByText := true, laidKinds := [.data], laidTests := true, laidLooks := .later }
def CivilLengthsCardSaid : Prop := Claim7.holds Tryd.pinned (.plain (OpenSpec.ofChange civilLengthsSpec)) civilLengthsCard

/-- THE TIED CARD OF 'civiltimelaw02.CivilDays'. -/
def civilDaysCard : Claim7 := { stood := { row := civilDaysRow, standIns := [], harness := (true, "bd011182d6331d794c386aaa31e12a62fccca0f2e7394d2e26b528242f577efe"), looks := true }, kinds := [], alts := [], laidByText := true, laidKinds := [.data], laidTests := true, laidLooks := .later }
def CivilDaysCardSaid : Prop := Claim7.holds Tryd.pinned (.plain (OpenSpec.ofChange civilDaysSpec)) civilDaysCard

/-- THE TIED CARD OF 'civiltimelaw02.CivilMonths'. -/
def civilMonthsCard : Claim7 := { stood := { row := civilMonthsRow, standIns := [], harness := (true, "bd011182d6331d794c386aaa31e12a62fccca0f2e7394d2e26b528242f577efe"), looks := true }, kinds := [], alts := [], laidByText := true, laidKinds := [.data], laidTests := true, laidLooks := .later }
def CivilMonthsCardSaid : Prop := Claim7.holds Tryd.pinned (.plain (OpenSpec.ofChange civilMonthsSpec)) civilMonthsCard

/-- THE TIED CARD OF 'civiltimelaw02.CivilNth'. -/
def civilNthCard : Claim7 := { stood := { row := civilNthRow, standIns := [], harness := (true, "bd011182d6331d794c386aaa31e12a62fccca0f2e7394d2e26b528242f577efe"), looks := true }, kinds := [], alts := [], laidByText := true, laidKinds := [.data], laidTests := true, laidLooks := .later }
def CivilNthCardSaid : Prop := Claim7.holds Tryd.pinned (.plain (OpenSpec.ofChange civilNthSpec)) civilNthCard

/-- THE TIED CARD OF 'civiltimelaw02.CivilTexts'. -/
def civilTextsCard : Claim7 := { stood := { row := civilTextsRow, standIns := [], harness := (true, "bd011182d6331d794c386aaa31e12a62fccca0f2e7394d2e26b528242f577efe"), looks := true }, kinds := [], alts := [], laidByText := true, laidKinds := [.data, .data, .data, .sentinel, .sentinel, .data], laidTests := true, laidLooks := .later }
def CivilTextsCardSaid : Prop := Claim7.holds Tryd.pinned (.plain (OpenSpec.ofChange civilTextsSpec)) civilTextsCard

/-- THE TIED CARD OF 'civiltimelaw02.CivilBack'. -/
def civilBackCard : Claim7 := { stood := { row := civilBackRow, standIns := [], harness := (true, "bd011182d6331d794c386aaa31e12a62fccca0f2e7394d2e26b528242f577efe"), looks := true }, kinds := [], alts := [], laidByText := true, laidKinds := [.data, .data, .data, .sentinel, .sentinel, .data], laidTests := true, laidLooks := .later }
def CivilBackCardSaid : Prop := Claim7.holds Tryd.pinned (.plain (OpenSpec.ofChange civilBackSpec)) civilBackCard

/-- THE TIED CARD OF 'civiltimelaw02.CivilNext'. -/
def civilNextCard : Claim7 := { stood := { row := civilNextRow, standIns := [], harness := (true, "bd011182d6331d794c386aaa31e12a62fccca0f2e7394d2e26b528242f577efe"), looks := true }, kinds := [], alts := [], laidByText := true, laidKinds := [.data], laidTests := true, laidLooks := .later }
def CivilNextCardSaid : Prop := Claim7.holds Tryd.pinned (.plain (OpenSpec.ofChange civilNextSpec)) civilNextCard

/-- THE TIED CARD OF 'civiltimelaw02.CivilCycle'. -/
def civilCycleCard : Claim7 := { stood := { row := civilCycleRow, standIns := [], harness := (true, "bd011182d6331d794c386aaa31e12a62fccca0f2e7394d2e26b528242f577efe"), looks := true }, kinds := [], alts := [], laidByText := true, laidKinds := [.data], laidTests := true, laidLooks := .later }
def CivilCycleCardSaid : Prop := Claim7.holds Tryd.pinned (.plain (OpenSpec.ofChange civilCycleSpec)) civilCycleCard

/-- THE TIED CARD OF 'civiltimelaw02.CivilUndone'. -/
def civilUndoneCard : Claim7 := { stood := { row := civilUndoneRow, standIns := [], harness := (true, "bd011182d6331d794c386aaa31e12a62fccca0f2e7394d2e26b528242f577efe"), looks := true }, kinds := [], alts := [], laidByText := true, laidKinds := [.data], laidTests := true, laidLooks := .later }
def CivilUndoneCardSaid : Prop := Claim7.holds Tryd.pinned (.plain (OpenSpec.ofChange civilUndoneSpec)) civilUndoneCard

/-- THE TIED CARD OF 'civiltimelaw02.CivilWeeks'. -/
def civilWeeksCard : Claim7 := { stood := { row := civilWeeksRow, standIns := [], harness := (true, "bd011182d6331d794c386aaa31e12a62fccca0f2e7394d2e26b528242f577efe"), looks := true }, kinds := [], alts := [], laidByText := true, laidKinds := [.data], laidTests := true, laidLooks := .later }
def CivilWeeksCardSaid : Prop := Claim7.holds Tryd.pinned (.plain (OpenSpec.ofChange civilWeeksSpec)) civilWeeksCard

/-- THE TIED CARD OF 'civiltimelaw02.CivilOrder'. -/
def civilOrderCard : Claim7 := { stood := { row := civilOrderRow, standIns := [], harness := (true, "bd011182d6331d794c386aaa31e12a62fccca0f2e7394d2e26b528242f577efe"), looks := true }, kinds := [], alts := [], laidByText := true, laidKinds := [.data, .data, .data, .data], laidTests := true, laidLooks := .later }
def CivilOrderCardSaid : Prop := Claim7.holds Tryd.pinned (.plain (OpenSpec.ofChange civilOrderSpec)) civilOrderCard

/-- THE SECOND FORM's CARD OF 'civiltimelaw02.CivilLengths'. -/
def civilLengthsUptoCard : Claim7 := { stood := { row := civilLengthsUptoRow, standIns := [], harness := (true, "bd011182d6331d794c386aaa31e12a62fccca0f2e7394d2e26b528242f577efe"), looks := true }, kinds := [], alts := [], laidByText := true, laidKinds := [.data], laidTests := true, laidLooks := .later }
def CivilLengthsUptoCardSaid : Prop := Claim7.holds Tryd.pinned (.plain (OpenSpec.upto civilLengthsSpec)) civilLengthsUptoCard

/-- THE SECOND FORM's CARD OF 'civiltimelaw02.CivilDays'. -/
def civilDaysUptoCard : Claim7 := { stood := { row := civilDaysUptoRow, standIns := [], harness := (true, "bd011182d6331d794c386aaa31e12a62fccca0f2e7394d2e26b528242f577efe"), looks := true }, kinds := [], alts := [], laidByText := true, laidKinds := [.data], laidTests := true, laidLooks := .later }
def CivilDaysUptoCardSaid : Prop := Claim7.holds Tryd.pinned (.plain (OpenSpec.upto civilDaysSpec)) civilDaysUptoCard

/-- THE SECOND FORM's CARD OF 'civiltimelaw02.CivilMonths'. -/
def civilMonthsUptoCard : Claim7 := { stood := { row := civilMonthsUptoRow, standIns := [], harness := (true, "bd011182d6331d794c386aaa31e12a62fccca0f2e7394d2e26b528242f577efe"), looks := true }, kinds := [], alts := [], laidByText := true, laidKinds := [.data], laidTests := true, laidLooks := .later }
def CivilMonthsUptoCardSaid : Prop := Claim7.holds Tryd.pinned (.plain (OpenSpec.upto civilMonthsSpec)) civilMonthsUptoCard

/-- THE SECOND FORM's CARD OF 'civiltimelaw02.CivilNth'. -/
def civilNthUptoCard : Claim7 := { stood := { row := civilNthUptoRow, standIns := [], harness := (true, "bd011182d6331d794c386aaa31e12a62fccca0f2e7394d2e26b528242f577efe"), looks := true }, kinds := [], alts := [], laidByText := true, laidKinds := [.data], laidTests := true, laidLooks := .later }
def CivilNthUptoCardSaid : Prop := Claim7.holds Tryd.pinned (.plain (OpenSpec.upto civilNthSpec)) civilNthUptoCard

/-- THE SECOND FORM's CARD OF 'civiltimelaw02.CivilTexts'. -/
def civilTextsUptoCard : Claim7 := { stood := { row := civilTextsUptoRow, standIns := [], harness := (true, "bd011182d6331d794c386aaa31e12a62fccca0f2e7394d2e26b528242f577efe"), looks := true }, kinds := [], alts := [], laidByText := true, laidKinds := [.data, .data, .data, .sentinel, .sentinel, .data], laidTests := true, laidLooks := .later }
def CivilTextsUptoCardSaid : Prop := Claim7.holds Tryd.pinned (.plain (OpenSpec.upto civilTextsSpec)) civilTextsUptoCard

/-- THE SECOND FORM's CARD OF 'civiltimelaw02.CivilBack'. -/
def civilBackUptoCard : Claim7 := { stood := { row := civilBackUptoRow, standIns := [], harness := (true, "bd011182d6331d794c386aaa31e12a62fccca0f2e7394d2e26b528242f577efe"), looks := true }, kinds := [], alts := [], laidByText := true, laidKinds := [.data, .data, .data, .sentinel, .sentinel, .data], laidTests := true, laidLooks := .later }
def CivilBackUptoCardSaid : Prop := Claim7.holds Tryd.pinned (.plain (OpenSpec.upto civilBackSpec)) civilBackUptoCard

/-- THE SECOND FORM's CARD OF 'civiltimelaw02.CivilNext'. -/
def civilNextUptoCard : Claim7 := { stood := { row := civilNextUptoRow, standIns := [], harness := (true, "bd011182d6331d794c386aaa31e12a62fccca0f2e7394d2e26b528242f577efe"), looks := true }, kinds := [], alts := [], laidByText := true, laidKinds := [.data], laidTests := true, laidLooks := .later }
def CivilNextUptoCardSaid : Prop := Claim7.holds Tryd.pinned (.plain (OpenSpec.upto civilNextSpec)) civilNextUptoCard

/-- THE SECOND FORM's CARD OF 'civiltimelaw02.CivilCycle'. -/
def civilCycleUptoCard : Claim7 := { stood := { row := civilCycleUptoRow, standIns := [], harness := (true, "bd011182d6331d794c386aaa31e12a62fccca0f2e7394d2e26b528242f577efe"), looks := true }, kinds := [], alts := [], laidByText := true, laidKinds := [.data], laidTests := true, laidLooks := .later }
def CivilCycleUptoCardSaid : Prop := Claim7.holds Tryd.pinned (.plain (OpenSpec.upto civilCycleSpec)) civilCycleUptoCard

/-- THE SECOND FORM's CARD OF 'civiltimelaw02.CivilUndone'. -/
def civilUndoneUptoCard : Claim7 := { stood := { row := civilUndoneUptoRow, standIns := [], harness := (true, "bd011182d6331d794c386aaa31e12a62fccca0f2e7394d2e26b528242f577efe"), looks := true }, kinds := [], alts := [], laidByText := true, laidKinds := [.data], laidTests := true, laidLooks := .later }
def CivilUndoneUptoCardSaid : Prop := Claim7.holds Tryd.pinned (.plain (OpenSpec.upto civilUndoneSpec)) civilUndoneUptoCard

/-- THE SECOND FORM's CARD OF 'civiltimelaw02.CivilWeeks'. -/
def civilWeeksUptoCard : Claim7 := { stood := { row := civilWeeksUptoRow, standIns := [], harness := (true, "bd011182d6331d794c386aaa31e12a62fccca0f2e7394d2e26b528242f577efe"), looks := true }, kinds := [], alts := [], laidByText := true, laidKinds := [.data], laidTests := true, laidLooks := .later }
def CivilWeeksUptoCardSaid : Prop := Claim7.holds Tryd.pinned (.plain (OpenSpec.upto civilWeeksSpec)) civilWeeksUptoCard

/-- THE SECOND FORM's CARD OF 'civiltimelaw02.CivilOrder'. -/
def civilOrderUptoCard : Claim7 := { stood := { row := civilOrderUptoRow, standIns := [], harness := (true, "bd011182d6331d794c386aaa31e12a62fccca0f2e7394d2e26b528242f577efe"), looks := true }, kinds := [], alts := [], laidByText := true, laidKinds := [.data, .data, .data, .data], laidTests := true, laidLooks := .later }
def CivilOrderUptoCardSaid : Prop := Claim7.holds Tryd.pinned (.plain (OpenSpec.upto civilOrderSpec)) civilOrderUptoCard
end Rows
end Go.Proofs.YtdhedkcbkchpgaaDoor

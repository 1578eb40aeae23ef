/-
  DERIVED. GIVEN WITH THE SEED: THE CARDS: each row of YtimpaaimdjlhjaaDoorRows.lean that lists a variable, with what it lists TIED to the program's text (the seventh form; the later family's looks); each row that meets fmt, with fmt's text TOLD by the authors' own Lean function (tested against real Go, not proved from fmt's source: count such statements apart). THE CARD IS WHAT COUNTS. Prove the row's statement (the work); the ties are given (YtimpaaimdjlhjaaDoorTie.lean); close each card by the builder's one call (the guide's Derived/Test/ToyasCard.lean, 'card_holds'). Laid BY PROGRAM, IN A SANDBOX (cutbox-door.mjs). By AI agents, Wed Nov 11 2026. No macro, syntax, notation, axiom, sorry.
-/
import Derived.Test.YtimpaaimdjlhjaaDoorRows
import GoSem.ClaimSeven
namespace Go.Proofs.YtimpaaimdjlhjaaDoor
namespace Rows

/-- THE TIED CARD OF 'civiltimelaw03.WeekDates'. -/
def weekDatesCard : Claim7 := { stood := { row := weekDatesRow, standIns := [], harness := (true, "7d223bea02eca88756d175fbd9859c0630d85adb812b13203e4b73d60e90a45e"), looks := true }, kinds := [], alts := [], laidByText := true, laidKinds := [.data], laidTests := true, laidLooks := .later }
def WeekDatesCardSaid : Prop := Claim7.holds Tryd.pinned (.plain (OpenSpec.ofChange weekDatesSpec)) weekDatesCard

/-- THE TIED CARD OF 'civiltimelaw03.WeekDays'. -/
def weekDaysCard : Claim7 := { stood := { row := weekDaysRow, standIns := [], harness := (true, "7d223bea02eca88756d175fbd9859c0630d85adb812b13203e4b73d60e90a45e"), looks := true }, kinds := [], alts := [], laidByText := true, laidKinds := [.data], laidTests := true, laidLooks := .later }
def WeekDaysCardSaid : Prop := Claim7.holds Tryd.pinned (.plain (OpenSpec.ofChange weekDaysSpec)) weekDaysCard

/-- THE TIED CARD OF 'civiltimelaw03.WeekYears'. -/
def weekYearsCard : Claim7 := { stood := { row := weekYearsRow, standIns := [], harness := (true, "7d223bea02eca88756d175fbd9859c0630d85adb812b13203e4b73d60e90a45e"), looks := true }, kinds := [], alts := [], laidByText := true, laidKinds := [.data], laidTests := true, laidLooks := .later }
def WeekYearsCardSaid : Prop := Claim7.holds Tryd.pinned (.plain (OpenSpec.ofChange weekYearsSpec)) weekYearsCard

/-- THE TIED CARD OF 'civiltimelaw03.WeekTexts'. -/
def weekTextsCard : Claim7 := { stood := { row := weekTextsRow, standIns := [], harness := (true, "7d223bea02eca88756d175fbd9859c0630d85adb812b13203e4b73d60e90a45e"), looks := true }, kinds := [], alts := [], laidByText := true, laidKinds := [.data, .data, .data, .sentinel, .sentinel, .data], laidTests := true, laidLooks := .later }
def WeekTextsCardSaid : Prop := Claim7.holds Tryd.pinned (.plain (OpenSpec.ofChange weekTextsSpec)) weekTextsCard

/-- THE TIED CARD OF 'civiltimelaw03.WeekOrdinals'. -/
def weekOrdinalsCard : Claim7 := { stood := { row := weekOrdinalsRow, standIns := [], harness := (true, "7d223bea02eca88756d175fbd9859c0630d85adb812b13203e4b73d60e90a45e"), looks := true }, kinds := [], alts := [], laidByText := true, laidKinds := [.data], laidTests := true, laidLooks := .later }
def WeekOrdinalsCardSaid : Prop := Claim7.holds Tryd.pinned (.plain (OpenSpec.ofChange weekOrdinalsSpec)) weekOrdinalsCard

/-- THE TIED CARD OF 'civiltimelaw03.WeekBack'. -/
def weekBackCard : Claim7 := { stood := { row := weekBackRow, standIns := [], harness := (true, "7d223bea02eca88756d175fbd9859c0630d85adb812b13203e4b73d60e90a45e"), looks := true }, kinds := [], alts := [], laidByText := true, laidKinds := [.data], laidTests := true, laidLooks := .later }
def WeekBackCardSaid : Prop := Claim7.holds Tryd.pinned (.plain (OpenSpec.ofChange weekBackSpec)) weekBackCard

/-- THE TIED CARD OF 'civiltimelaw03.WeekNext'. -/
def weekNextCard : Claim7 := { stood := { row := weekNextRow, standIns := [], harness := (true, "7d223bea02eca88756d175fbd9859c0630d85adb812b13203e4b73d60e90a45e"), looks := true }, kinds := [], alts := [], laidByText := true, laidKinds := [.data], laidTests := true, laidLooks := .later }
def WeekNextCardSaid : Prop := Claim7.holds Tryd.pinned (.plain (OpenSpec.ofChange weekNextSpec)) weekNextCard

/-- THE TIED CARD OF 'civiltimelaw03.WeekMinimal'. -/
def weekMinimalCard : Claim7 := { stood := { row := weekMinimalRow, standIns := [], harness := (true, "7d223bea02eca88756d175fbd9859c0630d85adb812b13203e4b73d60e90a45e"), looks := true }, kinds := [], alts := [], laidByText := true, laidKinds := [.data], laidTests := true, laidLooks := .later }
def WeekMinimalCardSaid : Prop := Claim7.holds Tryd.pinned (.plain (OpenSpec.ofChange weekMinimalSpec)) weekMinimalCard

/-- THE TIED CARD OF 'civiltimelaw03.WeekParses'. -/
def weekParsesCard : Claim7 := { stood := { row := weekParsesRow, standIns := [], harness := (true, "7d223bea02eca88756d175fbd9859c0630d85adb812b13203e4b73d60e90a45e"), looks := true }, kinds := [], alts := [], laidByText := true, laidKinds := [.data, .data, .data, .sentinel, .sentinel, .data], laidTests := true, laidLooks := .later }
def WeekParsesCardSaid : Prop := Claim7.holds Tryd.pinned (.plain (OpenSpec.ofChange weekParsesSpec)) weekParsesCard

/-- THE SECOND FORM's CARD OF 'civiltimelaw03.WeekDates'. -/
def weekDatesUptoCard : Claim7 := { stood := { row := weekDatesUptoRow, standIns := [], harness := (true, "7d223bea02eca88756d175fbd9859c0630d85adb812b13203e4b73d60e90a45e"), looks := true }, kinds := [], alts := [], laidByText := true, laidKinds := [.data], laidTests := true, laidLooks := .later }
def WeekDatesUptoCardSaid : Prop := Claim7.holds Tryd.pinned (.plain (OpenSpec.upto weekDatesSpec)) weekDatesUptoCard

/-- THE SECOND FORM's CARD OF 'civiltimelaw03.WeekDays'. -/
def weekDaysUptoCard : Claim7 := { stood := { row := weekDaysUptoRow, standIns := [], harness := (true, "7d223bea02eca88756d175fbd9859c0630d85adb812b13203e4b73d60e90a45e"), looks := true }, kinds := [], alts := [], laidByText := true, laidKinds := [.data], laidTests := true, laidLooks := .later }
def WeekDaysUptoCardSaid : Prop := Claim7.holds Tryd.pinned (.plain (OpenSpec.upto weekDaysSpec)) weekDaysUptoCard

/-- THE SECOND FORM's CARD OF 'civiltimelaw03.WeekYears'. -/
def weekYearsUptoCard : Claim7 := { stood := { row := weekYearsUptoRow, standIns := [], harness := (true, "7d223bea02eca88756d175fbd9859c0630d85adb812b13203e4b73d60e90a45e"), looks := true }, kinds := [], alts := [], laidByText := true, laidKinds := [.data], laidTests := true, laidLooks := .later }
def WeekYearsUptoCardSaid : Prop := Claim7.holds Tryd.pinned (.plain (OpenSpec.upto weekYearsSpec)) weekYearsUptoCard

/-- THE SECOND FORM's CARD OF 'civiltimelaw03.WeekTexts'. -/
def weekTextsUptoCard : Claim7 := { stood := { row := weekTextsUptoRow, standIns := [], harness := (true, "7d223bea02eca88756d175fbd9859c0630d85adb812b13203e4b73d60e90a45e"), looks := true }, kinds := [], alts := [], laidByText := true, laidKinds := [.data, .data, .data, .sentinel, .sentinel, .data], laidTests := true, laidLooks := .later }
def WeekTextsUptoCardSaid : Prop := Claim7.holds Tryd.pinned (.plain (OpenSpec.upto weekTextsSpec)) weekTextsUptoCard

/-- THE SECOND FORM's CARD OF 'civiltimelaw03.WeekOrdinals'. -/
def weekOrdinalsUptoCard : Claim7 := { stood := { row := weekOrdinalsUptoRow, standIns := [], harness := (true, "7d223bea02eca88756d175fbd9859c0630d85adb812b13203e4b73d60e90a45e"), looks := true }, kinds := [], alts := [], laidByText := true, laidKinds := [.data], laidTests := true, laidLooks := .later }
def WeekOrdinalsUptoCardSaid : Prop := Claim7.holds Tryd.pinned (.plain (OpenSpec.upto weekOrdinalsSpec)) weekOrdinalsUptoCard

/-- THE SECOND FORM's CARD OF 'civiltimelaw03.WeekBack'. -/
def weekBackUptoCard : Claim7 := { stood := { row := weekBackUptoRow, standIns := [], harness := (true, "7d223bea02eca88756d175fbd9859c0630d85adb812b13203e4b73d60e90a45e"), looks := true }, kinds := [], alts := [], laidByText := true, laidKinds := [.data], laidTests := true, laidLooks := .later }
def WeekBackUptoCardSaid : Prop := Claim7.holds Tryd.pinned (.plain (OpenSpec.upto weekBackSpec)) weekBackUptoCard

/-- THE SECOND FORM's CARD OF 'civiltimelaw03.WeekNext'. -/
def weekNextUptoCard : Claim7 := { stood := { row := weekNextUptoRow, standIns := [], harness := (true, "7d223bea02eca88756d175fbd9859c0630d85adb812b13203e4b73d60e90a45e"), looks := true }, kinds := [], alts := [], laidByText := true, laidKinds := [.data], laidTests := true, laidLooks := .later }
def WeekNextUptoCardSaid : Prop := Claim7.holds Tryd.pinned (.plain (OpenSpec.upto weekNextSpec)) weekNextUptoCard

/-- THE SECOND FORM's CARD OF 'civiltimelaw03.WeekMinimal'. -/
def weekMinimalUptoCard : Claim7 := { stood := { row := weekMinimalUptoRow, standIns := [], harness := (true, "7d223bea02eca88756d175fbd9859c0630d85adb812b13203e4b73d60e90a45e"), looks := true }, kinds := [], alts := [], laidByText := true, laidKinds := [.data], laidTests := true, laidLooks := .later }
def WeekMinimalUptoCardSaid : Prop := Claim7.holds Tryd.pinned (.plain (OpenSpec.upto weekMinimalSpec)) weekMinimalUptoCard

/-- THE SECOND FORM's CARD OF 'civiltimelaw03.WeekParses'. -/
def weekParsesUptoCard : Claim7 := { stood := { row := weekParsesUptoRow, standIns := [], harness := (true, "7d223bea02eca88756d175fbd9859c0630d85adb812b13203e4b73d60e90a45e"), looks := true }, kinds := [], alts := [], laidByText := true, laidKinds := [.data, .data, .data, .sentinel, .sentinel, .data], laidTests := true, laidLooks := .later }
def WeekParsesUptoCardSaid : Prop := Claim7.holds Tryd.pinned (.plain (OpenSpec.upto weekParsesSpec)) weekParsesUptoCard
end Rows
end Go.Proofs.YtimpaaimdjlhjaaDoor

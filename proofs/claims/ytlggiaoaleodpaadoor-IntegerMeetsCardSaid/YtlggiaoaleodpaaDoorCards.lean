/-
  DERIVED. GIVEN WITH THE SEED: THE CARDS: each row of YtlggiaoaleodpaaDoorRows.lean that lists a variable, with what it lists TIED to the program's text (the seventh form; the later family's looks); each row that meets fmt, with fmt's text TOLD by the authors' own Lean function (tested against real Go, not proved from fmt's source: count such statements apart). THE CARD IS WHAT COUNTS. Prove the row's statement (the work); the ties are given (YtlggiaoaleodpaaDoorTie.lean); close each card by the builder's one call (the guide's Derived/Test/ToyasCard.lean, 'card_holds'). Laid BY PROGRAM, IN A SANDBOX (cutbox-door.mjs). By AI agents, Wed Nov 11 2026. No macro, syntax, notation, axiom, sorry.
-/
import Derived.Test.YtlggiaoaleodpaaDoorRows
import GoSem.ClaimSeven
namespace Go.Proofs.YtlggiaoaleodpaaDoor
namespace Rows

/-- THE TIED CARD OF 'civiltimelaw01.IntegerDivides'. -/
def integerDividesCard : Claim7 := { stood := { row := integerDividesRow, standIns := [], harness := (true, "3e8641f566956c8866e779d1423930c7c24f325ca9e4871243734266dac740a0"), looks := true }, kinds := [], alts := [], laidByText := true, laidKinds := [.data, .data, .data], laidTests := true, laidLooks := .later }
def IntegerDividesCardSaid : Prop := Claim7.holds Tryd.pinned (.plain (OpenSpec.ofChange integerDividesSpec)) integerDividesCard

/-- THE TIED CARD OF 'civiltimelaw01.IntegerSums'. -/
def integerSumsCard : Claim7 := { stood := { row := integerSumsRow, standIns := [], harness := (true, "3e8641f566956c8866e779d1423930c7c24f325ca9e4871243734266dac740a0"), looks := true }, kinds := [], alts := [], laidByText := true, laidKinds := [.data, .data, .data], laidTests := true, laidLooks := .later }
def IntegerSumsCardSaid : Prop := Claim7.holds Tryd.pinned (.plain (OpenSpec.ofChange integerSumsSpec)) integerSumsCard

/-- THE TIED CARD OF 'civiltimelaw01.IntegerDivisors'. -/
def integerDivisorsCard : Claim7 := { stood := { row := integerDivisorsRow, standIns := [], harness := (true, "3e8641f566956c8866e779d1423930c7c24f325ca9e4871243734266dac740a0"), looks := true }, kinds := [], alts := [], laidByText := true, laidKinds := [.data, .data, .data], laidTests := true, laidLooks := .later }
def IntegerDivisorsCardSaid : Prop := Claim7.holds Tryd.pinned (.plain (OpenSpec.ofChange integerDivisorsSpec)) integerDivisorsCard

/-- THE TIED CARD OF 'civiltimelaw01.IntegerMultiples'. -/
def integerMultiplesCard : Claim7 := { stood := { row := integerMultiplesRow, standIns := [], harness := (true, "3e8641f566956c8866e779d1423930c7c24f325ca9e4871243734266dac740a0"), looks := true }, kinds := [], alts := [], laidByText := true, laidKinds := [.data, .data, .data], laidTests := true, laidLooks := .later }
def IntegerMultiplesCardSaid : Prop := Claim7.holds Tryd.pinned (.plain (OpenSpec.ofChange integerMultiplesSpec)) integerMultiplesCard

/-- THE TIED CARD OF 'civiltimelaw01.IntegerMeets'. -/
def integerMeetsCard : Claim7 := { stood := { row := integerMeetsRow, standIns := [], harness := (true, "3e8641f566956c8866e779d1423930c7c24f325ca9e4871243734266dac740a0"), looks := true }, kinds := [], alts := [], laidByText := true, laidKinds := [.data, .data, .data], laidTests := true, laidLooks := .later }
def IntegerMeetsCardSaid : Prop := Claim7.holds Tryd.pinned (.plain (OpenSpec.ofChange integerMeetsSpec)) integerMeetsCard

/-- THE TIED CARD OF 'civiltimelaw01.IntegerSolves'. -/
def integerSolvesCard : Claim7 := { stood := { row := integerSolvesRow, standIns := [], harness := (true, "3e8641f566956c8866e779d1423930c7c24f325ca9e4871243734266dac740a0"), looks := true }, kinds := [], alts := [], laidByText := true, laidKinds := [.data, .data, .data], laidTests := true, laidLooks := .later }
def IntegerSolvesCardSaid : Prop := Claim7.holds Tryd.pinned (.plain (OpenSpec.ofChange integerSolvesSpec)) integerSolvesCard

/-- THE TIED CARD OF 'civiltimelaw01.IntegerTexts'. -/
def integerTextsCard : Claim7 := { stood := { row := integerTextsRow, standIns := [], harness := (true, "3e8641f566956c8866e779d1423930c7c24f325ca9e4871243734266dac740a0"), looks := true }, kinds := [], alts := [], laidByText := true, laidKinds := [.data, .data, .data], laidTests := true, laidLooks := .later }
def IntegerTextsCardSaid : Prop := Claim7.holds Tryd.pinned (.plain (OpenSpec.ofChange integerTextsSpec)) integerTextsCard

/-- THE TIED CARD OF 'civiltimelaw01.IntegerParses'. -/
def integerParsesCard : Claim7 := { stood := { row := integerParsesRow, standIns := [], harness := (true, "3e8641f566956c8866e779d1423930c7c24f325ca9e4871243734266dac740a0"), looks := true }, kinds := [], alts := [], laidByText := true, laidKinds := [.data, .data, .data, .sentinel, .sentinel], laidTests := true, laidLooks := .later }
def IntegerParsesCardSaid : Prop := Claim7.holds Tryd.pinned (.plain (OpenSpec.ofChange integerParsesSpec)) integerParsesCard

/-- THE TIED CARD OF 'civiltimelaw01.IntegerBack'. -/
def integerBackCard : Claim7 := { stood := { row := integerBackRow, standIns := [], harness := (true, "3e8641f566956c8866e779d1423930c7c24f325ca9e4871243734266dac740a0"), looks := true }, kinds := [], alts := [], laidByText := true, laidKinds := [.data, .data, .data, .sentinel, .sentinel], laidTests := true, laidLooks := .later }
def IntegerBackCardSaid : Prop := Claim7.holds Tryd.pinned (.plain (OpenSpec.ofChange integerBackSpec)) integerBackCard

/-- THE TIED CARD OF 'civiltimelaw01.IntegerSteps'. -/
def integerStepsCard : Claim7 := { stood := { row := integerStepsRow, standIns := [], harness := (true, "3e8641f566956c8866e779d1423930c7c24f325ca9e4871243734266dac740a0"), looks := true }, kinds := [], alts := [], laidByText := true, laidKinds := [.data, .data, .data], laidTests := true, laidLooks := .later }
def IntegerStepsCardSaid : Prop := Claim7.holds Tryd.pinned (.plain (OpenSpec.ofChange integerStepsSpec)) integerStepsCard

/-- THE SECOND FORM's CARD OF 'civiltimelaw01.IntegerDivides'. -/
def integerDividesUptoCard : Claim7 := { stood := { row := integerDividesUptoRow, standIns := [], harness := (true, "3e8641f566956c8866e779d1423930c7c24f325ca9e4871243734266dac740a0"), looks := true }, kinds := [], alts := [], laidByText := true, laidKinds := [.data, .data, .data], laidTests := true, laidLooks := .later }
def IntegerDividesUptoCardSaid : Prop := Claim7.holds Tryd.pinned (.plain (OpenSpec.upto integerDividesSpec)) integerDividesUptoCard

/-- THE SECOND FORM's CARD OF 'civiltimelaw01.IntegerSums'. -/
def integerSumsUptoCard : Claim7 := { stood := { row := integerSumsUptoRow, standIns := [], harness := (true, "3e8641f566956c8866e779d1423930c7c24f325ca9e4871243734266dac740a0"), looks := true }, kinds := [], alts := [], laidByText := true, laidKinds := [.data, .data, .data], laidTests := true, laidLooks := .later }
def IntegerSumsUptoCardSaid : Prop := Claim7.holds Tryd.pinned (.plain (OpenSpec.upto integerSumsSpec)) integerSumsUptoCard

/-- THE SECOND FORM's CARD OF 'civiltimelaw01.IntegerDivisors'. -/
def integerDivisorsUptoCard : Claim7 := { stood := { row := integerDivisorsUptoRow, standIns := [], harness := (true, "3e8641f566956c8866e779d1423930c7c24f325ca9e4871243734266dac740a0"), looks := true }, kinds := [], alts := [], laidByText := true, laidKinds := [.data, .data, .data], laidTests := true, laidLooks := .later }
def IntegerDivisorsUptoCardSaid : Prop := Claim7.holds Tryd.pinned (.plain (OpenSpec.upto integerDivisorsSpec)) integerDivisorsUptoCard

/-- THE SECOND FORM's CARD OF 'civiltimelaw01.IntegerMultiples'. -/
def integerMultiplesUptoCard : Claim7 := { stood := { row := integerMultiplesUptoRow, standIns := [], harness := (true, "3e8641f566956c8866e779d1423930c7c24f325ca9e4871243734266dac740a0"), looks := true }, kinds := [], alts := [], laidByText := true, laidKinds := [.data, .data, .data], laidTests := true, laidLooks := .later }
def IntegerMultiplesUptoCardSaid : Prop := Claim7.holds Tryd.pinned (.plain (OpenSpec.upto integerMultiplesSpec)) integerMultiplesUptoCard

/-- THE SECOND FORM's CARD OF 'civiltimelaw01.IntegerMeets'. -/
def integerMeetsUptoCard : Claim7 := { stood := { row := integerMeetsUptoRow, standIns := [], harness := (true, "3e8641f566956c8866e779d1423930c7c24f325ca9e4871243734266dac740a0"), looks := true }, kinds := [], alts := [], laidByText := true, laidKinds := [.data, .data, .data], laidTests := true, laidLooks := .later }
def IntegerMeetsUptoCardSaid : Prop := Claim7.holds Tryd.pinned (.plain (OpenSpec.upto integerMeetsSpec)) integerMeetsUptoCard

/-- THE SECOND FORM's CARD OF 'civiltimelaw01.IntegerSolves'. -/
def integerSolvesUptoCard : Claim7 := { stood := { row := integerSolvesUptoRow, standIns := [], harness := (true, "3e8641f566956c8866e779d1423930c7c24f325ca9e4871243734266dac740a0"), looks := true }, kinds := [], alts := [], laidByText := true, laidKinds := [.data, .data, .data], laidTests := true, laidLooks := .later }
def IntegerSolvesUptoCardSaid : Prop := Claim7.holds Tryd.pinned (.plain (OpenSpec.upto integerSolvesSpec)) integerSolvesUptoCard

/-- THE SECOND FORM's CARD OF 'civiltimelaw01.IntegerTexts'. -/
def integerTextsUptoCard : Claim7 := { stood := { row := integerTextsUptoRow, standIns := [], harness := (true, "3e8641f566956c8866e779d1423930c7c24f325ca9e4871243734266dac740a0"), looks := true }, kinds := [], alts := [], laidByText := true, laidKinds := [.data, .data, .data], laidTests := true, laidLooks := .later }
def IntegerTextsUptoCardSaid : Prop := Claim7.holds Tryd.pinned (.plain (OpenSpec.upto integerTextsSpec)) integerTextsUptoCard

/-- THE SECOND FORM's CARD OF 'civiltimelaw01.IntegerParses'. -/
def integerParsesUptoCard : Claim7 := { stood := { row := integerParsesUptoRow, standIns := [], harness := (true, "3e8641f566956c8866e779d1423930c7c24f325ca9e4871243734266dac740a0"), looks := true }, kinds := [], alts := [], laidByText := true, laidKinds := [.data, .data, .data, .sentinel, .sentinel], laidTests := true, laidLooks := .later }
def IntegerParsesUptoCardSaid : Prop := Claim7.holds Tryd.pinned (.plain (OpenSpec.upto integerParsesSpec)) integerParsesUptoCard

/-- THE SECOND FORM's CARD OF 'civiltimelaw01.IntegerBack'. -/
def integerBackUptoCard : Claim7 := { stood := { row := integerBackUptoRow, standIns := [], harness := (true, "3e8641f566956c8866e779d1423930c7c24f325ca9e4871243734266dac740a0"), looks := true }, kinds := [], alts := [], laidByText := true, laidKinds := [.data, .data, .data, .sentinel, .sentinel], laidTests := true, laidLooks := .later }
def IntegerBackUptoCardSaid : Prop := Claim7.holds Tryd.pinned (.plain (OpenSpec.upto integerBackSpec)) integerBackUptoCard

/-- THE SECOND FORM's CARD OF 'civiltimelaw01.IntegerSteps'. -/
def integerStepsUptoCard : Claim7 := { stood := { row := integerStepsUptoRow, standIns := [], harness := (true, "3e8641f566956c8866e779d1423930c7c24f325ca9e4871243734266dac740a0"), looks := true }, kinds := [], alts := [], laidByText := true, laidKinds := [.data, .data, .data], laidTests := true, laidLooks := .later }
def IntegerStepsUptoCardSaid : Prop := Claim7.holds Tryd.pinned (.plain (OpenSpec.upto integerStepsSpec)) integerStepsUptoCard
end Rows
end Go.Proofs.YtlggiaoaleodpaaDoor

/-
  DERIVED. GIVEN WITH THE SEED: THE CARDS: each row of YtobipbmigpkhmaaDoorRows.lean that lists a variable, with what it lists TIED to the program's text (the seventh form; the later family's looks); each row that meets fmt, with fmt's text TOLD by the authors' own Lean function (tested against real Go, not proved from fmt's source: count such statements apart). THE CARD IS WHAT COUNTS. Prove the row's statement (the work); the ties are given (YtobipbmigpkhmaaDoorTie.lean); close each card by the builder's one call (the guide's Derived/Test/ToyasCard.lean, 'card_holds'). Laid BY PROGRAM, IN A SANDBOX (cutbox-door.mjs). By AI agents, Wed Nov 11 2026. No macro, syntax, notation, axiom, sorry.
-/
import Derived.Test.YtobipbmigpkhmaaDoorRows
import GoSem.ClaimSeven
namespace Go.Proofs.YtobipbmigpkhmaaDoor
namespace Rows

/-- THE TIED CARD OF 'civiltimelaw06.IslamicLengths'. -/
def islamicLengthsCard : Claim7 := { stood := { row := islamicLengthsRow, standIns := [], harness := (true, "26b63324e01911855f10c1b0c0ee73a1d5aa525ae9d404b4f79664107b3b3a9f"), looks := false }, kinds := [], alts := [], laidByText := true, laidKinds := [.data], laidTests := true, laidLooks := .later }
def IslamicLengthsCardSaid : Prop := Claim7.holds Tryd.pinned (.plain (OpenSpec.ofChange islamicLengthsSpec)) islamicLengthsCard

/-- THE TIED CARD OF 'civiltimelaw06.IslamicDays'. -/
def islamicDaysCard : Claim7 := { stood := { row := islamicDaysRow, standIns := [], harness := (true, "26b63324e01911855f10c1b0c0ee73a1d5aa525ae9d404b4f79664107b3b3a9f"), looks := false }, kinds := [], alts := [], laidByText := true, laidKinds := [.data], laidTests := true, laidLooks := .later }
def IslamicDaysCardSaid : Prop := Claim7.holds Tryd.pinned (.plain (OpenSpec.ofChange islamicDaysSpec)) islamicDaysCard

/-- THE TIED CARD OF 'civiltimelaw06.IslamicMonths'. -/
def islamicMonthsCard : Claim7 := { stood := { row := islamicMonthsRow, standIns := [], harness := (true, "26b63324e01911855f10c1b0c0ee73a1d5aa525ae9d404b4f79664107b3b3a9f"), looks := false }, kinds := [], alts := [], laidByText := true, laidKinds := [.data], laidTests := true, laidLooks := .later }
def IslamicMonthsCardSaid : Prop := Claim7.holds Tryd.pinned (.plain (OpenSpec.ofChange islamicMonthsSpec)) islamicMonthsCard

/-- THE TIED CARD OF 'civiltimelaw06.IslamicMoved'. -/
def islamicMovedCard : Claim7 := { stood := { row := islamicMovedRow, standIns := [], harness := (true, "26b63324e01911855f10c1b0c0ee73a1d5aa525ae9d404b4f79664107b3b3a9f"), looks := false }, kinds := [], alts := [], laidByText := true, laidKinds := [.data, .data], laidTests := true, laidLooks := .later }
def IslamicMovedCardSaid : Prop := Claim7.holds Tryd.pinned (.plain (OpenSpec.ofChange islamicMovedSpec)) islamicMovedCard

/-- THE TIED CARD OF 'civiltimelaw06.IslamicBack'. -/
def islamicBackCard : Claim7 := { stood := { row := islamicBackRow, standIns := [], harness := (true, "26b63324e01911855f10c1b0c0ee73a1d5aa525ae9d404b4f79664107b3b3a9f"), looks := false }, kinds := [], alts := [], laidByText := true, laidKinds := [.data], laidTests := true, laidLooks := .later }
def IslamicBackCardSaid : Prop := Claim7.holds Tryd.pinned (.plain (OpenSpec.ofChange islamicBackSpec)) islamicBackCard

/-- THE TIED CARD OF 'civiltimelaw06.IslamicCycle'. -/
def islamicCycleCard : Claim7 := { stood := { row := islamicCycleRow, standIns := [], harness := (true, "26b63324e01911855f10c1b0c0ee73a1d5aa525ae9d404b4f79664107b3b3a9f"), looks := false }, kinds := [], alts := [], laidByText := true, laidKinds := [.data], laidTests := true, laidLooks := .later }
def IslamicCycleCardSaid : Prop := Claim7.holds Tryd.pinned (.plain (OpenSpec.ofChange islamicCycleSpec)) islamicCycleCard

/-- THE TIED CARD OF 'civiltimelaw06.IslamicKinds'. -/
def islamicKindsCard : Claim7 := { stood := { row := islamicKindsRow, standIns := [], harness := (true, "26b63324e01911855f10c1b0c0ee73a1d5aa525ae9d404b4f79664107b3b3a9f"), looks := false }, kinds := [], alts := [], laidByText := true, laidKinds := [.data], laidTests := true, laidLooks := .later }
def IslamicKindsCardSaid : Prop := Claim7.holds Tryd.pinned (.plain (OpenSpec.ofChange islamicKindsSpec)) islamicKindsCard

/-- THE TIED CARD OF 'civiltimelaw06.IslamicGranules'. -/
def islamicGranulesCard : Claim7 := { stood := { row := islamicGranulesRow, standIns := [], harness := (true, "26b63324e01911855f10c1b0c0ee73a1d5aa525ae9d404b4f79664107b3b3a9f"), looks := false }, kinds := [], alts := [], laidByText := true, laidKinds := [.data], laidTests := true, laidLooks := .later }
def IslamicGranulesCardSaid : Prop := Claim7.holds Tryd.pinned (.plain (OpenSpec.ofChange islamicGranulesSpec)) islamicGranulesCard

/-- THE TIED CARD OF 'civiltimelaw06.IslamicWanders'. -/
def islamicWandersCard : Claim7 := { stood := { row := islamicWandersRow, standIns := [], harness := (true, "26b63324e01911855f10c1b0c0ee73a1d5aa525ae9d404b4f79664107b3b3a9f"), looks := false }, kinds := [], alts := [], laidByText := true, laidKinds := [.data, .data], laidTests := true, laidLooks := .later }
def IslamicWandersCardSaid : Prop := Claim7.holds Tryd.pinned (.plain (OpenSpec.ofChange islamicWandersSpec)) islamicWandersCard

/-- THE SECOND FORM's CARD OF 'civiltimelaw06.IslamicLengths'. -/
def islamicLengthsUptoCard : Claim7 := { stood := { row := islamicLengthsUptoRow, standIns := [], harness := (true, "26b63324e01911855f10c1b0c0ee73a1d5aa525ae9d404b4f79664107b3b3a9f"), looks := false }, kinds := [], alts := [], laidByText := true, laidKinds := [.data], laidTests := true, laidLooks := .later }
def IslamicLengthsUptoCardSaid : Prop := Claim7.holds Tryd.pinned (.plain (OpenSpec.upto islamicLengthsSpec)) islamicLengthsUptoCard

/-- THE SECOND FORM's CARD OF 'civiltimelaw06.IslamicDays'. -/
def islamicDaysUptoCard : Claim7 := { stood := { row := islamicDaysUptoRow, standIns := [], harness := (true, "26b63324e01911855f10c1b0c0ee73a1d5aa525ae9d404b4f79664107b3b3a9f"), looks := false }, kinds := [], alts := [], laidByText := true, laidKinds := [.data], laidTests := true, laidLooks := .later }
def IslamicDaysUptoCardSaid : Prop := Claim7.holds Tryd.pinned (.plain (OpenSpec.upto islamicDaysSpec)) islamicDaysUptoCard

/-- THE SECOND FORM's CARD OF 'civiltimelaw06.IslamicMonths'. -/
def islamicMonthsUptoCard : Claim7 := { stood := { row := islamicMonthsUptoRow, standIns := [], harness := (true, "26b63324e01911855f10c1b0c0ee73a1d5aa525ae9d404b4f79664107b3b3a9f"), looks := false }, kinds := [], alts := [], laidByText := true, laidKinds := [.data], laidTests := true, laidLooks := .later }
def IslamicMonthsUptoCardSaid : Prop := Claim7.holds Tryd.pinned (.plain (OpenSpec.upto islamicMonthsSpec)) islamicMonthsUptoCard

/-- THE SECOND FORM's CARD OF 'civiltimelaw06.IslamicMoved'. -/
def islamicMovedUptoCard : Claim7 := { stood := { row := islamicMovedUptoRow, standIns := [], harness := (true, "26b63324e01911855f10c1b0c0ee73a1d5aa525ae9d404b4f79664107b3b3a9f"), looks := false }, kinds := [], alts := [], laidByText := true, laidKinds := [.data, .data], laidTests := true, laidLooks := .later }
def IslamicMovedUptoCardSaid : Prop := Claim7.holds Tryd.pinned (.plain (OpenSpec.upto islamicMovedSpec)) islamicMovedUptoCard

/-- THE SECOND FORM's CARD OF 'civiltimelaw06.IslamicBack'. -/
def islamicBackUptoCard : Claim7 := { stood := { row := islamicBackUptoRow, standIns := [], harness := (true, "26b63324e01911855f10c1b0c0ee73a1d5aa525ae9d404b4f79664107b3b3a9f"), looks := false }, kinds := [], alts := [], laidByText := true, laidKinds := [.data], laidTests := true, laidLooks := .later }
def IslamicBackUptoCardSaid : Prop := Claim7.holds Tryd.pinned (.plain (OpenSpec.upto islamicBackSpec)) islamicBackUptoCard

/-- THE SECOND FORM's CARD OF 'civiltimelaw06.IslamicCycle'. -/
def islamicCycleUptoCard : Claim7 := { stood := { row := islamicCycleUptoRow, standIns := [], harness := (true, "26b63324e01911855f10c1b0c0ee73a1d5aa525ae9d404b4f79664107b3b3a9f"), looks := false }, kinds := [], alts := [], laidByText := true, laidKinds := [.data], laidTests := true, laidLooks := .later }
def IslamicCycleUptoCardSaid : Prop := Claim7.holds Tryd.pinned (.plain (OpenSpec.upto islamicCycleSpec)) islamicCycleUptoCard

/-- THE SECOND FORM's CARD OF 'civiltimelaw06.IslamicKinds'. -/
def islamicKindsUptoCard : Claim7 := { stood := { row := islamicKindsUptoRow, standIns := [], harness := (true, "26b63324e01911855f10c1b0c0ee73a1d5aa525ae9d404b4f79664107b3b3a9f"), looks := false }, kinds := [], alts := [], laidByText := true, laidKinds := [.data], laidTests := true, laidLooks := .later }
def IslamicKindsUptoCardSaid : Prop := Claim7.holds Tryd.pinned (.plain (OpenSpec.upto islamicKindsSpec)) islamicKindsUptoCard

/-- THE SECOND FORM's CARD OF 'civiltimelaw06.IslamicGranules'. -/
def islamicGranulesUptoCard : Claim7 := { stood := { row := islamicGranulesUptoRow, standIns := [], harness := (true, "26b63324e01911855f10c1b0c0ee73a1d5aa525ae9d404b4f79664107b3b3a9f"), looks := false }, kinds := [], alts := [], laidByText := true, laidKinds := [.data], laidTests := true, laidLooks := .later }
def IslamicGranulesUptoCardSaid : Prop := Claim7.holds Tryd.pinned (.plain (OpenSpec.upto islamicGranulesSpec)) islamicGranulesUptoCard

/-- THE SECOND FORM's CARD OF 'civiltimelaw06.IslamicWanders'. -/
def islamicWandersUptoCard : Claim7 := { stood := { row := islamicWandersUptoRow, standIns := [], harness := (true, "26b63324e01911855f10c1b0c0ee73a1d5aa525ae9d404b4f79664107b3b3a9f"), looks := false }, kinds := [], alts := [], laidByText := true, laidKinds := [.data, .data], laidTests := true, laidLooks := .later }
def IslamicWandersUptoCardSaid : Prop := Claim7.holds Tryd.pinned (.plain (OpenSpec.upto islamicWandersSpec)) islamicWandersUptoCard
end Rows
end Go.Proofs.YtobipbmigpkhmaaDoor

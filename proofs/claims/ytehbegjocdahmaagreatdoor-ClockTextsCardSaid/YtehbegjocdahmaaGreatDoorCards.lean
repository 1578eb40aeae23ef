/-
  DERIVED. GIVEN WITH THE SEED: THE CARDS: each row of YtehbegjocdahmaaGreatDoorRows.lean that lists a variable, with what it lists TIED to the program's text (the seventh form; the later family's looks); each row that meets fmt, with fmt's text TOLD by the authors' own Lean function (tested against real Go, not proved from fmt's source: count such statements apart). THE CARD IS WHAT COUNTS. Prove the row's statement (the work); the ties are given (YtehbegjocdahmaaGreatDoorTie.lean); close each card by the builder's one call (the guide's Derived/Test/ToyasCard.lean, 'card_holds'). Laid BY PROGRAM, IN A SANDBOX (cutbox-door.mjs). By AI agents, Wed Nov 11 2026. No macro, syntax, notation, axiom, sorry.
-/
import Derived.Test.YtehbegjocdahmaaGreatDoorRows
import GoSem.ClaimSeven
namespace Go.Proofs.YtehbegjocdahmaaGreatDoor
namespace Rows

/-- THE TIED CARD OF 'civiltimelaw04.ClockTexts'. -/
def clockTextsCard : Claim7 := { stood := { row := clockTextsRow, standIns := [], harness := (true, "4292679ae493913ce3d83869ddcceeee49df730cf57199dceeafe8c93bb70f51"), looks := true }, kinds := [], alts := [], laidByText := true, laidKinds := [.data, .data, .data, .sentinel, .sentinel, .data, .data], laidTests := true, laidLooks := .later }
def ClockTextsCardSaid : Prop := Claim7.holds Tryz.pinned (.plain (OpenSpec.ofChange clockTextsSpec)) clockTextsCard

/-- THE SECOND FORM's CARD OF 'civiltimelaw04.ClockTexts'. -/
def clockTextsUptoCard : Claim7 := { stood := { row := clockTextsUptoRow, standIns := [], harness := (true, "4292679ae493913ce3d83869ddcceeee49df730cf57199dceeafe8c93bb70f51"), looks := true }, kinds := [], alts := [], laidByText := true, laidKinds := [.data, .data, .data, .sentinel, .sentinel, .data, .data], laidTests := true, laidLooks := .later }
def ClockTextsUptoCardSaid : Prop := Claim7.holds Tryz.pinned (.plain (OpenSpec.upto clockTextsSpec)) clockTextsUptoCard
end Rows
end Go.Proofs.YtehbegjocdahmaaGreatDoor

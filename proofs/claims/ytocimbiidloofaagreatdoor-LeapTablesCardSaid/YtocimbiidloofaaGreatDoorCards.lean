/-
  DERIVED. GIVEN WITH THE SEED: THE CARDS: each row of YtocimbiidloofaaGreatDoorRows.lean that lists a variable, with what it lists TIED to the program's text (the seventh form; the later family's looks); each row that meets fmt, with fmt's text TOLD by the authors' own Lean function (tested against real Go, not proved from fmt's source: count such statements apart). THE CARD IS WHAT COUNTS. Prove the row's statement (the work); the ties are given (YtocimbiidloofaaGreatDoorTie.lean); close each card by the builder's one call (the guide's Derived/Test/ToyasCard.lean, 'card_holds'). Laid BY PROGRAM, IN A SANDBOX (cutbox-door.mjs). By AI agents, Wed Nov 11 2026. No macro, syntax, notation, axiom, sorry.
-/
import Derived.Test.YtocimbiidloofaaGreatDoorRows
import GoSem.ClaimSeven
namespace Go.Proofs.YtocimbiidloofaaGreatDoor
namespace Rows

/-- THE TIED CARD OF 'civiltimelaw09.LeapTables'. -/
def leapTablesCard : Claim7 := { stood := { row := leapTablesRow, standIns := [], harness := (true, "3d086dfee44cface0ae90f15383e6169fd1f4a7c1c9068613e835d13606bd5a1"), looks := true }, kinds := [], alts := [], laidByText := true, laidKinds := [.data, .data, .data, .sentinel, .sentinel, .data], laidTests := true, laidLooks := .later }
def LeapTablesCardSaid : Prop := Claim7.holds Tryz.pinned (.plain (OpenSpec.ofChange leapTablesSpec)) leapTablesCard

/-- THE SECOND FORM's CARD OF 'civiltimelaw09.LeapTables'. -/
def leapTablesUptoCard : Claim7 := { stood := { row := leapTablesUptoRow, standIns := [], harness := (true, "3d086dfee44cface0ae90f15383e6169fd1f4a7c1c9068613e835d13606bd5a1"), looks := true }, kinds := [], alts := [], laidByText := true, laidKinds := [.data, .data, .data, .sentinel, .sentinel, .data], laidTests := true, laidLooks := .later }
def LeapTablesUptoCardSaid : Prop := Claim7.holds Tryz.pinned (.plain (OpenSpec.upto leapTablesSpec)) leapTablesUptoCard
end Rows
end Go.Proofs.YtocimbiidloofaaGreatDoor

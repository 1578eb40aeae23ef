/- Contracts of civiltimeref01: Div, Floor, Mod. -/
import Derived.Test.YtocimbiidloofaaGreatDoorProg

import Derived.Test.YtocimbiidloofaaGreatDoorLGen

import Derived.WalkKit

import Derived.Outline

import Derived.Deep.QuietTactic

import Derived.BigQuiet

namespace Go.Proofs.YtocimbiidloofaaGreatDoor

open Go.RowKit

set_option linter.unusedVariables false
end Go.Proofs.YtocimbiidloofaaGreatDoor

/- Contracts of civiltimeref01: Div, Floor, Mod. -/
import Derived.Test.YtehbegjocdahmaaGreatDoorProg

import Derived.Test.YtehbegjocdahmaaGreatDoorLGen

import Derived.WalkKit

import Derived.Outline

import Derived.Deep.QuietTactic

import Derived.BigQuiet

namespace Go.Proofs.YtehbegjocdahmaaGreatDoor

open Go.RowKit

set_option linter.unusedVariables false
end Go.Proofs.YtehbegjocdahmaaGreatDoor

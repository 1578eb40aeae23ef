/- Contracts of civiltimeref01: Div, Floor, Mod. -/
import Derived.Test.YtocimbiidloofaaDoorProg

import Derived.Test.YtocimbiidloofaaDoorLGen

import Derived.WalkKit

import Derived.Outline

import Derived.Deep.QuietTactic

import Derived.BigQuiet

namespace Go.Proofs.YtocimbiidloofaaDoor

open Go.RowKit

set_option linter.unusedVariables false
end Go.Proofs.YtocimbiidloofaaDoor

/- The contract of integer.magnitude. -/
import Derived.Test.YtocimbiidloofaaDoorProg

import Derived.Test.YtocimbiidloofaaDoorLPlain

import Derived.Lib.Hide

import Derived.Outline

import Derived.WalkKit

namespace Go.Proofs.YtocimbiidloofaaDoor

open Go.RowKit

set_option linter.unusedVariables false
end Go.Proofs.YtocimbiidloofaaDoor

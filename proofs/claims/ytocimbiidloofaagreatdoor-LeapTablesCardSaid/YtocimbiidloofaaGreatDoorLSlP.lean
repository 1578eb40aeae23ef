/- slices.Equal of spans. -/
import Derived.Test.YtocimbiidloofaaGreatDoorLSl

namespace Go.Proofs.YtocimbiidloofaaGreatDoor

open Go.RowKit

set_option linter.unusedVariables false
end Go.Proofs.YtocimbiidloofaaGreatDoor

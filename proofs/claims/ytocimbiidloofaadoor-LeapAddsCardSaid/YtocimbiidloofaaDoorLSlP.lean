/- slices.Equal of spans. -/
import Derived.Test.YtocimbiidloofaaDoorLSl

namespace Go.Proofs.YtocimbiidloofaaDoor

open Go.RowKit

set_option linter.unusedVariables false
end Go.Proofs.YtocimbiidloofaaDoor

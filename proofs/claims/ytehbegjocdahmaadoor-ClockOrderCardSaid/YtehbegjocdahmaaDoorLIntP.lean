/- Contracts of integer.isDecimal and Parse (ShelfTwo: strconv_Atoi_ok, _range_var, strings_TrimPrefix). -/
import Derived.Test.YtehbegjocdahmaaDoorShelfTwo

import Derived.Test.YtehbegjocdahmaaDoorLDig

import Derived.Test.YtehbegjocdahmaaDoorLGen

import Derived.OpenShut

namespace Go.Proofs.YtehbegjocdahmaaDoor

open Go.RowKit

set_option linter.unusedVariables false
/-- The listed sentinel of strconv: an error value, whichever. -/
def Ev (w : World) : Prop := ∃ tp p, w.var? Tryd.prog "strconv.ErrRange" = some #[.iface tp p]
end Go.Proofs.YtehbegjocdahmaaDoor

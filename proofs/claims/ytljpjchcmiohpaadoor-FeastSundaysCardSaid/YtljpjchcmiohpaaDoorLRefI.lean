/- Contracts of civiltimeref01: Div, Floor, Mod. -/
import Derived.Test.YtljpjchcmiohpaaDoorProg

import Derived.Test.YtljpjchcmiohpaaDoorLGen

import Derived.WalkKit

import Derived.Outline

import Derived.Deep.QuietTactic

import Derived.BigQuiet

namespace Go.Proofs.YtljpjchcmiohpaaDoor

open Go.RowKit

set_option linter.unusedVariables false
end Go.Proofs.YtljpjchcmiohpaaDoor

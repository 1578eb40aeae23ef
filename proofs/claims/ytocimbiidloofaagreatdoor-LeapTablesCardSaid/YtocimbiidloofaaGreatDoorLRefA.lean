/- Contracts of civiltimeref02: Leap, Length, Weekday, Valid, YearDay, Day, Date. -/
import Derived.Test.YtocimbiidloofaaGreatDoorProg

import Derived.Test.YtocimbiidloofaaGreatDoorLGen

import Derived.Test.YtocimbiidloofaaGreatDoorLCal

import Derived.WalkKit

import Derived.Outline

import Derived.Deep.QuietTactic

import Derived.BigQuiet

import Derived.Deep.RegionWith

import Derived.Laws.BitsLemmas

namespace Go.Proofs.YtocimbiidloofaaGreatDoor

open Go.RowKit

set_option linter.unusedVariables false
end Go.Proofs.YtocimbiidloofaaGreatDoor

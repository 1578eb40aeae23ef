/- TvNb. -/
import Derived.Test.YtmamlgaogpkagaaGreatQLPlain
import Derived.Test.YtmamlgaogpkagaaGreatQLGen
import Derived.StillTailTactics
import Derived.BigQuiet
import Derived.Deep.QuietTactic
import Derived.Deep.RegionHeld3
import Derived.Laws.EntriesVeiled
import Derived.Deep.AppendLies
import Derived.Laws.AppendOwnNone
import Derived.Lay
import Derived.LoopIn
import Derived.LoopNIn
import Derived.OwnWalkIn
import Derived.RangeFuncBound
import Derived.RangeFuncNested
import Derived.Shelf.RegionOpen
import Derived.Test.YtmamlgaogpkagaaGreatShelf
import Derived.Test.YtmamlgaogpkagaaGreatShelfSort
namespace Go.Proofs.YtmamlgaogpkagaaGreat
open Go.RowKit
set_option linter.unusedVariables false
set_option linter.unusedSimpArgs false
set_option maxRecDepth 100000 in
set_option maxHeartbeats 2000000 in
theorem tvkp2 (a b:Bool) (w:World):Calls Tryz.prog 102 #[.bool a,.bool b] w fun e w'=>e=.returned (.bool (kpB 2 a b))∧Below w.heap.size w w':=by
 cases a <;> cases b
 all_goals
  go_enter Tryz.func102,Tryz.ntmps102
  go_wp2
  go_ret
  exact ⟨rfl,here w⟩
end Go.Proofs.YtmamlgaogpkagaaGreat

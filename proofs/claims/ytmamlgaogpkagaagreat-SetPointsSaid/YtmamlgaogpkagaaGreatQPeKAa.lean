/- PeKAa. -/
import Derived.Test.YtmamlgaogpkagaaGreatQLPlain
import Derived.Deep.RegionHeld3
import Derived.Laws.AppendOwnNone
import Derived.Lib.Hide
import Derived.Lib.SmallJoins
import Derived.StillTailTactics
import Derived.Test.YtmamlgaogpkagaaGreatShelfSort
import Derived.WalkLawsBesides
namespace Go.Proofs.YtmamlgaogpkagaaGreat
open Go.RowKit
set_option linter.unusedVariables false
set_option linter.unusedSimpArgs false
theorem upisline (n:Int) (w:World) :
    Calls Tryz.prog 135 #[.int .i64 n] w fun e w'=>e=.returned (.bool (nvB n))∧w=w':=by
  unfold nvB
  cases p:decide (-4398046511104≤n) <;> cases q:decide (n≤4398046511104)
  all_goals
    go_enter Tryz.func135,Tryz.ntmps135
    go_wp2
    go_ret
    exact ⟨rfl,rfl⟩
end Go.Proofs.YtmamlgaogpkagaaGreat

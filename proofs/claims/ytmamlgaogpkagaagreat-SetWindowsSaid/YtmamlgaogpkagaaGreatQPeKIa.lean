/- PeKIa. -/
import Derived.Test.YtmamlgaogpkagaaGreatQLPlain
import Derived.Deep.AppendLies
import Derived.Deep.RegionHeld3
import Derived.Laws.AppendOwnNone
import Derived.Lib.SmallJoins
import Derived.StillTailTactics
import Derived.Test.YtmamlgaogpkagaaGreatShelf
import Derived.Test.YtmamlgaogpkagaaGreatShelfSort
import Derived.WalkLawsBesides
namespace Go.Proofs.YtmamlgaogpkagaaGreat
open Go.RowKit
set_option linter.unusedVariables false
set_option linter.unusedSimpArgs false
def wiR (f:Int→Bool) (x y:Int):List Sp × Int:=if 2000<(caL f x y).length then ([],5) else (caL f x y,0)
end Go.Proofs.YtmamlgaogpkagaaGreat

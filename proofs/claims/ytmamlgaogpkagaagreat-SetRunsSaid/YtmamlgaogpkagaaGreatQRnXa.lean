/- RnXa. -/
import Derived.Test.YtmamlgaogpkagaaGreatQLSl
import Derived.Deep.RegionHeld3
import Derived.Laws.AppendOwnNone
namespace Go.Proofs.YtmamlgaogpkagaaGreat
open Go.RowKit
set_option linter.unusedVariables false
set_option linter.unusedSimpArgs false
theorem prs_nil (B:Nat) (w:World):PairS B w (.slice none 0 0) []:=Sl.none B w
end Go.Proofs.YtmamlgaogpkagaaGreat

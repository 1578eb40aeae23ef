/- PeHEb. -/
import Derived.Test.YtmamlgaogpkagaaGreatQLPlain
import Derived.Test.YtmamlgaogpkagaaGreatQLGen
import Derived.Test.YtmamlgaogpkagaaGreatQLSl
import Derived.Deep.AppendLies
import Derived.Deep.RegionHeld3
import Derived.Laws.AppendOwnNone
import Derived.Lay
import Derived.Test.YtmamlgaogpkagaaGreatShelf
import Derived.Test.YtmamlgaogpkagaaGreatShelfSort
namespace Go.Proofs.YtmamlgaogpkagaaGreat
open Go.RowKit
set_option linter.unusedVariables false
set_option linter.unusedSimpArgs false
theorem sl_eq (v1 v2:Value) (L:List Sp) (hL:L.length≤2000) {b1 b2:Nat} (W:World) (p:PairS b1 W v1 L) (q:PairS b2 W v2 L) :
    Calls Tryz.prog 36 #[v1,v2] W fun e w'=>e=.returned (.bool true)∧Below W.heap.size W w':=(eq_pairs L L v1 v2 (by omega) W p q).mono (by
    rintro e w' ⟨e1,d,rfl⟩;refine ⟨?_,below_drewN (here _) d⟩;rw [e1,beq_self_eq_true])
end Go.Proofs.YtmamlgaogpkagaaGreat

/- RnZ. -/
import Derived.Test.YtmamlgaogpkagaaGreatQLPlain
import Derived.BigQuiet
import Derived.Deep.RegionHeld3
import Derived.Laws.AppendOwnNone
import Derived.Lib.Hide
import Derived.Lib.SmallJoins
import Derived.StillTailTactics
import Derived.Test.YtmamlgaogpkagaaGreatProg
import Derived.WalkLawsBesides
namespace Go.Proofs.YtmamlgaogpkagaaGreat
open Go.RowKit
set_option linter.unusedVariables false
set_option linter.unusedSimpArgs false
theorem sh_at (L:List Sp) (n:Int) {k:Nat} (hk:k<L.length):(shL L n).getD k (0,0)=((L.getD k (0,0)).1+n,(L.getD k (0,0)).2+n):=by
 unfold shL
 rw [List.getD_eq_getElem?_getD,List.getD_eq_getElem?_getD,List.getElem?_map,List.getElem?_eq_getElem hk];rfl
theorem take_snoc (M:List Sp) {k:Nat} (hk:k<M.length):M.take (k+1)=M.take k++[M.getD k (0,0)]:=by
 rw [List.take_add_one,List.getD_eq_getElem?_getD,List.getElem?_eq_getElem hk];rfl
end Go.Proofs.YtmamlgaogpkagaaGreat

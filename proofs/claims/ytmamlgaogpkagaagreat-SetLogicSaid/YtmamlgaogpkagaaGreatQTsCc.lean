/- TsCc. -/
import Derived.Test.YtmamlgaogpkagaaGreatQPeKJ
import Derived.Test.YtmamlgaogpkagaaGreatQTsGa
import Derived.Test.YtmamlgaogpkagaaGreatQTsUb
namespace Go.Proofs.YtmamlgaogpkagaaGreat
open Go.RowKit
set_option linter.unusedVariables false
set_option linter.unusedSimpArgs false
theorem eq_res {s t:TS} (h:VS s) (k:VS t) (e:∀ x,hsT s x=hsT t x):(vsB s&&smT s t)=true:=by
 rw [vs_ok.2 h,sm_iff.2 (vs_ext h k (funext e))];rfl
end Go.Proofs.YtmamlgaogpkagaaGreat

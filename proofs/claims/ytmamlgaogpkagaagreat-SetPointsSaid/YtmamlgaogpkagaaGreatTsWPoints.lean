/- The walk of SetPoints, as its closing text takes it. -/
import Derived.Test.YtmamlgaogpkagaaGreatQTvNa
import Derived.Test.YtmamlgaogpkagaaGreatQTvPb
import Derived.Test.YtmamlgaogpkagaaGreatQTvRb
import Derived.Test.YtmamlgaogpkagaaGreatQTsCg
import Derived.Test.YtmamlgaogpkagaaGreatQTlCb
import Derived.Test.YtmamlgaogpkagaaGreatQLRd
import Derived.Test.YtmamlgaogpkagaaGreatQTlP
import Derived.Test.YtmamlgaogpkagaaGreatTlI
import Derived.OpenShut
namespace Go.Proofs.YtmamlgaogpkagaaGreat
open Go.RowKit
set_option linter.unusedVariables false
theorem SetPoints.walk (a:TS) (vaa vab val:Value) (b:TS) (vba vbb vbl:Value) (x:Int) (n:Int) (wx:(Lit.int .i64 x).wf=true) (wn:(Lit.int .i64 n).wf=true) (w:World) (ha:TsI a∧SS3 w a vaa vab val) (hb:TsI b∧SS3 w b vba vbb vbl) (_:True) :
  Calls Tryz.prog 8 #[.agg #[.int .i64 a.P,vaa,.int .i64 a.Q,vab,.int .i64 a.a,.int .i64 a.b,val],.agg #[.int .i64 b.P,vba,.int .i64 b.Q,vbb,.int .i64 b.a,.int .i64 b.b,vbl],.int .i64 x,.int .i64 n] w fun e w'=>e=.returned (.bool true)∧Below w.heap.size w w' :=
 plpoints a vaa vab val ha.1 b vba vbb vbl hb.1 x (i64_wf wx) n (i64_wf wn) w ha.2 hb.2
end Go.Proofs.YtmamlgaogpkagaaGreat

/- The walk of SetRuns, as its closing text takes it. -/
import Derived.Test.YtmamlgaogpkagaaGreatQLRd
import Derived.Test.YtmamlgaogpkagaaGreatQTlR
import Derived.OpenShut
namespace Go.Proofs.YtmamlgaogpkagaaGreat
open Go.RowKit
set_option linter.unusedVariables false
theorem SetRuns.walk (s:TS) (vsa vsb vsl:Value) (a:Int) (b:Int) (c:Int) (x:Int) (wa:(Lit.int .i64 a).wf=true) (wb:(Lit.int .i64 b).wf=true) (wc:(Lit.int .i64 c).wf=true) (wx:(Lit.int .i64 x).wf=true) (w:World) (hs:TsI s∧SS3 w s vsa vsb vsl) (_:True) :
    Calls Tryz.prog 11 #[.agg #[.int .i64 s.P,vsa,.int .i64 s.Q,vsb,.int .i64 s.a,.int .i64 s.b,vsl],.int .i64 a,.int .i64 b,.int .i64 c,.int .i64 x] w fun e w'=>e=.returned (.bool true)∧Below w.heap.size w w' :=
  plruns s vsa vsb vsl hs.1 a (i64_wf wa) b (i64_wf wb) c (i64_wf wc) x (i64_wf wx) w hs.2
end Go.Proofs.YtmamlgaogpkagaaGreat

/- The walk of SetNeighbours, as its closing text takes it. -/
import Derived.Test.YtmamlgaogpkagaaGreatQLRd
import Derived.Test.YtmamlgaogpkagaaGreatQTlQ
import Derived.OpenShut
namespace Go.Proofs.YtmamlgaogpkagaaGreat
open Go.RowKit
set_option linter.unusedVariables false
theorem SetNeighbours.walk (s:TS) (vsa vsb vsl:Value) (x:Int) (wx:(Lit.int .i64 x).wf=true) (w:World) (hs:TsI s∧SS3 w s vsa vsb vsl) (_:True) :
    Calls Tryz.prog 7 #[.agg #[.int .i64 s.P,vsa,.int .i64 s.Q,vsb,.int .i64 s.a,.int .i64 s.b,vsl],.int .i64 x] w fun e w'=>e=.returned (.bool true)∧Below w.heap.size w w' :=
  plnear s vsa vsb vsl hs.1 x (i64_wf wx) w hs.2
end Go.Proofs.YtmamlgaogpkagaaGreat

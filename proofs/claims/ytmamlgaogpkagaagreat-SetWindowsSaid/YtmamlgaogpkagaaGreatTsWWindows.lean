/- The walk of SetWindows, as its closing text takes it. -/
import Derived.Test.YtmamlgaogpkagaaGreatQLRd
import Derived.Test.YtmamlgaogpkagaaGreatQTlE
import Derived.OpenShut
namespace Go.Proofs.YtmamlgaogpkagaaGreat
open Go.RowKit
set_option linter.unusedVariables false
theorem SetWindows.walk (s:TS) (vsa vsb vsl:Value) (x:Int) (y:Int) (wx:(Lit.int .i64 x).wf=true) (wy:(Lit.int .i64 y).wf=true) (w:World) (hs:TsI s∧SS3 w s vsa vsb vsl) (_:True) :
    Calls Tryz.prog 6 #[.agg #[.int .i64 s.P,vsa,.int .i64 s.Q,vsb,.int .i64 s.a,.int .i64 s.b,vsl],.agg #[.int .i64 x,.int .i64 y]] w fun e w'=>e=.returned (.bool true)∧Below w.heap.size w w' :=
  plwin s vsa vsb vsl hs.1 x y (i64_wf wx) (i64_wf wy) w hs.2
end Go.Proofs.YtmamlgaogpkagaaGreat

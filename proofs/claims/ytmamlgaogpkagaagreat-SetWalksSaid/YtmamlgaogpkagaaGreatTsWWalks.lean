/- The walk of SetWalks, as its closing text takes it. -/
import Derived.Test.YtmamlgaogpkagaaGreatQLRd
import Derived.Test.YtmamlgaogpkagaaGreatQTlK
import Derived.OpenShut
namespace Go.Proofs.YtmamlgaogpkagaaGreat
open Go.RowKit
set_option linter.unusedVariables false
theorem SetWalks.walk (s:TS) (vsa vsb vsl:Value) (x:Int) (d:Int) (wx:(Lit.int .i64 x).wf=true) (wd:(Lit.int .u8 d).wf=true) (w:World) (hs:TsI s∧SS3 w s vsa vsb vsl) (_:True) :
    Calls Tryz.prog 10 #[.agg #[.int .i64 s.P,vsa,.int .i64 s.Q,vsb,.int .i64 s.a,.int .i64 s.b,vsl],.int .i64 x,.int .u8 d] w fun e w'=>e=.returned (.bool true)∧Below w.heap.size w w' :=
  plwalks s vsa vsb vsl hs.1 x (i64_wf wx) d (Go.bounds_u8 wd) w hs.2
end Go.Proofs.YtmamlgaogpkagaaGreat

/- The walk of SetUnique, as its closing text takes it. -/
import Derived.Test.YtmamlgaogpkagaaGreatZTlB
import Derived.OpenShut
namespace Go.Proofs.YtmamlgaogpkagaaGreat
open Go.RowKit
set_option linter.unusedVariables false
theorem SetUnique.walk (s:TS) (vsa vsb vsl:Value) (n:Int) (m:Int) (wn:(Lit.int .u8 n).wf=true) (wm:(Lit.int .u8 m).wf=true) (w:World) (hs:TsI s∧SS3 w s vsa vsb vsl) (_:True) :
  Calls Tryz.prog 12 #[.agg #[.int .i64 s.P,vsa,.int .i64 s.Q,vsb,.int .i64 s.a,.int .i64 s.b,vsl],.int .u8 n,.int .u8 m] w fun e w'=>e=.returned (.bool true)∧Below w.heap.size w w' :=
 pluniq s vsa vsb vsl hs.1 n (Go.bounds_u8 wn) m (Go.bounds_u8 wm) w hs.2
end Go.Proofs.YtmamlgaogpkagaaGreat

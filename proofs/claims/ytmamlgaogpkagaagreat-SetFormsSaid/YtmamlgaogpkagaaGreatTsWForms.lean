/- The walk of SetForms, as its closing text takes it. -/
import Derived.Test.YtmamlgaogpkagaaGreatQTlD
import Derived.Test.YtmamlgaogpkagaaGreatQLRd
import Derived.OpenShut
namespace Go.Proofs.YtmamlgaogpkagaaGreat
open Go.RowKit
set_option linter.unusedVariables false
theorem SetForms.walk (s:TS) (vsa vsb vsl:Value) (t:TS) (vta vtb vtl:Value) (x:Int) (wx:(Lit.int .i64 x).wf=true) (w:World) (hs:TsI s∧SS3 w s vsa vsb vsl) (ht:TsI t∧SS3 w t vta vtb vtl) (_:True) :
    Calls Tryz.prog 3 #[.agg #[.int .i64 s.P,vsa,.int .i64 s.Q,vsb,.int .i64 s.a,.int .i64 s.b,vsl],.agg #[.int .i64 t.P,vta,.int .i64 t.Q,vtb,.int .i64 t.a,.int .i64 t.b,vtl],.int .i64 x] w fun e w'=>e=.returned (.bool true)∧Below w.heap.size w w' :=
  plforms s vsa vsb vsl hs.1 t vta vtb vtl ht.1 x (i64_wf wx) w hs.2 ht.2
end Go.Proofs.YtmamlgaogpkagaaGreat

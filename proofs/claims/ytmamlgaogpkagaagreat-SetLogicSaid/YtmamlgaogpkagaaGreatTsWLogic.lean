/- The walk of SetLogic, as its closing text takes it. -/
import Derived.Test.YtmamlgaogpkagaaGreatQTvLa
import Derived.Test.YtmamlgaogpkagaaGreatQTvNa
import Derived.Test.YtmamlgaogpkagaaGreatQTvPb
import Derived.Test.YtmamlgaogpkagaaGreatQTsCi
import Derived.Test.YtmamlgaogpkagaaGreatQTlCc
import Derived.Test.YtmamlgaogpkagaaGreatQLRd
import Derived.Test.YtmamlgaogpkagaaGreatQTlT
import Derived.Test.YtmamlgaogpkagaaGreatTlW
import Derived.OpenShut
namespace Go.Proofs.YtmamlgaogpkagaaGreat
open Go.RowKit
set_option linter.unusedVariables false
theorem SetLogic.walk (s:TS) (vsa vsb vsl:Value) (t:TS) (vta vtb vtl:Value) (u:TS) (vua vub vul:Value)  (w:World) (hs:TsI s∧SS3 w s vsa vsb vsl) (ht:TsI t∧SS3 w t vta vtb vtl) (hu:TsI u∧SS3 w u vua vub vul) (_:True) :
  Calls Tryz.prog 9 #[.agg #[.int .i64 s.P,vsa,.int .i64 s.Q,vsb,.int .i64 s.a,.int .i64 s.b,vsl],.agg #[.int .i64 t.P,vta,.int .i64 t.Q,vtb,.int .i64 t.a,.int .i64 t.b,vtl],.agg #[.int .i64 u.P,vua,.int .i64 u.Q,vub,.int .i64 u.a,.int .i64 u.b,vul]] w fun e w'=>e=.returned (.bool true)∧Below w.heap.size w w' :=
 pllogic s vsa vsb vsl hs.1 t vta vtb vtl ht.1 u vua vub vul hu.1 w hs.2 ht.2 hu.2
end Go.Proofs.YtmamlgaogpkagaaGreat

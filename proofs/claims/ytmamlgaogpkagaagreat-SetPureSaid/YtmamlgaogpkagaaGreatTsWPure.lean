/- The walk of SetPure, as its closing text takes it. -/
import Derived.Test.YtmamlgaogpkagaaGreatQLRd
import Derived.Test.YtmamlgaogpkagaaGreatQTlF
import Derived.OpenShut
namespace Go.Proofs.YtmamlgaogpkagaaGreat
open Go.RowKit
set_option linter.unusedVariables false
theorem SetPure.walk (Pa:Int) (va:Value) (A:List Sp) (Pb:Int) (vb:Value) (B:List Sp)  (w:World) (hA:(Lit.int .i64 Pa).wf=true∧PairS 0 w va A∧A.length≤maxLen) (hB:(Lit.int .i64 Pb).wf=true∧PairS 0 w vb B∧B.length≤maxLen) (_:True) :
    Calls Tryz.prog 13 #[.agg #[.int .i64 Pa,va],.agg #[.int .i64 Pb,vb]] w fun e w'=>e=.returned (.bool true)∧Below w.heap.size w w' :=
  plpure Pa va A (i64_wf hA.1) hA.2.2 Pb vb B (i64_wf hB.1) hB.2.2 w hA.2.1 hB.2.1
end Go.Proofs.YtmamlgaogpkagaaGreat

/- The walk of PeriodicWithin, as its closing text takes it. -/
import Derived.Test.YtaikeclfmmnelaaQPeLD
import Derived.Test.YtaikeclfmmnelaaQGE
import Derived.OpenShut
namespace Go.Proofs.Ytaikeclfmmnelaa
open Go.RowKit
set_option linter.unusedVariables false

theorem PeriodicWithin.walk (Pa : Int) (va : Value) (A : List Sp) (Pb : Int) (vb : Value) (B : List Sp)  (w : World) (hA : (Lit.int .i64 Pa).wf = true ∧ PairS 0 w va A ∧ A.length ≤ maxLen ∧ CapS va) (hB : (Lit.int .i64 Pb).wf = true ∧ PairS 0 w vb B ∧ B.length ≤ maxLen ∧ CapS vb) (_ : True) :
    Calls Try.prog 11 #[.agg #[.int .i64 Pa, va], .agg #[.int .i64 Pb, vb]] w fun e w' => e = .returned (.bool true) ∧ Below w.heap.size w w' :=
  plwithin va Pa A hA.2.2.1 (i64_wf hA.1) vb Pb B hB.2.2.1 (i64_wf hB.1) w hA.2.1 hB.2.1
end Go.Proofs.Ytaikeclfmmnelaa

/- The walk of PeriodicNext, as its closing text takes it. -/
import Derived.Test.YtaikeclfmmnelaaQPeLC
import Derived.Test.YtaikeclfmmnelaaQGE
import Derived.OpenShut
namespace Go.Proofs.Ytaikeclfmmnelaa
open Go.RowKit
set_option linter.unusedVariables false

theorem PeriodicNext.walk (Pa : Int) (va : Value) (A : List Sp) (x : Int) (wx : (Lit.int .i64 x).wf = true) (w : World) (hA : (Lit.int .i64 Pa).wf = true ∧ PairS 0 w va A ∧ A.length ≤ maxLen ∧ CapS va) (_ : True) :
    Calls Try.prog 10 #[.agg #[.int .i64 Pa, va], .int .i64 x] w fun e w' => e = .returned (.bool true) ∧ Below w.heap.size w w' :=
  plnext va Pa A hA.2.2.1 (i64_wf hA.1) hA.2.2.2 x (i64_wf wx) w hA.2.1
end Go.Proofs.Ytaikeclfmmnelaa

/- The walk of PeriodicWindows, as its closing text takes it. -/
import Derived.Test.YtaikeclfmmnelaaQPeLE
import Derived.Test.YtaikeclfmmnelaaQGE
import Derived.OpenShut
namespace Go.Proofs.Ytaikeclfmmnelaa
open Go.RowKit
set_option linter.unusedVariables false

theorem PeriodicWindows.walk (Pa : Int) (va : Value) (A : List Sp) (x : Int) (y : Int) (wx : (Lit.int .i64 x).wf = true) (wy : (Lit.int .i64 y).wf = true) (w : World) (hA : (Lit.int .i64 Pa).wf = true ∧ PairS 0 w va A ∧ A.length ≤ maxLen ∧ CapS va) (_ : True) :
    Calls Try.prog 8 #[.agg #[.int .i64 Pa, va], .agg #[.int .i64 x, .int .i64 y]] w fun e w' => e = .returned (.bool true) ∧ Below w.heap.size w w' :=
  plwindows va Pa A hA.2.2.1 (i64_wf hA.1) hA.2.2.2 x y (i64_wf wx) (i64_wf wy) w hA.2.1
end Go.Proofs.Ytaikeclfmmnelaa

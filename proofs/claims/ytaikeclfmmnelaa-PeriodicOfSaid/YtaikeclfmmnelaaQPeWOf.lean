/- The walk of PeriodicOf, as its closing text takes it. -/
import Derived.Test.YtaikeclfmmnelaaQPeLB
import Derived.Test.YtaikeclfmmnelaaQGE
import Derived.OpenShut
namespace Go.Proofs.Ytaikeclfmmnelaa
open Go.RowKit
set_option linter.unusedVariables false

theorem PeriodicOf.walk (P : Int) (va : Value) (A : List Sp) (wP : (Lit.int .i64 P).wf = true) (w : World) (hA : PairS 0 w va A ∧ A.length ≤ maxLen ∧ CapS va) (_ : True) :
    Calls Try.prog 4 #[.int .i64 P, va] w fun e w' => e = .returned (.bool true) ∧ Below w.heap.size w w' :=
  plof P (i64_wf wP) va A hA.2.1 w hA.1
end Go.Proofs.Ytaikeclfmmnelaa

/- The walk of PeriodicCombines, as its closing text takes it. -/
import Derived.Test.YtaikeclfmmnelaaQPeLG
import Derived.Test.YtaikeclfmmnelaaQGE
import Derived.OpenShut
namespace Go.Proofs.Ytaikeclfmmnelaa
open Go.RowKit
set_option linter.unusedVariables false

theorem PeriodicCombines.walk (Pa : Int) (va : Value) (A : List Sp) (Pb : Int) (vb : Value) (B : List Sp) (n : Int) (wn : (Lit.int .i64 n).wf = true) (w : World) (hA : (Lit.int .i64 Pa).wf = true ∧ PairS 0 w va A ∧ A.length ≤ maxLen ∧ CapS va) (hB : (Lit.int .i64 Pb).wf = true ∧ PairS 0 w vb B ∧ B.length ≤ maxLen ∧ CapS vb) (_ : True) :
    Calls Try.prog 5 #[.agg #[.int .i64 Pa, va], .agg #[.int .i64 Pb, vb], .int .i64 n] w fun e w' => e = .returned (.bool true) ∧ Below w.heap.size w w' :=
  plcombines va Pa A hA.2.2.1 (i64_wf hA.1) vb Pb B hB.2.2.1 (i64_wf hB.1) n (i64_wf wn) w hA.2.1 hB.2.1
end Go.Proofs.Ytaikeclfmmnelaa

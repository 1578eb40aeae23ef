/- The walk of PeriodicRepeats, as its closing text takes it. -/
import Derived.Test.YtaikeclfmmnelaaQPeLJ
import Derived.Test.YtaikeclfmmnelaaQGE
import Derived.OpenShut
namespace Go.Proofs.Ytaikeclfmmnelaa
open Go.RowKit
set_option linter.unusedVariables false

theorem PeriodicRepeats.walk (Pa : Int) (va : Value) (A : List Sp) (k : Int) (vz : Value) (zs : List Int) (wk : (Lit.int .u8 k).wf = true) (w : World) (hA : (Lit.int .i64 Pa).wf = true ∧ PairS 0 w va A ∧ A.length ≤ maxLen ∧ CapS va) (hZ : I8S w vz zs ∧ zs.length ≤ maxLen ∧ ∀ j, j < zs.length → -128 ≤ zs.getD j 0 ∧ zs.getD j 0 ≤ 127) (_ : True) :
    Calls Try.prog 7 #[.agg #[.int .i64 Pa, va], .int .u8 k, vz] w fun e w' => e = .returned (.bool true) ∧ Below w.heap.size w w' :=
  plrepeats va Pa A hA.2.2.1 (i64_wf hA.1) k (Go.bounds_u8 wk).1 (Go.bounds_u8 wk).2 vz zs hZ.2.1 hZ.2.2 w hA.2.1 hZ.1
end Go.Proofs.Ytaikeclfmmnelaa

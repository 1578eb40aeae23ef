/- The walk of PeriodicCounts, as its closing text takes it. -/
import Derived.Test.YtaikeclfmmnelaaQPeLF
import Derived.Test.YtaikeclfmmnelaaQGE
import Derived.OpenShut
namespace Go.Proofs.Ytaikeclfmmnelaa
open Go.RowKit
set_option linter.unusedVariables false

theorem PeriodicCounts.walk (Ps : Int) (vs : Value) (S : List Sp) (a : Int) (b : Int) (c : Int) (wa : (Lit.int .i64 a).wf = true) (wb : (Lit.int .i64 b).wf = true) (wc : (Lit.int .i64 c).wf = true) (w : World) (hS : (Lit.int .i64 Ps).wf = true ∧ PairS 0 w vs S ∧ S.length ≤ maxLen ∧ CapS vs) (_ : True) :
    Calls Try.prog 9 #[.agg #[.int .i64 Ps, vs], .int .i64 a, .int .i64 b, .int .i64 c] w fun e w' => e = .returned (.bool true) ∧ Below w.heap.size w w' :=
  plcounts vs Ps S hS.2.2.1 (i64_wf hS.1) hS.2.2.2 a (i64_wf wa) b (i64_wf wb) c (i64_wf wc) w hS.2.1
end Go.Proofs.Ytaikeclfmmnelaa

/- The walk of RunsMeasures, as its closing text takes it. -/
import Derived.Test.YtdkmahdfnmoliaaRnLawH
import Derived.Test.YtdkmahdfnmoliaaRnKD
namespace Go.Proofs.Ytdkmahdfnmoliaa
open Go.RowKit
set_option linter.unusedVariables false

theorem RunsMeasures.walk (va : Value) (A : List Sp) (vb : Value) (B : List Sp) (x : Int) (wx : (Lit.int .i64 x).wf = true) (w : World) (hA : PairS 0 w va A ∧ A.length ≤ maxLen ∧ CapS va) (hB : PairS 0 w vb B ∧ B.length ≤ maxLen ∧ CapS vb) (_ : True) :
    Calls Try.prog 10 #[va, vb, .int .i64 x] w fun e w' => e = .returned (.bool true) ∧ Below w.heap.size w w' :=
  rlmeasures va vb A B hA.2.1 hB.2.1 x (i64_wf wx) hA.2.2 hB.2.2 w hA.1 hB.1
end Go.Proofs.Ytdkmahdfnmoliaa

/- The walk of RunsValid, as its closing text takes it. -/
import Derived.Test.YtdkmahdfnmoliaaRnLawA
import Derived.Test.YtdkmahdfnmoliaaRnKD
namespace Go.Proofs.Ytdkmahdfnmoliaa
open Go.RowKit
set_option linter.unusedVariables false

theorem RunsValid.walk (va : Value) (A : List Sp) (vb : Value) (B : List Sp) (w : World) (hA : PairS 0 w va A ∧ A.length ≤ maxLen ∧ CapS va) (hB : PairS 0 w vb B ∧ B.length ≤ maxLen ∧ CapS vb) (_ : True) :
    Calls Try.prog 3 #[va, vb] w fun e w' => e = .returned (.bool true) ∧ Below w.heap.size w w' :=
  rlvalid va vb A B hA.2.1 hB.2.1 w hA.1 hB.1
end Go.Proofs.Ytdkmahdfnmoliaa

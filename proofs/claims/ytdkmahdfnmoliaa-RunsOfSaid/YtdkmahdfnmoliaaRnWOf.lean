/- The walk of RunsOf, as its closing text takes it. -/
import Derived.Test.YtdkmahdfnmoliaaRnLawB
import Derived.Test.YtdkmahdfnmoliaaRnKD
namespace Go.Proofs.Ytdkmahdfnmoliaa
open Go.RowKit
set_option linter.unusedVariables false

theorem RunsOf.walk (va : Value) (A : List Sp) (w : World) (hA : PairS 0 w va A ∧ A.length ≤ maxLen ∧ CapS va) (_ : True) :
    Calls Try.prog 4 #[va] w fun e w' => e = .returned (.bool true) ∧ Below w.heap.size w w' :=
  rlof va A hA.2.1 w hA.1
end Go.Proofs.Ytdkmahdfnmoliaa

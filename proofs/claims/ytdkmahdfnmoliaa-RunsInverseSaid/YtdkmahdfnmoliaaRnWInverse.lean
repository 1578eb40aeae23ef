/- The walk of RunsInverse, as its closing text takes it. -/
import Derived.Test.YtdkmahdfnmoliaaRnLawF
import Derived.Test.YtdkmahdfnmoliaaRnKD
namespace Go.Proofs.Ytdkmahdfnmoliaa
open Go.RowKit
set_option linter.unusedVariables false

theorem RunsInverse.walk (va : Value) (A : List Sp) (x : Int) (n : Int) (wx : (Lit.int .i64 x).wf = true) (wn : (Lit.int .i64 n).wf = true) (w : World) (hA : PairS 0 w va A ∧ A.length ≤ maxLen ∧ CapS va) (_ : True) :
    Calls Try.prog 8 #[va, .int .i64 x, .int .i64 n] w fun e w' => e = .returned (.bool true) ∧ Below w.heap.size w w' :=
  rlinverse va A hA.2.1 x n (i64_wf wx) (i64_wf wn) hA.2.2 w hA.1
end Go.Proofs.Ytdkmahdfnmoliaa

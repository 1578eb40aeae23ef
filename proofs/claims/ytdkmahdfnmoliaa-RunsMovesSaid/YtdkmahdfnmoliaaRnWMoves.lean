/- The walk of RunsMoves, as its closing text takes it. -/
import Derived.Test.YtdkmahdfnmoliaaRnLawI
import Derived.Test.YtdkmahdfnmoliaaRnKD
namespace Go.Proofs.Ytdkmahdfnmoliaa
open Go.RowKit
set_option linter.unusedVariables false

theorem RunsMoves.walk (va : Value) (A : List Sp) (vb : Value) (B : List Sp) (n : Int) (x : Int) (wn : (Lit.int .i64 n).wf = true) (wx : (Lit.int .i64 x).wf = true) (w : World) (hA : PairS 0 w va A ∧ A.length ≤ maxLen ∧ CapS va) (hB : PairS 0 w vb B ∧ B.length ≤ maxLen ∧ CapS vb) (_ : True) :
    Calls Try.prog 11 #[va, vb, .int .i64 n, .int .i64 x] w fun e w' => e = .returned (.bool true) ∧ Below w.heap.size w w' :=
  rlmoves va vb A B hA.2.1 hB.2.1 n x (i64_wf wn) (i64_wf wx) w hA.1 hB.1
end Go.Proofs.Ytdkmahdfnmoliaa

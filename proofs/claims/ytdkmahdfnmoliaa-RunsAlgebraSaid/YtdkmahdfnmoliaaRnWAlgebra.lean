/- The walk of RunsAlgebra, as its closing text takes it. -/
import Derived.Test.YtdkmahdfnmoliaaRnLawG
import Derived.Test.YtdkmahdfnmoliaaRnKD
namespace Go.Proofs.Ytdkmahdfnmoliaa
open Go.RowKit
set_option linter.unusedVariables false

theorem RunsAlgebra.walk (va : Value) (A : List Sp) (vb : Value) (B : List Sp) (vc : Value) (C : List Sp) (x0 y0 : Int) (wx0 : (Lit.int .i64 x0).wf = true) (wy0 : (Lit.int .i64 y0).wf = true) (w : World) (hA : PairS 0 w va A ∧ A.length ≤ maxLen ∧ CapS va) (hB : PairS 0 w vb B ∧ B.length ≤ maxLen ∧ CapS vb) (hC : PairS 0 w vc C ∧ C.length ≤ maxLen ∧ CapS vc) (_ : True) :
    Calls Try.prog 9 #[va, vb, vc, .agg #[.int .i64 x0, .int .i64 y0]] w fun e w' => e = .returned (.bool true) ∧ Below w.heap.size w w' :=
  rlalgebra va vb vc A B C hA.2.1 hB.2.1 hC.2.1 x0 y0 (i64_wf wx0) (i64_wf wy0) w hA.1 hB.1 hC.1
end Go.Proofs.Ytdkmahdfnmoliaa

/- The walk of RunsFull, as its closing text takes it. -/
import Derived.Test.YtdkmahdfnmoliaaRnLawJ
namespace Go.Proofs.Ytdkmahdfnmoliaa
open Go.RowKit
set_option linter.unusedVariables false

theorem u16_wf {n : Int} (h : (Lit.int .u16 n).wf = true) : 0 ≤ n ∧ n ≤ 65535 := by
  simp [Lit.wf, IntKind.min, IntKind.max, IntKind.bits, IntKind.signed] at h
  omega
theorem RunsFull.walk (m n s : Int) (wm : (Lit.int .u16 m).wf = true) (wn : (Lit.int .u16 n).wf = true) (ws : (Lit.int .i64 s).wf = true) (w : World) (_ : True) :
    Calls Try.prog 12 #[.int .u16 m, .int .u16 n, .int .i64 s] w fun e w' => e = .returned (.bool true) ∧ Below w.heap.size w w' :=
  rlfull m n s (u16_wf wm) (u16_wf wn) (i64_wf ws) w
end Go.Proofs.Ytdkmahdfnmoliaa

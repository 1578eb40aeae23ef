/- What the rows of this seat have in common: the listed table of powers of ten. -/
import Derived.Test.YtlggiaoaleodpaaDoorRows
import Derived.Test.YtlggiaoaleodpaaDoorG
import Derived.WalkKit
import Derived.ProofKit
import Derived.Stop.LaidErr
import Derived.Lib.LaidTab
namespace Go.Proofs.YtlggiaoaleodpaaDoor
open Go.RowKit
theorem own : ownKnob Tryd.prog.godebug = none := by kernel_rfl
theorem gTab : Tryd.prog.globalNamed "internal/strconv.uint64pow10" = some 2 := by kernel_rfl
theorem gTabType : (Tryd.prog.globals[2]?).map (·.type) = some 87 := by kernel_rfl
theorem cells87 : Tryd.prog.cellsOf 87 = 20 := by kernel_rfl
theorem cells41 : Tryd.prog.cellsOf 41 = 1 := by kernel_rfl
theorem table {W : World} (h : laidMetH Tryd.prog Rows.integerDividesRow.laid W) : Tab W :=
  Lib.tabIs_of_head (rest := []) gTab gTabType Tryd.underlying87 Tryd.underlying41 cells41 cells87 (show laidMet Tryd.prog Rows.integerDividesRow.laid W from h).tail.tail
end Go.Proofs.YtlggiaoaleodpaaDoor

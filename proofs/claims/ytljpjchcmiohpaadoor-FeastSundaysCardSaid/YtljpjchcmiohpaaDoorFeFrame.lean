/- What the rows of this seat have in common: the listed tables of the months' lengths. -/
import Derived.Test.YtljpjchcmiohpaaDoorRows
import Derived.Test.YtljpjchcmiohpaaDoorFeU
import Derived.WalkKit
import Derived.ProofKit
import Derived.LaidMore
import Derived.OpenShut
import Derived.Lib.LaidTab
import Derived.Lib.SmallJoins
import Derived.Stop.LaidErr
namespace Go.Proofs.YtljpjchcmiohpaaDoor
open Go.ChangeShapes Go.WideShapes Go.RowKit
theorem own : ownKnob Tryd.prog.godebug = none := by kernel_rfl
theorem gLensType : (Tryd.prog.globals[0]?).map (·.type) = some 49 := by kernel_rfl
theorem gJLensType : (Tryd.prog.globals[1]?).map (·.type) = some 49 := by kernel_rfl
theorem cellsLens : Tryd.prog.cellsOf 49 = 13 := by kernel_rfl
theorem cellsInt : Tryd.prog.cellsOf 3 = 1 := by kernel_rfl
theorem table {W : World} (h : laidMetH Tryd.prog [("civiltime/civil.lengths", Rows.laid_civiltime_civil_lengths), ("civiltime/julian.lengths", Rows.laid_civiltime_julian_lengths)] W) : Tabs W := by
  have h2 : laidMet Tryd.prog [("civiltime/civil.lengths", Rows.laid_civiltime_civil_lengths), ("civiltime/julian.lengths", Rows.laid_civiltime_julian_lengths)] W := h
  exact ⟨Lib.tabIs_of_head gLens gLensType Tryd.underlying49 Tryd.underlying3 cellsInt cellsLens h2, Lib.tabIs_of_head (rest := []) gJLens gJLensType Tryd.underlying49 Tryd.underlying3 cellsInt cellsLens h2.tail⟩
end Go.Proofs.YtljpjchcmiohpaaDoor

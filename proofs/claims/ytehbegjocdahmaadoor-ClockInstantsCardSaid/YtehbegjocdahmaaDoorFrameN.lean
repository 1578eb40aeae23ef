/- The listed tables, out of the rows. -/
import Derived.Test.YtehbegjocdahmaaDoorFrameM
import Derived.Stop.LaidErr
namespace Go.Proofs.YtehbegjocdahmaaDoor
open Go.RowKit
theorem listed {W : World} (h : laidMetH Tryd.prog Rows.clockTimesRow.laid W) : Listed W := by
  have h2 := (show laidMet Tryd.prog Rows.clockTimesRow.laid W from h).tail.tail
  exact ⟨Lib.tabIs_of_head (rest := _) gLens gLensType Tryd.underlying96 Tryd.underlying3 cellsInt cellsLens h2.tail, Lib.tabIs_of_head gTab gTabType Tryd.underlying124 Tryd.underlying93 cellsU64 cellsTab h2, units_of_head (rest := []) h2.tail.tail⟩
end Go.Proofs.YtehbegjocdahmaaDoor

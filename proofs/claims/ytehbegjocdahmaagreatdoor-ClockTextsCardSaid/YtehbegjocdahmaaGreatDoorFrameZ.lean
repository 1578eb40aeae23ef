/- The listed variables, out of the row of ClockTexts. -/
import Derived.Test.YtehbegjocdahmaaGreatDoorFrameM

import Derived.Test.YtehbegjocdahmaaGreatDoorLIntP

import Derived.Stop.LaidErr

namespace Go.Proofs.YtehbegjocdahmaaGreatDoor

open Go.RowKit
theorem gErrType : (Tryz.prog.globals[5]?).map (·.type) = some 71 := by kernel_rfl
theorem star : "*" ++ "errors.errorString" = "*errors.errorString" := by decide
theorem rowErr (u : TypeId) (h : Tryz.prog.typeName? 3 u = some "*errors.errorString") : u = 127 :=
  typeName_ptr_named (nm := "errors.errorString") (by rw [star]; kernel_rfl) (by kernel_rfl) (by decide) u (by rw [star]; exact h)
theorem cellsErr : Tryz.prog.cellsOf 129 = 1 := by kernel_rfl
theorem cellsStr : Tryz.prog.cellsOf 9 = 1 := by kernel_rfl
def ListedZ (w : World) : Prop := Listed w ∧ Ev w
theorem listed {W : World} (h : laidMetH Tryz.prog Rows.clockTextsRow.laid W) : ListedZ W := by
  have h2 := (show laidMet Tryz.prog Rows.clockTextsRow.laid W from h).tail.tail
  have h5 := h2.tail.tail.tail
  refine ⟨⟨Lib.tabIs_of_head (rest := _) gLens gLensType Tryz.underlying92 Tryz.underlying3 cellsInt cellsLens h5, Lib.tabIs_of_head gTab gTabType Tryz.underlying112 Tryz.underlying66 cellsU64 cellsTab h2, units_of_head (rest := []) h5.tail⟩, ?_⟩
  obtain ⟨a, s, hv, -, -, -⟩ := laid_sentinel h2.tail gErr gErrType Tryz.underlying71 rowErr Tryz.underlying127 Tryz.underlying129 rfl rfl Tryz.underlying9 cellsErr cellsStr
  exact ⟨_, _, hv⟩
end Go.Proofs.YtehbegjocdahmaaGreatDoor

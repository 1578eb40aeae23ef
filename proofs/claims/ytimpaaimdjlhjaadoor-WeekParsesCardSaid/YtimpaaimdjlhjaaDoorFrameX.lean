/- What the rows over texts give the walks: the months' lengths, the table of powers of ten, and an error value. -/
import Derived.Test.YtimpaaimdjlhjaaDoorFrameW
import Derived.Test.YtimpaaimdjlhjaaDoorTextsK
import Derived.Stop.LaidErr
namespace Go.Proofs.YtimpaaimdjlhjaaDoor
open Go.RowKit
theorem gTabType : (Tryd.prog.globals[1]?).map (·.type) = some 114 := by kernel_rfl
theorem cellsTab : Tryd.prog.cellsOf 114 = 20 := by kernel_rfl
theorem cellsU64 : Tryd.prog.cellsOf 74 = 1 := by kernel_rfl
theorem gErrType : (Tryd.prog.globals[3]?).map (·.type) = some 79 := by kernel_rfl
theorem star : "*" ++ "errors.errorString" = "*errors.errorString" := by decide
theorem rowErr (u : TypeId) (h : Tryd.prog.typeName? 3 u = some "*errors.errorString") : u = 128 :=
  typeName_ptr_named (nm := "errors.errorString") (by rw [star]; kernel_rfl) (by kernel_rfl) (by decide) u (by rw [star]; exact h)
theorem cellsErr : Tryd.prog.cellsOf 130 = 1 := by kernel_rfl
theorem cellsStr : Tryd.prog.cellsOf 9 = 1 := by kernel_rfl
theorem listed {W : World} (h : laidMetH Tryd.prog Rows.weekTextsRow.laid W) : Listed W := by
  have h2 := (show laidMet Tryd.prog Rows.weekTextsRow.laid W from h).tail.tail
  refine ⟨Lib.tabIs_of_head (rest := []) gLens gLensType Tryd.underlying92 Tryd.underlying3 cellsInt cellsLens h2.tail.tail.tail, Lib.tabIs_of_head gTab gTabType Tryd.underlying114 Tryd.underlying74 cellsU64 cellsTab h2, ?_⟩
  obtain ⟨a, s, hv, -, -, -⟩ := laid_sentinel h2.tail gErr gErrType Tryd.underlying79 rowErr Tryd.underlying128 Tryd.underlying130 rfl rfl Tryd.underlying9 cellsErr cellsStr
  exact ⟨_, _, hv⟩
theorem listed2 {W : World} (h : laidMetH Tryd.prog Rows.weekParsesRow.laid W) : Listed W := by
  have h2 := (show laidMet Tryd.prog Rows.weekParsesRow.laid W from h).tail.tail
  refine ⟨Lib.tabIs_of_head (rest := []) gLens gLensType Tryd.underlying92 Tryd.underlying3 cellsInt cellsLens h2.tail.tail.tail, Lib.tabIs_of_head gTab gTabType Tryd.underlying114 Tryd.underlying74 cellsU64 cellsTab h2, ?_⟩
  obtain ⟨a, s, hv, -, -, -⟩ := laid_sentinel h2.tail gErr gErrType Tryd.underlying79 rowErr Tryd.underlying128 Tryd.underlying130 rfl rfl Tryd.underlying9 cellsErr cellsStr
  exact ⟨_, _, hv⟩
end Go.Proofs.YtimpaaimdjlhjaaDoor

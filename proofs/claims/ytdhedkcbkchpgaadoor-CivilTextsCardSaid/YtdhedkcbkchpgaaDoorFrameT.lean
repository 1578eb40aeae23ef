/- What the rows over texts give the walks: the months' lengths, the table of powers of ten, and an error value. -/
import Derived.Test.YtdhedkcbkchpgaaDoorFrameC
import Derived.Test.YtdhedkcbkchpgaaDoorTextsW
import Derived.Stop.LaidErr
namespace Go.Proofs.YtdhedkcbkchpgaaDoor
open Go.RowKit
theorem gTabType : (Tryd.prog.globals[3]?).map (·.type) = some 105 := by kernel_rfl
theorem cellsTab : Tryd.prog.cellsOf 105 = 20 := by kernel_rfl
theorem cellsU64 : Tryd.prog.cellsOf 64 = 1 := by kernel_rfl
theorem gErrType : (Tryd.prog.globals[2]?).map (·.type) = some 60 := by kernel_rfl
theorem star : "*" ++ "errors.errorString" = "*errors.errorString" := by decide
theorem rowErr (u : TypeId) (h : Tryd.prog.typeName? 3 u = some "*errors.errorString") : u = 112 :=
  typeName_ptr_named (nm := "errors.errorString") (by rw [star]; kernel_rfl) (by kernel_rfl) (by decide) u (by rw [star]; exact h)
theorem cellsErr : Tryd.prog.cellsOf 114 = 1 := by kernel_rfl
theorem cellsStr : Tryd.prog.cellsOf 9 = 1 := by kernel_rfl
theorem listed {W : World} (h : laidMetH Tryd.prog Rows.civilTextsRow.laid W) : Listed W := by
  have h2 := (show laidMet Tryd.prog Rows.civilTextsRow.laid W from h).tail.tail
  refine ⟨Lib.tabIs_of_head (rest := []) gLens gLensType Tryd.underlying51 Tryd.underlying3 cellsInt cellsLens h2.tail.tail.tail, Lib.tabIs_of_head gTab gTabType Tryd.underlying105 Tryd.underlying64 cellsU64 cellsTab h2, ?_⟩
  obtain ⟨a, s, hv, -, -, -⟩ := laid_sentinel h2.tail gErr gErrType Tryd.underlying60 rowErr Tryd.underlying112 Tryd.underlying114 rfl rfl Tryd.underlying9 cellsErr cellsStr
  exact ⟨_, _, hv⟩
theorem tables {W : World} (h : laidMetH Tryd.prog Rows.civilOrderRow.laid W) : Lens W ∧ Tab W := by
  have h2 := (show laidMet Tryd.prog Rows.civilOrderRow.laid W from h).tail.tail
  exact ⟨Lib.tabIs_of_head (rest := []) gLens gLensType Tryd.underlying51 Tryd.underlying3 cellsInt cellsLens h2.tail, Lib.tabIs_of_head gTab gTabType Tryd.underlying105 Tryd.underlying64 cellsU64 cellsTab h2⟩
end Go.Proofs.YtdhedkcbkchpgaaDoor

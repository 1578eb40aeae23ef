/- What the rows with listed error values give the walks: the table of powers of ten, and an error value. -/
import Derived.Test.YtlggiaoaleodpaaDoorFrame
import Derived.Test.YtlggiaoaleodpaaDoorP
import Derived.Stop.LaidErr
namespace Go.Proofs.YtlggiaoaleodpaaDoor
open Go.RowKit
theorem gEr : Tryd.prog.globalNamed "strconv.ErrRange" = some 4 := by kernel_rfl
theorem gErType : (Tryd.prog.globals[4]?).map (·.type) = some 50 := by kernel_rfl
theorem star : "*" ++ "errors.errorString" = "*errors.errorString" := by decide
theorem rowErr (u : TypeId) (h : Tryd.prog.typeName? 3 u = some "*errors.errorString") : u = 102 :=
  typeName_ptr_named (nm := "errors.errorString") (by rw [star]; kernel_rfl) (by kernel_rfl) (by decide) u (by rw [star]; exact h)
theorem cells104 : Tryd.prog.cellsOf 104 = 1 := by kernel_rfl
theorem cells9 : Tryd.prog.cellsOf 9 = 1 := by kernel_rfl
theorem tableEv {W : World} (h : laidMetH Tryd.prog Rows.integerParsesRow.laid W) : Tab W ∧ Ev W := by
  have h2 := (show laidMet Tryd.prog Rows.integerParsesRow.laid W from h).tail.tail
  refine ⟨Lib.tabIs_of_head gTab gTabType Tryd.underlying87 Tryd.underlying41 cells41 cells87 h2, ?_⟩
  obtain ⟨a, s, hv, -, -, -⟩ := laid_sentinel h2.tail gEr gErType Tryd.underlying50 rowErr Tryd.underlying102 Tryd.underlying104 rfl rfl Tryd.underlying9 cells104 cells9
  exact ⟨_, _, hv⟩
end Go.Proofs.YtlggiaoaleodpaaDoor

/- What the rows of this seat have in common: the listed variables, and how a table of leap seconds reads. -/
import Derived.Test.YtocimbiidloofaaDoorRows
import Derived.Test.YtocimbiidloofaaDoorLtU
import Derived.Test.YtocimbiidloofaaDoorLRd
import Derived.WalkKit
import Derived.ProofKit
import Derived.LaidMore
import Derived.OpenShut
import Derived.Lib.LaidTab
import Derived.Lib.SmallJoins
import Derived.Stop.LaidErr
namespace Go.Proofs.YtocimbiidloofaaDoor
open Go.ChangeShapes Go.WideShapes Go.RowKit Go.Deep
theorem own : ownKnob Tryd.prog.godebug = none := by kernel_rfl
theorem laidOut : laidOutB Tryd.prog = true := by kernel_rfl
theorem gLensType : (Tryd.prog.globals[1]?).map (·.type) = some 94 := by kernel_rfl
theorem cellsLens : Tryd.prog.cellsOf 94 = 13 := by kernel_rfl
theorem cellsInt : Tryd.prog.cellsOf 3 = 1 := by kernel_rfl
theorem gTabType : (Tryd.prog.globals[4]?).map (·.type) = some 126 := by kernel_rfl
theorem cellsTab : Tryd.prog.cellsOf 126 = 20 := by kernel_rfl
theorem cellsU64 : Tryd.prog.cellsOf 106 = 1 := by kernel_rfl
theorem gErrType : (Tryd.prog.globals[3]?).map (·.type) = some 84 := by kernel_rfl
theorem star : "*" ++ "errors.errorString" = "*errors.errorString" := by decide
theorem rowErr (u : TypeId) (h : Tryd.prog.typeName? 3 u = some "*errors.errorString") : u = 116 :=
  typeName_ptr_named (nm := "errors.errorString") (by rw [star]; kernel_rfl) (by kernel_rfl) (by decide) u (by rw [star]; exact h)
theorem cellsErr : Tryd.prog.cellsOf 118 = 1 := by kernel_rfl
theorem cellsStr : Tryd.prog.cellsOf 9 = 1 := by kernel_rfl
set_option maxRecDepth 100000 in
theorem table {W : World} (h : laidMetH Tryd.prog Rows.leapParsesRow.laid W) : Tabs W := by
  have h2 := (show laidMet Tryd.prog Rows.leapParsesRow.laid W from h).tail.tail
  refine ⟨Lib.tabIs_of_head (rest := []) gLens gLensType Tryd.underlying94 Tryd.underlying3 cellsInt cellsLens h2.tail.tail.tail, Lib.tabIs_of_head gTab gTabType Tryd.underlying126 Tryd.underlying106 cellsU64 cellsTab h2, ?_⟩
  obtain ⟨a, s, hv, -, -, -⟩ := laid_sentinel h2.tail gErr gErrType Tryd.underlying84 rowErr Tryd.underlying116 Tryd.underlying118 rfl rfl Tryd.underlying9 cellsErr cellsStr
  exact ⟨_, _, hv⟩
theorem cellsStep : Tryd.prog.cellsOf 33 = 2 := by kernel_rfl
theorem cellsTable : Tryd.prog.cellsOf 25 = 1 := by kernel_rfl
theorem cellsSteps : Tryd.prog.cellsOf 23 = 1 := by kernel_rfl
set_option maxRecDepth 100000 in
/-- A table that comes in. -/
theorem open_table {H : Type} {enc : TypeId × Value → H} {W : World} {base : Nat} {v : Value} {d : DataW H} {p : List MemPlace} (hv : Value.okWide Tryd.prog W .any base 25 v)
    (h : DataW.Trod enc Tryd.prog W 0 (fun _ => true) true 25 v d p) : ∃ (sv : Value) (ps : List (Int × Int)), v = .agg #[sv] ∧ LT W sv ps := by
  obtain ⟨sv, y0, n, rfl, -, -, h1⟩ := open_agg1 Tryd.underlying25 (by kernel_rfl) cellsTable hv h
  obtain ⟨ps, a, b, c⟩ := open_pairs Tryd.underlying23 Tryd.underlying33 cellsStep rfl rfl cellsInt cellsInt Tryd.underlying3 Tryd.underlying3 h1
  exact ⟨sv, ps, rfl, a, b, c⟩
end Go.Proofs.YtocimbiidloofaaDoor

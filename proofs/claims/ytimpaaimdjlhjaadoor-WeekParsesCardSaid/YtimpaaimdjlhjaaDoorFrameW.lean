/- What the rows of this seat have in common: the listed table of the months' lengths, and how a rule and a date of weeks read. -/
import Derived.Test.YtimpaaimdjlhjaaDoorRows
import Derived.Test.YtimpaaimdjlhjaaDoorLCivA
import Derived.WalkKit
import Derived.ProofKit
import Derived.LaidMore
import Derived.OpenShut
import Derived.Lib.LaidTab
import Derived.Lib.SmallJoins
namespace Go.Proofs.YtimpaaimdjlhjaaDoor
open Go.ChangeShapes Go.WideShapes Go.RowKit
theorem own : ownKnob Tryd.prog.godebug = none := by kernel_rfl
theorem gLensType : (Tryd.prog.globals[0]?).map (·.type) = some 92 := by kernel_rfl
theorem cellsLens : Tryd.prog.cellsOf 92 = 13 := by kernel_rfl
theorem cellsInt : Tryd.prog.cellsOf 3 = 1 := by kernel_rfl
theorem cellsRule : Tryd.prog.cellsOf 23 = 2 := by kernel_rfl
theorem cellsWeek : Tryd.prog.cellsOf 26 = 3 := by kernel_rfl
theorem table {W : World} (h : laidMetH Tryd.prog [("civiltime/civil.lengths", Rows.laid_civiltime_civil_lengths)] W) : Lens W :=
  Lib.tabIs_of_head (rest := []) gLens gLensType Tryd.underlying92 Tryd.underlying3 cellsInt cellsLens (show laidMet Tryd.prog [("civiltime/civil.lengths", Rows.laid_civiltime_civil_lengths)] W from h)
/-- A rule reads as its two numbers. -/
theorem ruleReads {H : Type} {enc : TypeId × Value → H} {w : World} {base : Nat} {sp : Nat → Bool} {held : Bool} {y m : Int} (hy : (Lit.int .i64 y).wf = true) (hm : (Lit.int .i64 m).wf = true) :
    DataW.Trod enc Tryd.prog w base sp held 23 (.agg #[.int .i64 y, .int .i64 m]) (.agg [.lit (.int .i64 y), .lit (.int .i64 m)]) [] :=
  Joins.shut_agg2 (y0 := (.lit (.int .i64 y), [])) (y1 := (.lit (.int .i64 m), [])) Tryd.underlying23 (by kernel_rfl) cellsRule
    ⟨1, by simp [DataW.trod, Tryd.underlying3, hy]⟩ ⟨1, by simp [DataW.trod, Tryd.underlying3, hm]⟩
/-- A date of weeks reads as its three numbers. -/
theorem weekReads {H : Type} {enc : TypeId × Value → H} {w : World} {base : Nat} {sp : Nat → Bool} {held : Bool} {y m d : Int} (hy : (Lit.int .i64 y).wf = true) (hm : (Lit.int .i64 m).wf = true) (hd : (Lit.int .i64 d).wf = true) :
    DataW.Trod enc Tryd.prog w base sp held 26 (.agg #[.int .i64 y, .int .i64 m, .int .i64 d]) (.agg [.lit (.int .i64 y), .lit (.int .i64 m), .lit (.int .i64 d)]) [] :=
  Joins.shut_agg3 (y0 := (.lit (.int .i64 y), [])) (y1 := (.lit (.int .i64 m), [])) (y2 := (.lit (.int .i64 d), [])) Tryd.underlying26 (by kernel_rfl) cellsWeek
    ⟨1, by simp [DataW.trod, Tryd.underlying3, hy]⟩ ⟨1, by simp [DataW.trod, Tryd.underlying3, hm]⟩ ⟨1, by simp [DataW.trod, Tryd.underlying3, hd]⟩
end Go.Proofs.YtimpaaimdjlhjaaDoor

/- What the rows of this seat have in common: the listed tables of leap years and of months' lengths, and how a date reads. -/
import Derived.Test.YtobipbmigpkhmaaDoorRows
import Derived.Test.YtobipbmigpkhmaaDoorIsU
import Derived.WalkKit
import Derived.ProofKit
import Derived.LaidMore
import Derived.OpenShut
import Derived.Lib.LaidTab
import Derived.Lib.SmallJoins
import Derived.Stop.LaidErr
namespace Go.Proofs.YtobipbmigpkhmaaDoor
open Go.ChangeShapes Go.WideShapes Go.RowKit
theorem own : ownKnob Tryd.prog.godebug = none := by kernel_rfl
theorem gLensType : (Tryd.prog.globals[1]?).map (·.type) = some 78 := by kernel_rfl
theorem gMasksType : (Tryd.prog.globals[0]?).map (·.type) = some 65 := by kernel_rfl
theorem cellsLens : Tryd.prog.cellsOf 78 = 13 := by kernel_rfl
theorem cellsMasks : Tryd.prog.cellsOf 65 = 5 := by kernel_rfl
theorem cellsInt : Tryd.prog.cellsOf 3 = 1 := by kernel_rfl
theorem cellsWord : Tryd.prog.cellsOf 64 = 1 := by kernel_rfl
theorem cellsDate : Tryd.prog.cellsOf 29 = 3 := by kernel_rfl
theorem table {W : World} (h : laidMetH Tryd.prog [("civiltime/islamic.leapYears", Rows.laid_civiltime_islamic_leapYears)] W) : Tabs W := by
  have h2 : laidMet Tryd.prog [("civiltime/islamic.leapYears", Rows.laid_civiltime_islamic_leapYears)] W := h
  exact ⟨Lib.tabIs_of_head (rest := []) gMasks gMasksType Tryd.underlying65 Tryd.underlying64 cellsWord cellsMasks h2⟩
theorem tables {W : World} (h : laidMetH Tryd.prog [("civiltime/civil.lengths", Rows.laid_civiltime_civil_lengths), ("civiltime/islamic.leapYears", Rows.laid_civiltime_islamic_leapYears)] W) : TabsM W := by
  have h2 : laidMet Tryd.prog [("civiltime/civil.lengths", Rows.laid_civiltime_civil_lengths), ("civiltime/islamic.leapYears", Rows.laid_civiltime_islamic_leapYears)] W := h
  exact ⟨⟨Lib.tabIs_of_head (rest := []) gMasks gMasksType Tryd.underlying65 Tryd.underlying64 cellsWord cellsMasks h2.tail⟩, Lib.tabIs_of_head gLens gLensType Tryd.underlying78 Tryd.underlying3 cellsInt cellsLens h2⟩
/-- A date reads as its three numbers. -/
theorem dateReads {H : Type} {enc : TypeId × Value → H} {w : World} {base : Nat} {sp : Nat → Bool} {held : Bool} {y m d : Int} (hy : (Lit.int .i64 y).wf = true) (hm : (Lit.int .i64 m).wf = true) (hd : (Lit.int .i64 d).wf = true) :
    DataW.Trod enc Tryd.prog w base sp held 29 (.agg #[.int .i64 y, .int .i64 m, .int .i64 d]) (.agg [.lit (.int .i64 y), .lit (.int .i64 m), .lit (.int .i64 d)]) [] :=
  Joins.shut_agg3 (y0 := (.lit (.int .i64 y), [])) (y1 := (.lit (.int .i64 m), [])) (y2 := (.lit (.int .i64 d), [])) Tryd.underlying29 (by kernel_rfl) cellsDate
    ⟨1, by simp [DataW.trod, Tryd.underlying3, hy]⟩ ⟨1, by simp [DataW.trod, Tryd.underlying3, hm]⟩ ⟨1, by simp [DataW.trod, Tryd.underlying3, hd]⟩
end Go.Proofs.YtobipbmigpkhmaaDoor

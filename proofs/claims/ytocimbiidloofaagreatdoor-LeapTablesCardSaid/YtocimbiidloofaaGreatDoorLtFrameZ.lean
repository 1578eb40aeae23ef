/- What the rows of this seat have in common: the listed variables, and how a table of leap seconds reads. -/
import Derived.Test.YtocimbiidloofaaGreatDoorRows

import Derived.Test.YtocimbiidloofaaGreatDoorLtU

import Derived.Test.YtocimbiidloofaaGreatDoorLRd

import Derived.WalkKit

import Derived.ProofKit

import Derived.LaidMore

import Derived.OpenShut

import Derived.Lib.LaidTab

import Derived.Lib.SmallJoins

import Derived.Stop.LaidErr

namespace Go.Proofs.YtocimbiidloofaaGreatDoor

open Go.ChangeShapes Go.WideShapes Go.RowKit Go.Deep
theorem own : ownKnob Tryz.prog.godebug = none := by kernel_rfl
theorem laidOut : laidOutB Tryz.prog = true := by kernel_rfl
theorem gLensType : (Tryz.prog.globals[0]?).map (·.type) = some 103 := by kernel_rfl
theorem cellsLens : Tryz.prog.cellsOf 103 = 13 := by kernel_rfl
theorem cellsInt : Tryz.prog.cellsOf 3 = 1 := by kernel_rfl
theorem gTabType : (Tryz.prog.globals[2]?).map (·.type) = some 125 := by kernel_rfl
theorem cellsTab : Tryz.prog.cellsOf 125 = 20 := by kernel_rfl
theorem cellsU64 : Tryz.prog.cellsOf 90 = 1 := by kernel_rfl
theorem gErrType : (Tryz.prog.globals[4]?).map (·.type) = some 53 := by kernel_rfl
theorem star : "*" ++ "errors.errorString" = "*errors.errorString" := by decide
theorem rowErr (u : TypeId) (h : Tryz.prog.typeName? 3 u = some "*errors.errorString") : u = 146 :=
  typeName_ptr_named (nm := "errors.errorString") (by rw [star]; kernel_rfl) (by kernel_rfl) (by decide) u (by rw [star]; exact h)
theorem cellsErr : Tryz.prog.cellsOf 148 = 1 := by kernel_rfl
theorem cellsStr : Tryz.prog.cellsOf 9 = 1 := by kernel_rfl
set_option maxRecDepth 100000 in
theorem table {W : World} (h : laidMetH Tryz.prog Rows.leapTablesRow.laid W) : Tabs W := by
  have h2 := (show laidMet Tryz.prog Rows.leapTablesRow.laid W from h).tail.tail
  refine ⟨Lib.tabIs_of_head (rest := []) gLens gLensType Tryz.underlying103 Tryz.underlying3 cellsInt cellsLens h2.tail.tail.tail, Lib.tabIs_of_head gTab gTabType Tryz.underlying125 Tryz.underlying90 cellsU64 cellsTab h2, ?_⟩
  obtain ⟨a, s, hv, -, -, -⟩ := laid_sentinel h2.tail gErr gErrType Tryz.underlying53 rowErr Tryz.underlying146 Tryz.underlying148 rfl rfl Tryz.underlying9 cellsErr cellsStr
  exact ⟨_, _, hv⟩
theorem cellsStep : Tryz.prog.cellsOf 35 = 2 := by kernel_rfl
theorem cellsTable : Tryz.prog.cellsOf 24 = 1 := by kernel_rfl
theorem cellsSteps : Tryz.prog.cellsOf 22 = 1 := by kernel_rfl
set_option maxRecDepth 100000 in
/-- A table that comes in. -/
theorem open_table {H : Type} {enc : TypeId × Value → H} {W : World} {base : Nat} {v : Value} {d : DataW H} {p : List MemPlace} (hv : Value.okWide Tryz.prog W .any base 24 v)
    (h : DataW.Trod enc Tryz.prog W 0 (fun _ => true) true 24 v d p) : ∃ (sv : Value) (ps : List (Int × Int)), v = .agg #[sv] ∧ LT W sv ps := by
  obtain ⟨sv, y0, n, rfl, -, -, h1⟩ := open_agg1 Tryz.underlying24 (by kernel_rfl) cellsTable hv h
  obtain ⟨ps, a, b, c⟩ := open_pairs Tryz.underlying22 Tryz.underlying35 cellsStep rfl rfl cellsInt cellsInt Tryz.underlying3 Tryz.underlying3 h1
  exact ⟨sv, ps, rfl, a, b, c⟩
end Go.Proofs.YtocimbiidloofaaGreatDoor

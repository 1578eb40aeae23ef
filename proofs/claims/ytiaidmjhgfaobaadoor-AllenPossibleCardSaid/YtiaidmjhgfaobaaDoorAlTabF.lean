/- What the listed tables of package allen hold. -/
import Derived.Test.YtiaidmjhgfaobaaDoorRows
import Derived.Test.YtiaidmjhgfaobaaDoorAlU1
import Derived.WalkKit
import Derived.ProofKit
import Derived.LaidMore
import Derived.OpenShut
import Derived.Lib.LaidTab
import Derived.Lib.SmallJoins
import Derived.Stop.LaidErr
namespace Go.Proofs.YtiaidmjhgfaobaaDoor
open Go.ChangeShapes Go.WideShapes Go.RowKit
set_option linter.unusedVariables false
theorem cells_comp0 : Tryd.prog.cellsOf 55 = 1 := by kernel_rfl
theorem cells_comp1 : Tryd.prog.cellsOf 56 = 13 := by kernel_rfl
theorem cells_comp2 : Tryd.prog.cellsOf 57 = 169 := by kernel_rfl
theorem cells_place0 : Tryd.prog.cellsOf 3 = 1 := by kernel_rfl
theorem cells_place1 : Tryd.prog.cellsOf 64 = 2 := by kernel_rfl
theorem cells_place2 : Tryd.prog.cellsOf 65 = 26 := by kernel_rfl
theorem type_comp : (Tryd.prog.globals[0]?).map (·.type) = some 57 := by kernel_rfl
theorem type_place : (Tryd.prog.globals[1]?).map (·.type) = some 65 := by kernel_rfl
theorem List.getElem?_toArray_toList' (l : List Value) (i : Nat) : l.toArray.toList[i]? = l[i]? := rfl
def rowC (r : Nat) : List Int := (tbL.getD r []).map fun n : Nat => (n : Int)
def rowP (r : Nat) : List Int := [plF r, plS r]
theorem rowC_all : ∀ r q : Fin 13, (rowC r)[(q : Nat)]? = some ((tb r q : Nat) : Int) := by decide +kernel
theorem rowC_at (r q : Nat) (hr : r < 13) (hq : q < 13) : (rowC r)[q]? = some ((tb r q : Nat) : Int) := rowC_all ⟨r, hr⟩ ⟨q, hq⟩
theorem rowP_at (r q : Nat) (hr : r < 13) (hq : q < 2) : (rowP r)[q]? = some (if q = 0 then plF r else plS r) := by
  rcases (show q = 0 ∨ q = 1 by omega) with rfl | rfl <;> rfl
theorem cells_of_comp {H : Type} {enc : TypeId × Value → H} {w : World} {base : Nat} {sp : Nat → Bool} {held : Bool} {fuel : Nat} {cs : List Value} {p : List MemPlace}
    (h : DataW.trod enc Tryd.prog w base sp held fuel 57 cs = some (Rows.laid_civiltime_allen_compositions, p)) : cs = compA.toList := by
  cases fuel with
  | zero => simp [DataW.trod] at h
  | succ fuel =>
    simp only [DataW.trod, Tryd.underlying57, cells_comp1, cells_comp2] at h
    split at h
    · rename_i hl
      obtain ⟨xs, hm, hx⟩ := Option.map_eq_some_iff.1 h
      have hxs : xs.map (·.1) = ((List.range 13).map fun r => Lib.tabData .u16 (rowC r) : List (DataW H)) := by
        have e : (Rows.laid_civiltime_allen_compositions : DataW H) = .agg ((List.range 13).map fun r => Lib.tabData .u16 (rowC r)) := rfl
        have := congrArg Prod.fst hx
        rw [e] at this
        exact DataW.agg.inj this
      have one : ∀ (i : Nat) (hi : i < 13), (cs.drop (i * 13)).take 13 = (rowC i).map fun z => Value.int .u16 z := by
        intro i hi
        obtain ⟨y, hy, hf⟩ := Lib.mapM_at hm i i (by simp [hi])
        have hq : (xs.map (·.1))[i]? = some y.1 := by rw [List.getElem?_map, hy]; rfl
        rw [hxs, List.getElem?_map, List.getElem?_range hi] at hq
        simp only [Option.map_some, Option.some.injEq] at hq
        have hf2 : DataW.trod enc Tryd.prog w base sp held fuel 56 ((cs.drop (i * 13)).take 13) = some (Lib.tabData .u16 (rowC i), y.2) := by rw [hf, hq]
        exact Lib.cells_of_tab Tryd.underlying56 Tryd.underlying55 cells_comp0 cells_comp1 hf2
      apply List.ext_getElem?
      intro i
      by_cases hi : i < 169
      · have o := congrArg (·[i % 13]?) (one (i / 13) (by omega))
        rw [List.getElem?_take, if_pos (Nat.mod_lt _ (by decide)), List.getElem?_drop, show i / 13 * 13 + i % 13 = i by omega] at o
        rw [o]
        unfold compA
        rw [List.getElem?_toArray_toList' _ i, List.getElem?_map, List.getElem?_map, List.getElem?_range hi]
        rw [rowC_at (i / 13) (i % 13) (by omega) (Nat.mod_lt _ (by decide))]
        rfl
      · have l1 : cs.length = 169 := by simpa using hl
        have l2 : compA.toList.length = 169 := by unfold compA; simp
        rw [List.getElem?_eq_none (by omega), List.getElem?_eq_none (by omega)]
    · cases h
theorem comp_of_head {W : World} {rest : List (String × DataW Unit)} (h : laidMet Tryd.prog (("civiltime/allen.compositions", Rows.laid_civiltime_allen_compositions) :: rest) W) : W.var? Tryd.prog "civiltime/allen.compositions" = some compA := by
  obtain ⟨ps, ⟨g', t', cs, fuel, p, q, hg', ht', hvar, hd, _, _⟩, _⟩ := h
  obtain rfl := Option.some.inj (gComp.symm.trans hg')
  obtain rfl := Option.some.inj (type_comp.symm.trans ht')
  have e := congrArg List.toArray (cells_of_comp hd)
  rw [hvar]
  congr 1
theorem cells_of_place {H : Type} {enc : TypeId × Value → H} {w : World} {base : Nat} {sp : Nat → Bool} {held : Bool} {fuel : Nat} {cs : List Value} {p : List MemPlace}
    (h : DataW.trod enc Tryd.prog w base sp held fuel 65 cs = some (Rows.laid_civiltime_allen_places, p)) : cs = placeA.toList := by
  cases fuel with
  | zero => simp [DataW.trod] at h
  | succ fuel =>
    simp only [DataW.trod, Tryd.underlying65, cells_place1, cells_place2] at h
    split at h
    · rename_i hl
      obtain ⟨xs, hm, hx⟩ := Option.map_eq_some_iff.1 h
      have hxs : xs.map (·.1) = ((List.range 13).map fun r => Lib.tabData .i64 (rowP r) : List (DataW H)) := by
        have e : (Rows.laid_civiltime_allen_places : DataW H) = .agg ((List.range 13).map fun r => Lib.tabData .i64 (rowP r)) := rfl
        have := congrArg Prod.fst hx
        rw [e] at this
        exact DataW.agg.inj this
      have one : ∀ (i : Nat) (hi : i < 13), (cs.drop (i * 2)).take 2 = (rowP i).map fun z => Value.int .i64 z := by
        intro i hi
        obtain ⟨y, hy, hf⟩ := Lib.mapM_at hm i i (by simp [hi])
        have hq : (xs.map (·.1))[i]? = some y.1 := by rw [List.getElem?_map, hy]; rfl
        rw [hxs, List.getElem?_map, List.getElem?_range hi] at hq
        simp only [Option.map_some, Option.some.injEq] at hq
        have hf2 : DataW.trod enc Tryd.prog w base sp held fuel 64 ((cs.drop (i * 2)).take 2) = some (Lib.tabData .i64 (rowP i), y.2) := by rw [hf, hq]
        exact Lib.cells_of_tab Tryd.underlying64 Tryd.underlying3 cells_place0 cells_place1 hf2
      apply List.ext_getElem?
      intro i
      by_cases hi : i < 26
      · have o := congrArg (·[i % 2]?) (one (i / 2) (by omega))
        rw [List.getElem?_take, if_pos (Nat.mod_lt _ (by decide)), List.getElem?_drop, show i / 2 * 2 + i % 2 = i by omega] at o
        rw [o]
        unfold placeA
        rw [List.getElem?_toArray_toList' _ i, List.getElem?_map, List.getElem?_map, List.getElem?_range hi]
        rw [rowP_at (i / 2) (i % 2) (by omega) (Nat.mod_lt _ (by decide))]
        rfl
      · have l1 : cs.length = 26 := by simpa using hl
        have l2 : placeA.toList.length = 26 := by unfold placeA; simp
        rw [List.getElem?_eq_none (by omega), List.getElem?_eq_none (by omega)]
    · cases h
theorem place_of_head {W : World} {rest : List (String × DataW Unit)} (h : laidMet Tryd.prog (("civiltime/allen.places", Rows.laid_civiltime_allen_places) :: rest) W) : W.var? Tryd.prog "civiltime/allen.places" = some placeA := by
  obtain ⟨ps, ⟨g', t', cs, fuel, p, q, hg', ht', hvar, hd, _, _⟩, _⟩ := h
  obtain rfl := Option.some.inj (gPlace.symm.trans hg')
  obtain rfl := Option.some.inj (type_place.symm.trans ht')
  have e := congrArg List.toArray (cells_of_place hd)
  rw [hvar]
  congr 1
end Go.Proofs.YtiaidmjhgfaobaaDoor

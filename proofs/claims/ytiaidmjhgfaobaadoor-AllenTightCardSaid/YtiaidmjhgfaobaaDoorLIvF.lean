/- What a frame wants of package interval's listed tables (names_of_head, share_of_head), and of spans (cellsSpan, spanReads). -/
import Derived.Test.YtiaidmjhgfaobaaDoorRows

import Derived.Test.YtiaidmjhgfaobaaDoorLIvU

import Derived.WalkKit

import Derived.ProofKit

import Derived.LaidMore

import Derived.OpenShut

import Derived.Lib.LaidTab

import Derived.Lib.SmallJoins

import Derived.Stop.LaidErr

namespace Go.Proofs.YtiaidmjhgfaobaaDoor

open Go.ChangeShapes Go.WideShapes Go.RowKit
theorem cellsSpan : Tryd.prog.cellsOf 30 = 2 := by kernel_rfl
theorem cellsInt : Tryd.prog.cellsOf 3 = 1 := by kernel_rfl
theorem cellsString : Tryd.prog.cellsOf 9 = 1 := by kernel_rfl
theorem cellsNames : Tryd.prog.cellsOf 71 = 13 := by kernel_rfl
theorem cellsRow : Tryd.prog.cellsOf 69 = 3 := by kernel_rfl
theorem cellsShare : Tryd.prog.cellsOf 70 = 9 := by kernel_rfl
theorem gNamesType : (Tryd.prog.globals[3]?).map (·.type) = some 71 := by kernel_rfl
theorem gShareType : (Tryd.prog.globals[2]?).map (·.type) = some 70 := by kernel_rfl
/-- An array of texts that reads as the listed table holds the names. -/
theorem cells_of_names {H : Type} {enc : TypeId × Value → H} {w : World} {base : Nat} {sp : Nat → Bool} {held : Bool} {fuel : Nat} {cs : List Value} {p : List MemPlace}
    (h : DataW.trod enc Tryd.prog w base sp held fuel 71 cs = some (Rows.laid_civiltime_interval_names, p)) : cs = namesA.toList := by
  cases fuel with
  | zero => simp [DataW.trod] at h
  | succ fuel =>
    simp only [DataW.trod, Tryd.underlying71, cellsString, cellsNames] at h
    split at h
    · rename_i hl
      obtain ⟨xs, hm, hx⟩ := Option.map_eq_some_iff.1 h
      have hxs : xs.map (·.1) = ((List.range 13).map (fun k => .lit (.string (nmV k).data.toList)) : List (DataW H)) := by
        have := congrArg Prod.fst hx
        simpa [Rows.laid_civiltime_interval_names, List.range, List.range.loop, nmV] using this
      apply List.ext_getElem?
      intro i
      by_cases hi : i < 13
      · obtain ⟨y, hy, hf⟩ := Lib.mapM_at hm i i (by simp [hi])
        obtain ⟨s, c, e, -⟩ := DataW.trod_string Tryd.underlying9 hf
        have hq : (xs.map (·.1))[i]? = some (DataW.lit (.string s.data.toList) : DataW H) := by rw [List.getElem?_map, hy, e]; rfl
        rw [hxs, List.getElem?_map, List.getElem?_range hi] at hq
        simp only [Option.map_some, Option.some.injEq, DataW.lit.injEq, Lit.string.injEq] at hq
        obtain rfl : nmV i = s := ba_list hq
        have g0 := congrArg (·[0]?) c
        simp [List.getElem?_drop] at g0
        have e0 : cs[i]? = some (.string (nmV i)) := by simpa using g0
        rw [e0]
        match i, hi with
        | 0, _ => rfl
        | 1, _ => rfl
        | 2, _ => rfl
        | 3, _ => rfl
        | 4, _ => rfl
        | 5, _ => rfl
        | 6, _ => rfl
        | 7, _ => rfl
        | 8, _ => rfl
        | 9, _ => rfl
        | 10, _ => rfl
        | 11, _ => rfl
        | 12, _ => rfl
      · rw [List.getElem?_eq_none (by omega), List.getElem?_eq_none (by show 13 ≤ i; omega)]
    · cases h
/-- An array of arrays of integers that reads as the listed table holds its numbers. -/
theorem cells_of_share {H : Type} {enc : TypeId × Value → H} {w : World} {base : Nat} {sp : Nat → Bool} {held : Bool} {fuel : Nat} {cs : List Value} {p : List MemPlace}
    (h : DataW.trod enc Tryd.prog w base sp held fuel 70 cs = some (Rows.laid_civiltime_interval_sharing, p)) : cs = shareA.toList := by
  cases fuel with
  | zero => simp [DataW.trod] at h
  | succ fuel =>
    simp only [DataW.trod, Tryd.underlying70, cellsRow, cellsShare] at h
    split at h
    · rename_i hl
      obtain ⟨xs, hm, hx⟩ := Option.map_eq_some_iff.1 h
      have hxs : xs.map (·.1) = ([Lib.tabData .i64 [2, 7, 8], Lib.tabData .i64 [3, 6, 9], Lib.tabData .i64 [4, 5, 10]] : List (DataW H)) := by
        have := congrArg Prod.fst hx
        simpa [Rows.laid_civiltime_interval_sharing, Lib.tabData] using this
      have one : ∀ (i : Nat) (hi : i < 3) (a b c : Int), (xs.map (·.1))[i]? = some (Lib.tabData .i64 [a, b, c]) → cs[i * 3]? = some (.int .i64 a) ∧ cs[i * 3 + 1]? = some (.int .i64 b) ∧ cs[i * 3 + 2]? = some (.int .i64 c) := by
        intro i hi a b c hq
        obtain ⟨y, hy, hf⟩ := Lib.mapM_at hm i i (by simp [hi])
        rw [List.getElem?_map, hy] at hq
        simp only [Option.map_some, Option.some.injEq] at hq
        have hf2 : DataW.trod enc Tryd.prog w base sp held fuel 69 ((cs.drop (i * 3)).take 3) = some (Lib.tabData .i64 [a, b, c], y.2) := by rw [hf, ← hq]
        have e := Lib.cells_of_tab Tryd.underlying69 Tryd.underlying3 cellsInt cellsRow hf2
        have g0 := congrArg (·[0]?) e
        have g1 := congrArg (·[1]?) e
        have g2 := congrArg (·[2]?) e
        simp [List.getElem?_drop] at g0 g1 g2
        exact ⟨by simpa using g0, by simpa using g1, by simpa using g2⟩
      have o0 := one 0 (by omega) 2 7 8 (by rw [hxs]; rfl)
      have o1 := one 1 (by omega) 3 6 9 (by rw [hxs]; rfl)
      have o2 := one 2 (by omega) 4 5 10 (by rw [hxs]; rfl)
      apply List.ext_getElem?
      intro i
      have c : i = 0 ∨ i = 1 ∨ i = 2 ∨ i = 3 ∨ i = 4 ∨ i = 5 ∨ i = 6 ∨ i = 7 ∨ i = 8 ∨ 9 ≤ i := by omega
      rcases c with rfl | rfl | rfl | rfl | rfl | rfl | rfl | rfl | rfl | q
      · exact o0.1
      · exact o0.2.1
      · exact o0.2.2
      · exact o1.1
      · exact o1.2.1
      · exact o1.2.2
      · exact o2.1
      · exact o2.2.1
      · exact o2.2.2
      · rw [List.getElem?_eq_none (by omega), List.getElem?_eq_none (by show 9 ≤ i; exact q)]
    · cases h
theorem names_of_head {W : World} {rest : List (String × DataW Unit)} (h : laidMet Tryd.prog (("civiltime/interval.names", Rows.laid_civiltime_interval_names) :: rest) W) : W.var? Tryd.prog "civiltime/interval.names" = some namesA := by
  obtain ⟨ps, ⟨g', t', cs, fuel, p, q, hg', ht', hvar, hd, _, _⟩, _⟩ := h
  obtain rfl := Option.some.inj (gNames.symm.trans hg')
  obtain rfl := Option.some.inj (gNamesType.symm.trans ht')
  have e := congrArg List.toArray (cells_of_names hd)
  rw [hvar]
  congr 1
theorem share_of_head {W : World} {rest : List (String × DataW Unit)} (h : laidMet Tryd.prog (("civiltime/interval.sharing", Rows.laid_civiltime_interval_sharing) :: rest) W) : W.var? Tryd.prog "civiltime/interval.sharing" = some shareA := by
  obtain ⟨ps, ⟨g', t', cs, fuel, p, q, hg', ht', hvar, hd, _, _⟩, _⟩ := h
  obtain rfl := Option.some.inj (gShare.symm.trans hg')
  obtain rfl := Option.some.inj (gShareType.symm.trans ht')
  have e := congrArg List.toArray (cells_of_share hd)
  rw [hvar]
  congr 1
/-- A span reads as its two numbers. -/
theorem spanReads {H : Type} {enc : TypeId × Value → H} {w : World} {base : Nat} {sp : Nat → Bool} {held : Bool} {y m : Int} (hy : (Lit.int .i64 y).wf = true) (hm : (Lit.int .i64 m).wf = true) :
    DataW.Trod enc Tryd.prog w base sp held 30 (.agg #[.int .i64 y, .int .i64 m]) (.agg [.lit (.int .i64 y), .lit (.int .i64 m)]) [] :=
  Joins.shut_agg2 (y0 := (.lit (.int .i64 y), [])) (y1 := (.lit (.int .i64 m), [])) Tryd.underlying30 (by kernel_rfl) cellsSpan
    ⟨1, by simp [DataW.trod, Tryd.underlying3, hy]⟩ ⟨1, by simp [DataW.trod, Tryd.underlying3, hm]⟩
end Go.Proofs.YtiaidmjhgfaobaaDoor

/- What the rows of this seat have in common: the listed tables, and how a time, a date, a moment read. -/
import Derived.Test.YtehbegjocdahmaaGreatDoorRows

import Derived.Test.YtehbegjocdahmaaGreatDoorCkB

import Derived.Test.YtehbegjocdahmaaGreatDoorCkU

import Derived.Test.YtehbegjocdahmaaGreatDoorLIntT

import Derived.WalkKit

import Derived.ProofKit

import Derived.LaidMore

import Derived.OpenShut

import Derived.Lib.LaidTab

import Derived.Lib.SmallJoins

namespace Go.Proofs.YtehbegjocdahmaaGreatDoor

open Go.ChangeShapes Go.WideShapes Go.RowKit Go.Deep
theorem own : ownKnob Tryz.prog.godebug = none := by kernel_rfl
theorem gLensType : (Tryz.prog.globals[1]?).map (·.type) = some 92 := by kernel_rfl
theorem cellsLens : Tryz.prog.cellsOf 92 = 13 := by kernel_rfl
theorem cellsInt : Tryz.prog.cellsOf 3 = 1 := by kernel_rfl
theorem cellsTime : Tryz.prog.cellsOf 25 = 3 := by kernel_rfl
theorem cellsMoment : Tryz.prog.cellsOf 27 = 6 := by kernel_rfl
theorem cellsDate : Tryz.prog.cellsOf 23 = 3 := by kernel_rfl
theorem gTabType : (Tryz.prog.globals[3]?).map (·.type) = some 112 := by kernel_rfl
theorem cellsTab : Tryz.prog.cellsOf 112 = 20 := by kernel_rfl
theorem cellsU64 : Tryz.prog.cellsOf 66 = 1 := by kernel_rfl
theorem gUnitsType : (Tryz.prog.globals[0]?).map (·.type) = some 64 := by kernel_rfl
theorem cellsUnits : Tryz.prog.cellsOf 64 = 8 := by kernel_rfl
theorem cellsUnit : Tryz.prog.cellsOf 63 = 2 := by kernel_rfl
theorem cellsByte : Tryz.prog.cellsOf 5 = 1 := by kernel_rfl
/-- An array of structs of a byte and an int that reads as the listed table holds the table's numbers. -/
theorem cells_of_units {H : Type} {enc : TypeId × Value → H} {w : World} {base : Nat} {sp : Nat → Bool} {held : Bool} {fuel : Nat} {cs : List Value} {p : List MemPlace}
    (h : DataW.trod enc Tryz.prog w base sp held fuel 64 cs = some (Rows.laid_civiltime_clock_units, p)) : cs = unitsA.toList := by
  cases fuel with
  | zero => simp [DataW.trod] at h
  | succ fuel =>
    simp only [DataW.trod, Tryz.underlying64, cellsUnit, cellsUnits] at h
    split at h
    · rename_i hl
      obtain ⟨xs, hm, hx⟩ := Option.map_eq_some_iff.1 h
      have hxs : xs.map (·.1) = ([.agg [.lit (.int .u8 68), .lit (.int .i64 86400)], .agg [.lit (.int .u8 72), .lit (.int .i64 3600)], .agg [.lit (.int .u8 77), .lit (.int .i64 60)], .agg [.lit (.int .u8 83), .lit (.int .i64 1)]] : List (DataW H)) := by
        have := congrArg Prod.fst hx
        simpa [Rows.laid_civiltime_clock_units] using this
      have one : ∀ (i : Nat) (hi : i < 4) (a b : Int), (xs.map (·.1))[i]? = some (.agg [.lit (.int .u8 a), .lit (.int .i64 b)]) → cs[i * 2]? = some (.int .u8 a) ∧ cs[i * 2 + 1]? = some (.int .i64 b) := by
        intro i hi a b hq
        obtain ⟨y, hy, hf⟩ := Lib.mapM_at hm i i (by simp [hi])
        obtain ⟨y0, y1, n, hx, hlen, h0, h1⟩ := trod_struct2 Tryz.underlying63 hf
        rw [List.getElem?_map, hy] at hq
        simp only [Option.map_some, Option.some.injEq] at hq
        rw [hx] at hq
        simp only [DataW.agg.injEq, List.cons.injEq, and_true] at hq
        obtain ⟨z0, c0, e0, -⟩ := DataW.trod_int Tryz.underlying5 h0
        obtain ⟨z1, c1, e1, -⟩ := DataW.trod_int Tryz.underlying3 h1
        rw [e0] at hq
        rw [e1] at hq
        simp only [DataW.lit.injEq, Lit.int.injEq, true_and] at hq
        obtain ⟨rfl, rfl⟩ := hq
        have g0 := congrArg (·[0]?) c0
        have g1 := congrArg (·[0]?) c1
        simp [cellsByte, cellsInt, List.getElem?_drop] at g0 g1
        exact ⟨by simpa using g0, by simpa using g1⟩
      have o0 := one 0 (by omega) 68 86400 (by rw [hxs]; rfl)
      have o1 := one 1 (by omega) 72 3600 (by rw [hxs]; rfl)
      have o2 := one 2 (by omega) 77 60 (by rw [hxs]; rfl)
      have o3 := one 3 (by omega) 83 1 (by rw [hxs]; rfl)
      apply List.ext_getElem?
      intro i
      have c : i = 0 ∨ i = 1 ∨ i = 2 ∨ i = 3 ∨ i = 4 ∨ i = 5 ∨ i = 6 ∨ i = 7 ∨ 8 ≤ i := by omega
      rcases c with rfl | rfl | rfl | rfl | rfl | rfl | rfl | rfl | q
      · exact o0.1
      · exact o0.2
      · exact o1.1
      · exact o1.2
      · exact o2.1
      · exact o2.2
      · exact o3.1
      · exact o3.2
      · rw [List.getElem?_eq_none (by omega), List.getElem?_eq_none (by show 8 ≤ i; exact q)]
    · cases h
theorem units_of_head {W : World} {rest : List (String × DataW Unit)} (h : laidMet Tryz.prog (("civiltime/clock.units", Rows.laid_civiltime_clock_units) :: rest) W) : Units W := by
  obtain ⟨ps, ⟨g', t', cs, fuel, p, q, hg', ht', hvar, hd, _, _⟩, _⟩ := h
  obtain rfl := Option.some.inj (gUnits.symm.trans hg')
  obtain rfl := Option.some.inj (gUnitsType.symm.trans ht')
  unfold Units
  have e := congrArg List.toArray (cells_of_units hd)
  rw [hvar]
  congr 1
/-- The listed tables. -/
structure Listed (w : World) : Prop where
  lens : Lens w
  tab : Tab w
  units : Units w
theorem Listed.keep {w w' : World} (h : Listed w) (hb : Below w.heap.size w w') : Listed w' := ⟨lens_below h.lens hb, tab_below h.tab hb, units_below h.units hb⟩
theorem Listed.old {w : World} (h : Listed w) (o : Obj) : Listed (w.alloc o) := h.keep (grow (here w) o)
theorem Listed.drewN {w : World} (h : Listed w) (n : Nat) : Listed (w.drewN n) := h.keep (below_drewN (here w) n)
/-- A time reads as its three numbers. -/
theorem timeReads {H : Type} {enc : TypeId × Value → H} {w : World} {base : Nat} {sp : Nat → Bool} {held : Bool} {y m d : Int} (hy : (Lit.int .i64 y).wf = true) (hm : (Lit.int .i64 m).wf = true) (hd : (Lit.int .i64 d).wf = true) :
    DataW.Trod enc Tryz.prog w base sp held 25 (.agg #[.int .i64 y, .int .i64 m, .int .i64 d]) (.agg [.lit (.int .i64 y), .lit (.int .i64 m), .lit (.int .i64 d)]) [] :=
  Joins.shut_agg3 (y0 := (.lit (.int .i64 y), [])) (y1 := (.lit (.int .i64 m), [])) (y2 := (.lit (.int .i64 d), [])) Tryz.underlying25 (by kernel_rfl) cellsTime
    ⟨1, by simp [DataW.trod, Tryz.underlying3, hy]⟩ ⟨1, by simp [DataW.trod, Tryz.underlying3, hm]⟩ ⟨1, by simp [DataW.trod, Tryz.underlying3, hd]⟩
/-- A struct of three ints. -/
def Ints3 (P : Program) (t : TypeId) : Prop := ∃ a0 a1 a2 : Field, P.underlying t = some (.struct #[a0, a1, a2]) ∧ (a0.offset = 0 ∧ a1.offset = 1 ∧ a2.offset = 2) ∧ (P.underlying a0.type = some (.int .i64) ∧ P.underlying a1.type = some (.int .i64) ∧ P.underlying a2.type = some (.int .i64)) ∧ (P.cellsOf a0.type = 1 ∧ P.cellsOf a1.type = 1 ∧ P.cellsOf a2.type = 1) ∧ P.cellsOf t = 3
theorem open_ints3 {P : Program} {H : Type} {enc : TypeId × Value → H} {w : World} {base : Nat} {sp : Nat → Bool} {held : Bool} {n : Nat} {t : TypeId} {v0 v1 v2 : Value} {y : DataW H × List MemPlace} (ht : Ints3 P t) (h : DataW.trod enc P w base sp held n t [v0, v1, v2] = some y) :
    ∃ a b c : Int, v0 = .int .i64 a ∧ v1 = .int .i64 b ∧ v2 = .int .i64 c ∧ y = (.agg [.lit (.int .i64 a), .lit (.int .i64 b), .lit (.int .i64 c)], []) ∧ (Lit.int .i64 a).wf = true ∧ (Lit.int .i64 b).wf = true ∧ (Lit.int .i64 c).wf = true := by
  obtain ⟨a0, a1, a2, hu, ⟨o0, o1, o2⟩, ⟨u0, u1, u2⟩, ⟨c0, c1, c2⟩, ct⟩ := ht
  obtain ⟨x0, x1, x2, m, ha, _, g0, g1, g2⟩ := trod_struct3 hu h
  rw [o0, c0] at g0
  rw [o1, c1] at g1
  rw [o2, c2] at g2
  obtain ⟨z0, q0, e0, w0⟩ := DataW.trod_int u0 g0
  obtain ⟨z1, q1, e1, w1⟩ := DataW.trod_int u1 g1
  obtain ⟨z2, q2, e2, w2⟩ := DataW.trod_int u2 g2
  simp only [List.drop, List.take, List.cons.injEq, and_true] at q0 q1 q2
  subst e0 e1 e2
  exact ⟨z0, z1, z2, q0, q1, q2, by rw [ha]; rfl, w0, w1, w2⟩
theorem shut_ints3 {P : Program} {H : Type} {enc : TypeId × Value → H} {w : World} {base : Nat} {sp : Nat → Bool} {held : Bool} {t : TypeId} {a b c : Int} (ht : Ints3 P t) (wa : (Lit.int .i64 a).wf = true) (wb : (Lit.int .i64 b).wf = true) (wc : (Lit.int .i64 c).wf = true) :
    DataW.trod enc P w base sp held 2 t [.int .i64 a, .int .i64 b, .int .i64 c] = some (.agg [.lit (.int .i64 a), .lit (.int .i64 b), .lit (.int .i64 c)], []) := by
  obtain ⟨a0, a1, a2, hu, ⟨o0, o1, o2⟩, ⟨u0, u1, u2⟩, ⟨c0, c1, c2⟩, ct⟩ := ht
  have one : ∀ (t : TypeId) (n : Int), P.underlying t = some (.int .i64) → (Lit.int .i64 n).wf = true → DataW.trod enc P w base sp held 1 t [.int .i64 n] = some (.lit (.int .i64 n), []) := fun t n u h => by simp [DataW.trod, u, h]
  exact trod_struct3_mk (enc := enc) (w := w) (base := base) (spare := sp) (held := held) (n := 1) (cs := [Value.int .i64 a, .int .i64 b, .int .i64 c]) (y0 := (.lit (.int .i64 a), [])) (y1 := (.lit (.int .i64 b), [])) (y2 := (.lit (.int .i64 c), [])) hu (by rw [ct]; rfl)
      (by rw [o0, c0]; exact one _ _ u0 wa) (by rw [o1, c1]; exact one _ _ u1 wb) (by rw [o2, c2]; exact one _ _ u2 wc)
theorem open_six {P : Program} {H : Type} {enc : TypeId × Value → H} {w : World} {base : Nat} {sp : Nat → Bool} {held : Bool} {r : Reach} {b0 : Nat} {t : TypeId} {f0 f1 : Field} {v : Value} {d : DataW H} {p : List MemPlace}
    (hs : P.underlying t = some (.struct #[f0, f1])) (o0 : f0.offset = 0) (o1 : f1.offset = 3) (h0 : Ints3 P f0.type) (h1 : Ints3 P f1.type) (ct : P.cellsOf t = 6)
    (hv : Value.okWide P w r b0 t v) (h : DataW.Trod enc P w base sp held t v d p) :
    ∃ a b c x y z : Int, v = .agg #[.int .i64 a, .int .i64 b, .int .i64 c, .int .i64 x, .int .i64 y, .int .i64 z] ∧
      d = .agg [.agg [.lit (.int .i64 a), .lit (.int .i64 b), .lit (.int .i64 c)], .agg [.lit (.int .i64 x), .lit (.int .i64 y), .lit (.int .i64 z)]] ∧ p = [] ∧
      (Lit.int .i64 a).wf = true ∧ (Lit.int .i64 b).wf = true ∧ (Lit.int .i64 c).wf = true ∧ (Lit.int .i64 x).wf = true ∧ (Lit.int .i64 y).wf = true ∧ (Lit.int .i64 z).wf = true := by
  obtain ⟨cs, rfl, hsz⟩ := okWide_struct hs hv
  obtain ⟨fuel, hf⟩ := h
  rw [ct] at hsz
  obtain ⟨l⟩ := cs
  have hl : l.length = 6 := hsz
  obtain ⟨y0, y1, n, hx, _, g0, g1⟩ := trod_struct2 hs hf
  obtain ⟨v0, l0, rfl, hl0⟩ := un hl
  obtain ⟨v1, l1, rfl, hl1⟩ := un hl0
  obtain ⟨v2, l2, rfl, hl2⟩ := un hl1
  obtain ⟨v3, l3, rfl, hl3⟩ := un hl2
  obtain ⟨v4, l4, rfl, hl4⟩ := un hl3
  obtain ⟨v5, l5, rfl, hl5⟩ := un hl4
  obtain rfl := List.length_eq_zero_iff.1 hl5
  have c0 : P.cellsOf f0.type = 3 := h0.choose_spec.choose_spec.choose_spec.2.2.2.2
  have c1 : P.cellsOf f1.type = 3 := h1.choose_spec.choose_spec.choose_spec.2.2.2.2
  rw [o0, c0] at g0
  rw [o1, c1] at g1
  obtain ⟨a, b, c, rfl, rfl, rfl, ey0, wa, wb, wc⟩ := open_ints3 h0 (show DataW.trod enc P w base sp held n f0.type [v0, v1, v2] = some y0 from g0)
  obtain ⟨x, y, z, rfl, rfl, rfl, ey1, wx, wy, wz⟩ := open_ints3 h1 (show DataW.trod enc P w base sp held n f1.type [v3, v4, v5] = some y1 from g1)
  simp only [Prod.mk.injEq] at hx
  obtain ⟨hx1, hx2⟩ := hx
  rw [ey0, ey1] at hx1 hx2
  exact ⟨a, b, c, x, y, z, rfl, hx1, by rw [hx2]; rfl, wa, wb, wc, wx, wy, wz⟩
theorem shut_six {P : Program} {H : Type} {enc : TypeId × Value → H} {w : World} {base : Nat} {sp : Nat → Bool} {held : Bool} {t : TypeId} {f0 f1 : Field} {a b c x y z : Int}
    (hs : P.underlying t = some (.struct #[f0, f1])) (o0 : f0.offset = 0) (o1 : f1.offset = 3) (h0 : Ints3 P f0.type) (h1 : Ints3 P f1.type) (ct : P.cellsOf t = 6)
    (wa : (Lit.int .i64 a).wf = true) (wb : (Lit.int .i64 b).wf = true) (wc : (Lit.int .i64 c).wf = true) (wx : (Lit.int .i64 x).wf = true) (wy : (Lit.int .i64 y).wf = true) (wz : (Lit.int .i64 z).wf = true) :
    DataW.Trod enc P w base sp held t (.agg #[.int .i64 a, .int .i64 b, .int .i64 c, .int .i64 x, .int .i64 y, .int .i64 z]) (.agg [.agg [.lit (.int .i64 a), .lit (.int .i64 b), .lit (.int .i64 c)], .agg [.lit (.int .i64 x), .lit (.int .i64 y), .lit (.int .i64 z)]]) [] := by
  have c0 : P.cellsOf f0.type = 3 := h0.choose_spec.choose_spec.choose_spec.2.2.2.2
  have c1 : P.cellsOf f1.type = 3 := h1.choose_spec.choose_spec.choose_spec.2.2.2.2
  have all := trod_struct2_mk (enc := enc) (w := w) (base := base) (spare := sp) (held := held) (n := 2) (cs := [Value.int .i64 a, .int .i64 b, .int .i64 c, .int .i64 x, .int .i64 y, .int .i64 z]) (y0 := (.agg [.lit (.int .i64 a), .lit (.int .i64 b), .lit (.int .i64 c)], [])) (y1 := (.agg [.lit (.int .i64 x), .lit (.int .i64 y), .lit (.int .i64 z)], [])) hs (by rw [ct]; rfl)
    (by rw [o0, c0]; exact shut_ints3 h0 wa wb wc) (by rw [o1, c1]; exact shut_ints3 h1 wx wy wz)
  exact ⟨3, by simpa [Value.cells] using all⟩
theorem intsDate : Ints3 Tryz.prog 23 := ⟨_, _, _, Tryz.underlying23, ⟨rfl, rfl, rfl⟩, ⟨Tryz.underlying3, Tryz.underlying3, Tryz.underlying3⟩, ⟨cellsInt, cellsInt, cellsInt⟩, cellsDate⟩
theorem intsTime : Ints3 Tryz.prog 25 := ⟨_, _, _, Tryz.underlying25, ⟨rfl, rfl, rfl⟩, ⟨Tryz.underlying3, Tryz.underlying3, Tryz.underlying3⟩, ⟨cellsInt, cellsInt, cellsInt⟩, cellsTime⟩
set_option maxRecDepth 100000 in
theorem open_moment {H : Type} {enc : TypeId × Value → H} {w : World} {base : Nat} {sp : Nat → Bool} {held : Bool} {r : Reach} {b0 : Nat} {v : Value} {d : DataW H} {p : List MemPlace}
    (hv : Value.okWide Tryz.prog w r b0 27 v) (h : DataW.Trod enc Tryz.prog w base sp held 27 v d p) :
    ∃ a b c x y z : Int, v = .agg #[.int .i64 a, .int .i64 b, .int .i64 c, .int .i64 x, .int .i64 y, .int .i64 z] ∧
      d = .agg [.agg [.lit (.int .i64 a), .lit (.int .i64 b), .lit (.int .i64 c)], .agg [.lit (.int .i64 x), .lit (.int .i64 y), .lit (.int .i64 z)]] ∧ p = [] ∧
      (Lit.int .i64 a).wf = true ∧ (Lit.int .i64 b).wf = true ∧ (Lit.int .i64 c).wf = true ∧ (Lit.int .i64 x).wf = true ∧ (Lit.int .i64 y).wf = true ∧ (Lit.int .i64 z).wf = true :=
  open_six Tryz.underlying27 rfl rfl intsDate intsTime cellsMoment hv h
theorem momentReads {H : Type} {enc : TypeId × Value → H} {w : World} {base : Nat} {sp : Nat → Bool} {held : Bool} {a b c x y z : Int} (ha : (Lit.int .i64 a).wf = true) (hb : (Lit.int .i64 b).wf = true) (hc : (Lit.int .i64 c).wf = true) (hx : (Lit.int .i64 x).wf = true) (hy : (Lit.int .i64 y).wf = true) (hz : (Lit.int .i64 z).wf = true) :
    DataW.Trod enc Tryz.prog w base sp held 27 (.agg #[.int .i64 a, .int .i64 b, .int .i64 c, .int .i64 x, .int .i64 y, .int .i64 z]) (.agg [.agg [.lit (.int .i64 a), .lit (.int .i64 b), .lit (.int .i64 c)], .agg [.lit (.int .i64 x), .lit (.int .i64 y), .lit (.int .i64 z)]]) [] :=
  shut_six Tryz.underlying27 rfl rfl intsDate intsTime cellsMoment ha hb hc hx hy hz
end Go.Proofs.YtehbegjocdahmaaGreatDoor

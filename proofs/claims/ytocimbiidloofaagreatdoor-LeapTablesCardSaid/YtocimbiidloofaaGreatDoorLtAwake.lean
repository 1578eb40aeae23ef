/- The example of the chapter, and the tables that are too long: what the statements ask first. -/
import Derived.Test.YtocimbiidloofaaGreatDoorLtU

import Derived.Test.YtocimbiidloofaaGreatDoorLtEq

import Derived.Test.YtocimbiidloofaaGreatDoorLtS

import Derived.BigQuiet

import Derived.Deep.QuietTactic

import Derived.Deep.Cut

import Derived.Outline

namespace Go.Proofs.YtocimbiidloofaaGreatDoor

open Go.RowKit

set_option linter.unusedVariables false

theorem one_wf : ∀ j, j < [((1782864000 : Int), (1 : Int))].length → I64 (ltA [((1782864000 : Int), (1 : Int))] j) ∧ I64 (ltT [((1782864000 : Int), (1 : Int))] j) := by
  intro j hj
  obtain rfl : j = 0 := by simpa using hj
  exact ⟨⟨by decide, by decide⟩, ⟨by decide, by decide⟩⟩
set_option maxRecDepth 100000 in
set_option maxHeartbeats 2000000 in
theorem awake_all (w : World) (ht : Tabs w) :
    Calls Tryz.prog 4 #[] w fun e w' => e = .returned (.bool true) ∧ Below w.heap.size w w' := by
  have i : I64 1782864000 := ⟨by decide, by decide⟩
  have H1 := fun w ht => ulparse ⟨#[50, 48, 50, 54, 45, 48, 54, 45, 51, 48, 10]⟩ (by decide) w ht
  rw [show lpE (⟨#[50, 48, 50, 54, 45, 48, 54, 45, 51, 48, 10]⟩ : ByteArray).data.toList = 0 by decide +kernel, show lpL (⟨#[50, 48, 50, 54, 45, 48, 54, 45, 51, 48, 10]⟩ : ByteArray).data.toList = [(1782864000, 1)] by decide +kernel] at H1
  have H2 := fun v w h => ulatomic v [(1782864000, 1)] 1782864000 i w h
  rw [show laV [(1782864000, 1)] 1782864000 = 1782864001 by decide +kernel, show laE [(1782864000, 1)] 1782864000 = 0 by decide +kernel] at H2
  have H3 := fun v w h => ulcivil v [(1782864000, 1)] 1782864000 i w h
  rw [show lcV [(1782864000, 1)] 1782864000 = 1782864000 by decide +kernel, show lcI [(1782864000, 1)] 1782864000 = true by decide +kernel, show lcE [(1782864000, 1)] 1782864000 = 0 by decide +kernel] at H3
  replace H2 := fun w {v} (h : LT w v [(1782864000, 1)]) => H2 v w h
  replace H3 := fun w {v} (h : LT w v [(1782864000, 1)]) => H3 v w h
  clear i
  replace H1 := Lib.hid H1
  replace H2 := Lib.hid H2
  replace H3 := Lib.hid H3
  replace ht := Lib.hid ht
  go_enter Tryz.func4, Tryz.ntmps4
  go_wp2_with fail
  refine (H1.out _ (ht.out.below (here w))).mono ?_
  rintro e w1 ⟨⟨v, rfl, p⟩, hb⟩
  have TL := LT.of p (by simp) one_wf
  obtain ⟨ao, cp, rfl⟩ := TL.shape
  clear p
  have A1 := Lib.hid (down (here w) hb)
  clear hb
  have TL1 := Lib.hid TL
  clear TL
  go_wp2_with fail
  refine (H2.out _ (TL1.out.keep (grow (here _) _))).mono ?_
  rintro e w2 ⟨rfl, hb⟩
  have A2 := Lib.hid (down (grow A1.out _) hb)
  have T2 := Lib.hid (One.new hb)
  have TL2 := Lib.hid ((TL1.out.keep (grow (here _) _)).keep hb)
  clear hb A1 TL1
  obtain ⟨t2_0, t2_z⟩ := T2.out
  go_wp2_with fail
  refine (H3.out _ TL2.out).mono ?_
  rintro e w3 ⟨rfl, hb⟩
  have A3 := Lib.hid (down A2.out hb)
  have T3 := Lib.hid (T2.out.keep hb)
  have TL3 := Lib.hid (TL2.out.keep hb)
  clear hb A2 T2 TL2 t2_0 t2_z
  obtain ⟨t3_0, t3_z⟩ := T3.out
  go_wp2
  go_ret
  exact ⟨rfl, by first | exact A3.out | exact grow A3.out _ | exact below_drewN A3.out _ | exact grow (grow A3.out _) _ | exact grow (grow (grow A3.out _) _) _⟩
theorem rlong (v : Value) (ps : List (Int × Int)) (w : World) (h : LT w v ps) :
    Calls Tryz.prog 5 #[.agg #[v]] w fun e w' => e = .returned (.bool (decide (300 < ps.length))) ∧ Below w.heap.size w w' := by
  obtain ⟨ao, cp, rfl⟩ := h.shape
  have hl := h.len
  unfold maxLen at hl
  obtain ⟨b0, blt⟩ := One.new (here (w.alloc (.cells #[.slice ao ps.length cp] 24)))
  have e : decide (300 < ps.length) = decide ((300 : Int) < (ps.length : Int)) := decide_eq_decide.2 (by omega)
  rw [e]
  clear h e
  generalize ps.length = n at *
  go_enter Tryz.func5, Tryz.ntmps5
  go_wp2
  go_ret
  exact ⟨rfl, grow (here w) _⟩
end Go.Proofs.YtocimbiidloofaaGreatDoor

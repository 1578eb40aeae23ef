/- The walk of IntervalPoints. -/
import Derived.Test.YtknlhhjooamfhaaDoorIvAwake
import Derived.Test.YtknlhhjooamfhaaDoorIvS
import Derived.BigQuiet
import Derived.Deep.QuietTactic
import Derived.Deep.RegionHeld3
import Derived.Deep.Cut
import Derived.Outline
namespace Go.Proofs.YtknlhhjooamfhaaDoor
open Go.RowKit
set_option linter.unusedVariables false

set_option maxRecDepth 100000 in
set_option maxHeartbeats 4000000 in
theorem IntervalPoints.walk (a b x n : Int) (ha : (Lit.int .i64 a).wf = true) (hb : (Lit.int .i64 b).wf = true) (hx : (Lit.int .i64 x).wf = true) (hn : (Lit.int .i64 n).wf = true) (w : World) (ht : Tabs w) :
    Calls Tryd.prog 5 #[.agg #[.int .i64 a, .int .i64 b], .int .i64 x, .int .i64 n] w fun e w' => e = .returned (.bool true) ∧ Below w.heap.size w w' := by
  replace ha := i64_wf ha
  replace hb := i64_wf hb
  replace hx := i64_wf hx
  replace hn := i64_wf hn
  have RV := fun w => rvalid a b ha hb w
  have HM := fun w ht => uvmove a b ha hb n hn w ht
  have RM := fun w => rmove a b n ha hb hn w
  have HV := fun w ht => uvvalid a b ha hb w ht
  have HH := fun w ht => uvhas a b ha hb x hx w ht
  have HL := fun w ht => uvlen a b ha hb w ht
  generalize mvF a b n = mf at *
  generalize mvT a b n = mt at *
  generalize mvE a b n = me at *
  replace HM := Lib.hid HM
  replace RM := Lib.hid RM
  obtain ⟨x0, x1⟩ := hx
  obtain ⟨n0, n1⟩ := hn
  have AW := Lib.hid (fun w ht => awake_all w ht)
  replace ht := Lib.hid ht
  cases V : ivB a b
  · have e1 : hsB a b x = false := by unfold hsB; rw [V]; rfl
    have e2 : lnV a b = 0 := by unfold lnV; rw [V]; rfl
    rw [V] at RV HV
    rw [e1] at HH
    rw [e2] at HL
    obtain ⟨a0, a1⟩ := ha
    obtain ⟨b0, b1⟩ := hb
    clear V e1 e2
    replace RV := Lib.hid RV
    replace HV := Lib.hid HV
    replace HH := Lib.hid HH
    replace HL := Lib.hid HL
    go_enter Tryd.func5, Tryd.ntmps5
    go_wp2_with fail
    refine (AW.out _ (ht.out.below (grow (here w) _))).mono ?_
    rintro e w1 ⟨rfl, hb⟩
    have A1 := Lib.hid (down (grow (here w) _) hb)
    have X1 := Lib.hid (Two.new hb)
    clear hb
    obtain ⟨x1_0, x1_1, x1_z⟩ := X1.out
    go_wp2_with fail
    refine (RV.out _).mono ?_
    rintro e w2 ⟨rfl, hb⟩
    have A2 := Lib.hid (down A1.out hb)
    have X2 := Lib.hid (X1.out.keep hb)
    clear hb A1 X1 x1_0 x1_1 x1_z
    obtain ⟨x2_0, x2_1, x2_z⟩ := X2.out
    go_wp2_with fail
    refine (HM.out _ (ht.out.below A2.out)).mono ?_
    rintro e w3 ⟨rfl, hb⟩
    have A3 := Lib.hid (down A2.out hb)
    have X3 := Lib.hid (X2.out.keep hb)
    clear hb A2 X2 x2_0 x2_1 x2_z
    obtain ⟨x3_0, x3_1, x3_z⟩ := X3.out
    go_wp2_with fail
    refine (RM.out _).mono ?_
    rintro e w4 ⟨rfl, hb⟩
    have A4 := Lib.hid (down (grow A3.out _) hb)
    have X4 := Lib.hid ((X3.out.old _).keep hb)
    have M4 := Lib.hid (Two.new hb)
    clear hb A3 X3 x3_0 x3_1 x3_z
    obtain ⟨x4_0, x4_1, x4_z⟩ := X4.out
    obtain ⟨m4_0, m4_1, m4_z⟩ := M4.out
    go_wp2_with fail
    refine (HV.out _ (ht.out.below (grow A4.out _))).mono ?_
    rintro e w5 ⟨rfl, hb⟩
    have A5 := Lib.hid (down (grow A4.out _) hb)
    have X5 := Lib.hid ((X4.out.old _).keep hb)
    have M5 := Lib.hid ((M4.out.old _).keep hb)
    have K5 := Lib.hid (Two.new hb)
    clear hb A4 X4 M4 x4_0 x4_1 x4_z m4_0 m4_1 m4_z
    obtain ⟨x5_0, x5_1, x5_z⟩ := X5.out
    obtain ⟨m5_0, m5_1, m5_z⟩ := M5.out
    obtain ⟨k5_0, k5_1, k5_z⟩ := K5.out
    go_wp2_with fail
    refine (HH.out _ (ht.out.below A5.out)).mono ?_
    rintro e w6 ⟨rfl, hb⟩
    have A6 := Lib.hid (down A5.out hb)
    have X6 := Lib.hid (X5.out.keep hb)
    have M6 := Lib.hid (M5.out.keep hb)
    have K6 := Lib.hid (K5.out.keep hb)
    clear hb A5 X5 M5 K5 x5_0 x5_1 x5_z m5_0 m5_1 m5_z k5_0 k5_1 k5_z
    obtain ⟨x6_0, x6_1, x6_z⟩ := X6.out
    obtain ⟨m6_0, m6_1, m6_z⟩ := M6.out
    obtain ⟨k6_0, k6_1, k6_z⟩ := K6.out
    go_wp2_with fail
    refine (HL.out _ (ht.out.below A6.out)).mono ?_
    rintro e w7 ⟨rfl, hb⟩
    have A7 := Lib.hid (down A6.out hb)
    have X7 := Lib.hid (X6.out.keep hb)
    have M7 := Lib.hid (M6.out.keep hb)
    have K7 := Lib.hid (K6.out.keep hb)
    clear hb A6 X6 M6 K6 x6_0 x6_1 x6_z m6_0 m6_1 m6_z k6_0 k6_1 k6_z
    obtain ⟨x7_0, x7_1, x7_z⟩ := X7.out
    obtain ⟨m7_0, m7_1, m7_z⟩ := M7.out
    obtain ⟨k7_0, k7_1, k7_z⟩ := K7.out
    go_wp2
    go_ret
    exact ⟨rfl, by first | exact A7.out | exact grow A7.out _ | exact below_drewN A7.out _ | exact grow (grow A7.out _) _ | exact grow (grow (grow A7.out _) _) _⟩
  · have e1 : hsB a b x = (decide (a ≤ x) && decide (x < b)) := by unfold hsB; rw [V]; rfl
    have e2 : lnV a b = b - a := by unfold lnV; rw [V]; rfl
    obtain ⟨q0, q1, q2⟩ := ivB_iff.1 V
    rw [V] at RV HV
    rw [e1] at HH
    rw [e2] at HL
    obtain ⟨D, hD⟩ : ∃ D, b - a = D := ⟨_, rfl⟩
    rw [hD] at HL
    clear V e1 e2 ha hb
    cases p : decide (a ≤ x) <;> cases q : decide (x < b) <;> rw [p, q] at HH
    all_goals
      replace RV := Lib.hid RV
      replace HV := Lib.hid HV
      replace HH := Lib.hid HH
      replace HL := Lib.hid HL
      go_enter Tryd.func5, Tryd.ntmps5
      go_wp2_with fail
      refine (AW.out _ (ht.out.below (grow (here w) _))).mono ?_
      rintro e w1 ⟨rfl, hb⟩
      have A1 := Lib.hid (down (grow (here w) _) hb)
      have X1 := Lib.hid (Two.new hb)
      clear hb
      obtain ⟨x1_0, x1_1, x1_z⟩ := X1.out
      go_wp2_with fail
      refine (RV.out _).mono ?_
      rintro e w2 ⟨rfl, hb⟩
      have A2 := Lib.hid (down A1.out hb)
      have X2 := Lib.hid (X1.out.keep hb)
      clear hb A1 X1 x1_0 x1_1 x1_z
      obtain ⟨x2_0, x2_1, x2_z⟩ := X2.out
      go_wp2_with fail
      refine (HM.out _ (ht.out.below A2.out)).mono ?_
      rintro e w3 ⟨rfl, hb⟩
      have A3 := Lib.hid (down A2.out hb)
      have X3 := Lib.hid (X2.out.keep hb)
      clear hb A2 X2 x2_0 x2_1 x2_z
      obtain ⟨x3_0, x3_1, x3_z⟩ := X3.out
      go_wp2_with fail
      refine (RM.out _).mono ?_
      rintro e w4 ⟨rfl, hb⟩
      have A4 := Lib.hid (down (grow A3.out _) hb)
      have X4 := Lib.hid ((X3.out.old _).keep hb)
      have M4 := Lib.hid (Two.new hb)
      clear hb A3 X3 x3_0 x3_1 x3_z
      obtain ⟨x4_0, x4_1, x4_z⟩ := X4.out
      obtain ⟨m4_0, m4_1, m4_z⟩ := M4.out
      go_wp2_with fail
      refine (HV.out _ (ht.out.below (grow A4.out _))).mono ?_
      rintro e w5 ⟨rfl, hb⟩
      have A5 := Lib.hid (down (grow A4.out _) hb)
      have X5 := Lib.hid ((X4.out.old _).keep hb)
      have M5 := Lib.hid ((M4.out.old _).keep hb)
      have K5 := Lib.hid (Two.new hb)
      clear hb A4 X4 M4 x4_0 x4_1 x4_z m4_0 m4_1 m4_z
      obtain ⟨x5_0, x5_1, x5_z⟩ := X5.out
      obtain ⟨m5_0, m5_1, m5_z⟩ := M5.out
      obtain ⟨k5_0, k5_1, k5_z⟩ := K5.out
      go_wp2_with fail
      refine (HH.out _ (ht.out.below A5.out)).mono ?_
      rintro e w6 ⟨rfl, hb⟩
      have A6 := Lib.hid (down A5.out hb)
      have X6 := Lib.hid (X5.out.keep hb)
      have M6 := Lib.hid (M5.out.keep hb)
      have K6 := Lib.hid (K5.out.keep hb)
      clear hb A5 X5 M5 K5 x5_0 x5_1 x5_z m5_0 m5_1 m5_z k5_0 k5_1 k5_z
      obtain ⟨x6_0, x6_1, x6_z⟩ := X6.out
      obtain ⟨m6_0, m6_1, m6_z⟩ := M6.out
      obtain ⟨k6_0, k6_1, k6_z⟩ := K6.out
      go_wp2_with fail
      refine (HL.out _ (ht.out.below A6.out)).mono ?_
      rintro e w7 ⟨rfl, hb⟩
      have A7 := Lib.hid (down A6.out hb)
      have X7 := Lib.hid (X6.out.keep hb)
      have M7 := Lib.hid (M6.out.keep hb)
      have K7 := Lib.hid (K6.out.keep hb)
      clear hb A6 X6 M6 K6 x6_0 x6_1 x6_z m6_0 m6_1 m6_z k6_0 k6_1 k6_z
      obtain ⟨x7_0, x7_1, x7_z⟩ := X7.out
      obtain ⟨m7_0, m7_1, m7_z⟩ := M7.out
      obtain ⟨k7_0, k7_1, k7_z⟩ := K7.out
      go_wp2
      go_ret
      exact ⟨rfl, by first | exact A7.out | exact grow A7.out _ | exact below_drewN A7.out _ | exact grow (grow A7.out _) _ | exact grow (grow (grow A7.out _) _) _⟩
end Go.Proofs.YtknlhhjooamfhaaDoor

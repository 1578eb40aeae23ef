/- The walk of LeapDistances: the Go text returns true, at every input. -/
import Derived.Test.YtocimbiidloofaaDoorLtLawA
import Derived.BigQuiet
import Derived.Deep.QuietTactic
import Derived.Deep.Cut
import Derived.Outline
namespace Go.Proofs.YtocimbiidloofaaDoor
open Go.RowKit
set_option linter.unusedVariables false

namespace LeapDistances
theorem near {ps : List (Int × Int)} (b : ltB ps = true) {x y : Int} (h : x ≤ y) : y - x ≤ ltW ps y - ltW ps x ∧ ltW ps y - ltW ps x ≤ y - x + ps.length := by
  have m := ltN_mono b h
  have t := ltN_le ps y
  unfold ltW
  omega
set_option maxRecDepth 100000 in
set_option maxHeartbeats 2000000 in
theorem walk (v : Value) (ps : List (Int × Int)) (x y z : Int) (hx : (Lit.int .i64 x).wf = true) (hy : (Lit.int .i64 y).wf = true) (hz : (Lit.int .i64 z).wf = true) (w : World) (h : LT w v ps) (ht : Tabs w) :
    Calls Tryd.prog 6 #[.agg #[v], .int .i64 x, .int .i64 y, .int .i64 z] w fun e w' => e = .returned (.bool true) ∧ Below w.heap.size w w' := by
  replace hx := i64_wf hx
  replace hy := i64_wf hy
  replace hz := i64_wf hz
  obtain ⟨ao, cp, rfl⟩ := h.shape
  have TL0 := Lib.hid h
  have HL := fun w h => rlong (.slice ao ps.length cp) ps w h
  have HV := fun w h => ulvalid (.slice ao ps.length cp) ps w h
  have RV := fun w h => rlvalid (.slice ao ps.length cp) ps w h
  clear h
  by_cases l : 300 < ps.length
  · rw [decide_eq_true l] at HL
    clear l
    replace HL := Lib.hid HL
    have AW := Lib.hid (fun w ht => awake_all w ht)
    replace ht := Lib.hid ht
    go_enter Tryd.func6, Tryd.ntmps6
    go_wp2_with fail
    refine (AW.out _ (ht.out.below (grow (here w) _))).mono ?_
    rintro e w1 ⟨rfl, hb⟩
    have A1 := Lib.hid (down (grow (here w) _) hb)
    have T1 := Lib.hid (One.new hb)
    have TL1 := Lib.hid ((TL0.out.keep (grow (here _) _)).keep hb)
    clear hb TL0
    obtain ⟨t1_0, t1_z⟩ := T1.out
    go_wp2_with fail
    refine (HL.out _ TL1.out).mono ?_
    rintro e w2 ⟨rfl, hb⟩
    have A2 := Lib.hid (down A1.out hb)
    have T2 := Lib.hid (T1.out.keep hb)
    have TL2 := Lib.hid (TL1.out.keep hb)
    clear hb A1 T1 TL1 t1_0 t1_z
    obtain ⟨t2_0, t2_z⟩ := T2.out
    go_wp2_with fail
    refine (AW.out _ (ht.out.below A2.out)).mono ?_
    rintro e w3 ⟨rfl, hb⟩
    have A3 := Lib.hid (down A2.out hb)
    have T3 := Lib.hid (T2.out.keep hb)
    have TL3 := Lib.hid (TL2.out.keep hb)
    clear hb A2 T2 TL2 t2_0 t2_z
    obtain ⟨t3_0, t3_z⟩ := T3.out
    go_wp2
    go_ret
    exact ⟨rfl, by first | exact A3.out | exact grow A3.out _ | exact below_drewN A3.out _ | exact grow (grow A3.out _) _ | exact grow (grow (grow A3.out _) _) _⟩
  rw [decide_eq_false l] at HL
  replace HL := Lib.hid HL
  cases b : ltB ps
  · rw [b] at HV
    clear b RV
    replace HV := Lib.hid HV
    have AW := Lib.hid (fun w ht => awake_all w ht)
    replace ht := Lib.hid ht
    go_enter Tryd.func6, Tryd.ntmps6
    go_wp2_with fail
    refine (AW.out _ (ht.out.below (grow (here w) _))).mono ?_
    rintro e w1 ⟨rfl, hb⟩
    have A1 := Lib.hid (down (grow (here w) _) hb)
    have T1 := Lib.hid (One.new hb)
    have TL1 := Lib.hid ((TL0.out.keep (grow (here _) _)).keep hb)
    clear hb TL0
    obtain ⟨t1_0, t1_z⟩ := T1.out
    go_wp2_with fail
    refine (HL.out _ TL1.out).mono ?_
    rintro e w2 ⟨rfl, hb⟩
    have A2 := Lib.hid (down A1.out hb)
    have T2 := Lib.hid (T1.out.keep hb)
    have TL2 := Lib.hid (TL1.out.keep hb)
    clear hb A1 T1 TL1 t1_0 t1_z
    obtain ⟨t2_0, t2_z⟩ := T2.out
    go_wp2_with fail
    refine (HV.out _ TL2.out).mono ?_
    rintro e w3 ⟨rfl, hb⟩
    have A3 := Lib.hid (down A2.out hb)
    have T3 := Lib.hid (T2.out.keep hb)
    have TL3 := Lib.hid (TL2.out.keep hb)
    clear hb A2 T2 TL2 t2_0 t2_z
    obtain ⟨t3_0, t3_z⟩ := T3.out
    go_wp2_with fail
    refine (AW.out _ (ht.out.below A3.out)).mono ?_
    rintro e w4 ⟨rfl, hb⟩
    have A4 := Lib.hid (down A3.out hb)
    have T4 := Lib.hid (T3.out.keep hb)
    have TL4 := Lib.hid (TL3.out.keep hb)
    clear hb A3 T3 TL3 t3_0 t3_z
    obtain ⟨t4_0, t4_z⟩ := T4.out
    go_wp2
    go_ret
    exact ⟨rfl, by first | exact A4.out | exact grow A4.out _ | exact below_drewN A4.out _ | exact grow (grow A4.out _) _ | exact grow (grow (grow A4.out _) _) _⟩
  rw [b] at HV
  replace HV := Lib.hid HV
  clear RV
  have HD := fun w h => uldist (.slice ao ps.length cp) ps x y hx hy w h
  have HE := fun w h => uldist (.slice ao ps.length cp) ps y z hy hz w h
  have HF := fun w h => uldist (.slice ao ps.length cp) ps x z hx hz w h
  have RX := fun w => rlins x hx w
  have RY := fun w => rlins y hy w
  have RZ := fun w => rlins z hz w
  cases i : inB x
  · obtain ⟨e1, e2⟩ := ld_out (x := x) (y := y) b (by rw [i]; rfl)
    obtain ⟨e3, e4⟩ := ld_out (x := x) (y := z) b (by rw [i]; rfl)
    rw [e1, e2] at HD
    rw [e3, e4] at HF
    rw [i] at RX
    generalize ldV ps y z = V1 at *
    generalize ldE ps y z = E1 at *
    clear e1 e2 e3 e4 i b l RY RZ
    replace HD := Lib.hid HD
    replace HE := Lib.hid HE
    replace HF := Lib.hid HF
    replace RX := Lib.hid RX
    have AW := Lib.hid (fun w ht => awake_all w ht)
    replace ht := Lib.hid ht
    go_enter Tryd.func6, Tryd.ntmps6
    go_wp2_with fail
    refine (AW.out _ (ht.out.below (grow (here w) _))).mono ?_
    rintro e w1 ⟨rfl, hb⟩
    have A1 := Lib.hid (down (grow (here w) _) hb)
    have T1 := Lib.hid (One.new hb)
    have TL1 := Lib.hid ((TL0.out.keep (grow (here _) _)).keep hb)
    clear hb TL0
    obtain ⟨t1_0, t1_z⟩ := T1.out
    go_wp2_with fail
    refine (HL.out _ TL1.out).mono ?_
    rintro e w2 ⟨rfl, hb⟩
    have A2 := Lib.hid (down A1.out hb)
    have T2 := Lib.hid (T1.out.keep hb)
    have TL2 := Lib.hid (TL1.out.keep hb)
    clear hb A1 T1 TL1 t1_0 t1_z
    obtain ⟨t2_0, t2_z⟩ := T2.out
    go_wp2_with fail
    refine (HV.out _ TL2.out).mono ?_
    rintro e w3 ⟨rfl, hb⟩
    have A3 := Lib.hid (down A2.out hb)
    have T3 := Lib.hid (T2.out.keep hb)
    have TL3 := Lib.hid (TL2.out.keep hb)
    clear hb A2 T2 TL2 t2_0 t2_z
    obtain ⟨t3_0, t3_z⟩ := T3.out
    go_wp2_with fail
    refine (HD.out _ TL3.out).mono ?_
    rintro e w4 ⟨rfl, hb⟩
    have A4 := Lib.hid (down A3.out hb)
    have T4 := Lib.hid (T3.out.keep hb)
    have TL4 := Lib.hid (TL3.out.keep hb)
    clear hb A3 T3 TL3 t3_0 t3_z
    obtain ⟨t4_0, t4_z⟩ := T4.out
    go_wp2_with fail
    refine (HE.out _ TL4.out).mono ?_
    rintro e w5 ⟨rfl, hb⟩
    have A5 := Lib.hid (down A4.out hb)
    have T5 := Lib.hid (T4.out.keep hb)
    have TL5 := Lib.hid (TL4.out.keep hb)
    clear hb A4 T4 TL4 t4_0 t4_z
    obtain ⟨t5_0, t5_z⟩ := T5.out
    go_wp2_with fail
    refine (HF.out _ TL5.out).mono ?_
    rintro e w6 ⟨rfl, hb⟩
    have A6 := Lib.hid (down A5.out hb)
    have T6 := Lib.hid (T5.out.keep hb)
    have TL6 := Lib.hid (TL5.out.keep hb)
    clear hb A5 T5 TL5 t5_0 t5_z
    obtain ⟨t6_0, t6_z⟩ := T6.out
    go_wp2_with fail
    refine (RX.out _).mono ?_
    rintro e x1 ⟨rfl, rfl⟩
    go_wp2
    go_ret
    exact ⟨rfl, by first | exact A6.out | exact grow A6.out _ | exact below_drewN A6.out _ | exact grow (grow A6.out _) _ | exact grow (grow (grow A6.out _) _) _⟩
  cases j : inB y
  · obtain ⟨e1, e2⟩ := ld_out (x := x) (y := y) b (by rw [i, j]; rfl)
    rw [e1, e2] at HD
    rw [i] at RX
    rw [j] at RY
    generalize ldV ps y z = V1 at *
    generalize ldE ps y z = E1 at *
    generalize ldV ps x z = V2 at *
    generalize ldE ps x z = E2 at *
    clear e1 e2 i j b l RZ
    replace HD := Lib.hid HD
    replace HE := Lib.hid HE
    replace HF := Lib.hid HF
    replace RX := Lib.hid RX
    replace RY := Lib.hid RY
    have AW := Lib.hid (fun w ht => awake_all w ht)
    replace ht := Lib.hid ht
    go_enter Tryd.func6, Tryd.ntmps6
    go_wp2_with fail
    refine (AW.out _ (ht.out.below (grow (here w) _))).mono ?_
    rintro e w1 ⟨rfl, hb⟩
    have A1 := Lib.hid (down (grow (here w) _) hb)
    have T1 := Lib.hid (One.new hb)
    have TL1 := Lib.hid ((TL0.out.keep (grow (here _) _)).keep hb)
    clear hb TL0
    obtain ⟨t1_0, t1_z⟩ := T1.out
    go_wp2_with fail
    refine (HL.out _ TL1.out).mono ?_
    rintro e w2 ⟨rfl, hb⟩
    have A2 := Lib.hid (down A1.out hb)
    have T2 := Lib.hid (T1.out.keep hb)
    have TL2 := Lib.hid (TL1.out.keep hb)
    clear hb A1 T1 TL1 t1_0 t1_z
    obtain ⟨t2_0, t2_z⟩ := T2.out
    go_wp2_with fail
    refine (HV.out _ TL2.out).mono ?_
    rintro e w3 ⟨rfl, hb⟩
    have A3 := Lib.hid (down A2.out hb)
    have T3 := Lib.hid (T2.out.keep hb)
    have TL3 := Lib.hid (TL2.out.keep hb)
    clear hb A2 T2 TL2 t2_0 t2_z
    obtain ⟨t3_0, t3_z⟩ := T3.out
    go_wp2_with fail
    refine (HD.out _ TL3.out).mono ?_
    rintro e w4 ⟨rfl, hb⟩
    have A4 := Lib.hid (down A3.out hb)
    have T4 := Lib.hid (T3.out.keep hb)
    have TL4 := Lib.hid (TL3.out.keep hb)
    clear hb A3 T3 TL3 t3_0 t3_z
    obtain ⟨t4_0, t4_z⟩ := T4.out
    go_wp2_with fail
    refine (HE.out _ TL4.out).mono ?_
    rintro e w5 ⟨rfl, hb⟩
    have A5 := Lib.hid (down A4.out hb)
    have T5 := Lib.hid (T4.out.keep hb)
    have TL5 := Lib.hid (TL4.out.keep hb)
    clear hb A4 T4 TL4 t4_0 t4_z
    obtain ⟨t5_0, t5_z⟩ := T5.out
    go_wp2_with fail
    refine (HF.out _ TL5.out).mono ?_
    rintro e w6 ⟨rfl, hb⟩
    have A6 := Lib.hid (down A5.out hb)
    have T6 := Lib.hid (T5.out.keep hb)
    have TL6 := Lib.hid (TL5.out.keep hb)
    clear hb A5 T5 TL5 t5_0 t5_z
    obtain ⟨t6_0, t6_z⟩ := T6.out
    go_wp2_with fail
    refine (RX.out _).mono ?_
    rintro e x1 ⟨rfl, rfl⟩
    go_wp2_with fail
    refine (RY.out _).mono ?_
    rintro e x2 ⟨rfl, rfl⟩
    go_wp2
    go_ret
    exact ⟨rfl, by first | exact A6.out | exact grow A6.out _ | exact below_drewN A6.out _ | exact grow (grow A6.out _) _ | exact grow (grow (grow A6.out _) _) _⟩
  obtain ⟨e1, e2⟩ := ld_in b i j
  rw [e1, e2] at HD
  rw [i] at RX
  rw [j] at RY
  clear e1 e2
  have HA := fun w h => ulatomic (.slice ao ps.length cp) ps x hx w h
  have HB := fun w h => ulatomic (.slice ao ps.length cp) ps y hy w h
  obtain ⟨e3, e4⟩ := la_in b i
  obtain ⟨e5, e6⟩ := la_in b j
  rw [e3, e4] at HA
  rw [e5, e6] at HB
  clear e3 e4 e5 e6
  have bi := inB_iff.1 i
  have bj := inB_iff.1 j
  have wx := (ltW_bd b i).2
  have wy := (ltW_bd b j).2
  have nl := (ltB_iff.1 b).1
  obtain ⟨D, hD⟩ : ∃ D, ltW ps y - ltW ps x = D := ⟨_, rfl⟩
  have kd : Hid (x ≤ y → decide (D < y - x) = false ∧ decide (y - x + (ps.length : Int) < D) = false) := fun h => by
    have q := near b h
    exact ⟨decide_eq_false (by omega), decide_eq_false (by omega)⟩
  have kk : (D == D) = true := by simp
  cases k : inB z
  · obtain ⟨e1, e2⟩ := ld_out (x := y) (y := z) b (by rw [k, j]; rfl)
    obtain ⟨e3, e4⟩ := ld_out (x := x) (y := z) b (by rw [k, i]; rfl)
    rw [e1, e2] at HE
    rw [e3, e4] at HF
    rw [k] at RZ
    rw [hD] at HD
    clear e1 e2 e3 e4 b l i j k HA HB hD
    replace HD := Lib.hid HD
    replace HE := Lib.hid HE
    replace HF := Lib.hid HF
    replace RX := Lib.hid RX
    replace RY := Lib.hid RY
    replace RZ := Lib.hid RZ
    by_cases q : x ≤ y
    · have q0 : decide (x ≤ y) = true := decide_eq_true q
      obtain ⟨q1, q2⟩ := kd.out q
      clear q kd
      have AW := Lib.hid (fun w ht => awake_all w ht)
      replace ht := Lib.hid ht
      go_enter Tryd.func6, Tryd.ntmps6
      go_wp2_with fail
      refine (AW.out _ (ht.out.below (grow (here w) _))).mono ?_
      rintro e w1 ⟨rfl, hb⟩
      have A1 := Lib.hid (down (grow (here w) _) hb)
      have T1 := Lib.hid (One.new hb)
      have TL1 := Lib.hid ((TL0.out.keep (grow (here _) _)).keep hb)
      clear hb TL0
      obtain ⟨t1_0, t1_z⟩ := T1.out
      go_wp2_with fail
      refine (HL.out _ TL1.out).mono ?_
      rintro e w2 ⟨rfl, hb⟩
      have A2 := Lib.hid (down A1.out hb)
      have T2 := Lib.hid (T1.out.keep hb)
      have TL2 := Lib.hid (TL1.out.keep hb)
      clear hb A1 T1 TL1 t1_0 t1_z
      obtain ⟨t2_0, t2_z⟩ := T2.out
      go_wp2_with fail
      refine (HV.out _ TL2.out).mono ?_
      rintro e w3 ⟨rfl, hb⟩
      have A3 := Lib.hid (down A2.out hb)
      have T3 := Lib.hid (T2.out.keep hb)
      have TL3 := Lib.hid (TL2.out.keep hb)
      clear hb A2 T2 TL2 t2_0 t2_z
      obtain ⟨t3_0, t3_z⟩ := T3.out
      go_wp2_with fail
      refine (HD.out _ TL3.out).mono ?_
      rintro e w4 ⟨rfl, hb⟩
      have A4 := Lib.hid (down A3.out hb)
      have T4 := Lib.hid (T3.out.keep hb)
      have TL4 := Lib.hid (TL3.out.keep hb)
      clear hb A3 T3 TL3 t3_0 t3_z
      obtain ⟨t4_0, t4_z⟩ := T4.out
      go_wp2_with fail
      refine (HE.out _ TL4.out).mono ?_
      rintro e w5 ⟨rfl, hb⟩
      have A5 := Lib.hid (down A4.out hb)
      have T5 := Lib.hid (T4.out.keep hb)
      have TL5 := Lib.hid (TL4.out.keep hb)
      clear hb A4 T4 TL4 t4_0 t4_z
      obtain ⟨t5_0, t5_z⟩ := T5.out
      go_wp2_with fail
      refine (HF.out _ TL5.out).mono ?_
      rintro e w6 ⟨rfl, hb⟩
      have A6 := Lib.hid (down A5.out hb)
      have T6 := Lib.hid (T5.out.keep hb)
      have TL6 := Lib.hid (TL5.out.keep hb)
      clear hb A5 T5 TL5 t5_0 t5_z
      obtain ⟨t6_0, t6_z⟩ := T6.out
      go_wp2_with fail
      refine (RX.out _).mono ?_
      rintro e x1 ⟨rfl, rfl⟩
      go_wp2_with fail
      refine (RY.out _).mono ?_
      rintro e x2 ⟨rfl, rfl⟩
      go_wp2_with fail
      refine (RZ.out _).mono ?_
      rintro e x3 ⟨rfl, rfl⟩
      go_wp2
      go_ret
      exact ⟨rfl, by first | exact A6.out | exact grow A6.out _ | exact below_drewN A6.out _ | exact grow (grow A6.out _) _ | exact grow (grow (grow A6.out _) _) _⟩
    · have q0 : decide (x ≤ y) = false := decide_eq_false q
      clear q kd
      have AW := Lib.hid (fun w ht => awake_all w ht)
      replace ht := Lib.hid ht
      go_enter Tryd.func6, Tryd.ntmps6
      go_wp2_with fail
      refine (AW.out _ (ht.out.below (grow (here w) _))).mono ?_
      rintro e w1 ⟨rfl, hb⟩
      have A1 := Lib.hid (down (grow (here w) _) hb)
      have T1 := Lib.hid (One.new hb)
      have TL1 := Lib.hid ((TL0.out.keep (grow (here _) _)).keep hb)
      clear hb TL0
      obtain ⟨t1_0, t1_z⟩ := T1.out
      go_wp2_with fail
      refine (HL.out _ TL1.out).mono ?_
      rintro e w2 ⟨rfl, hb⟩
      have A2 := Lib.hid (down A1.out hb)
      have T2 := Lib.hid (T1.out.keep hb)
      have TL2 := Lib.hid (TL1.out.keep hb)
      clear hb A1 T1 TL1 t1_0 t1_z
      obtain ⟨t2_0, t2_z⟩ := T2.out
      go_wp2_with fail
      refine (HV.out _ TL2.out).mono ?_
      rintro e w3 ⟨rfl, hb⟩
      have A3 := Lib.hid (down A2.out hb)
      have T3 := Lib.hid (T2.out.keep hb)
      have TL3 := Lib.hid (TL2.out.keep hb)
      clear hb A2 T2 TL2 t2_0 t2_z
      obtain ⟨t3_0, t3_z⟩ := T3.out
      go_wp2_with fail
      refine (HD.out _ TL3.out).mono ?_
      rintro e w4 ⟨rfl, hb⟩
      have A4 := Lib.hid (down A3.out hb)
      have T4 := Lib.hid (T3.out.keep hb)
      have TL4 := Lib.hid (TL3.out.keep hb)
      clear hb A3 T3 TL3 t3_0 t3_z
      obtain ⟨t4_0, t4_z⟩ := T4.out
      go_wp2_with fail
      refine (HE.out _ TL4.out).mono ?_
      rintro e w5 ⟨rfl, hb⟩
      have A5 := Lib.hid (down A4.out hb)
      have T5 := Lib.hid (T4.out.keep hb)
      have TL5 := Lib.hid (TL4.out.keep hb)
      clear hb A4 T4 TL4 t4_0 t4_z
      obtain ⟨t5_0, t5_z⟩ := T5.out
      go_wp2_with fail
      refine (HF.out _ TL5.out).mono ?_
      rintro e w6 ⟨rfl, hb⟩
      have A6 := Lib.hid (down A5.out hb)
      have T6 := Lib.hid (T5.out.keep hb)
      have TL6 := Lib.hid (TL5.out.keep hb)
      clear hb A5 T5 TL5 t5_0 t5_z
      obtain ⟨t6_0, t6_z⟩ := T6.out
      go_wp2_with fail
      refine (RX.out _).mono ?_
      rintro e x1 ⟨rfl, rfl⟩
      go_wp2_with fail
      refine (RY.out _).mono ?_
      rintro e x2 ⟨rfl, rfl⟩
      go_wp2_with fail
      refine (RZ.out _).mono ?_
      rintro e x3 ⟨rfl, rfl⟩
      go_wp2
      go_ret
      exact ⟨rfl, by first | exact A6.out | exact grow A6.out _ | exact below_drewN A6.out _ | exact grow (grow A6.out _) _ | exact grow (grow (grow A6.out _) _) _⟩
  · obtain ⟨e1, e2⟩ := ld_in b j k
    obtain ⟨e3, e4⟩ := ld_in b i k
    have wz := (ltW_bd b k).2
    rw [e1, e2] at HE
    rw [e3, e4] at HF
    rw [k] at RZ
    rw [hD] at HD
    clear e1 e2 e3 e4 b l i j k
    generalize ltW ps x = X at *
    generalize ltW ps y = Y at *
    generalize ltW ps z = Z at *
    have hsum : D + (Z - Y) = Z - X := by omega
    obtain ⟨Q, hQ⟩ : ∃ Q, Z - X = Q := ⟨_, rfl⟩
    rw [hQ] at HF hsum
    have kq : (Q == Q) = true := by simp
    have db : -400000000000 ≤ D ∧ D ≤ 400000000000 := by omega
    obtain ⟨R, hR⟩ : ∃ R, Z - Y = R := ⟨_, rfl⟩
    rw [hR] at HE hsum
    have rb : -400000000000 ≤ R ∧ R ≤ 400000000000 := by omega
    clear hR hQ
    replace HD := Lib.hid HD
    replace HE := Lib.hid HE
    replace HF := Lib.hid HF
    replace RX := Lib.hid RX
    replace RY := Lib.hid RY
    replace RZ := Lib.hid RZ
    replace HA := Lib.hid HA
    replace HB := Lib.hid HB
    by_cases q : x ≤ y
    · have q0 : decide (x ≤ y) = true := decide_eq_true q
      obtain ⟨q1, q2⟩ := kd.out q
      clear q kd
      have AW := Lib.hid (fun w ht => awake_all w ht)
      replace ht := Lib.hid ht
      go_enter Tryd.func6, Tryd.ntmps6
      go_wp2_with fail
      refine (AW.out _ (ht.out.below (grow (here w) _))).mono ?_
      rintro e w1 ⟨rfl, hb⟩
      have A1 := Lib.hid (down (grow (here w) _) hb)
      have T1 := Lib.hid (One.new hb)
      have TL1 := Lib.hid ((TL0.out.keep (grow (here _) _)).keep hb)
      clear hb TL0
      obtain ⟨t1_0, t1_z⟩ := T1.out
      go_wp2_with fail
      refine (HL.out _ TL1.out).mono ?_
      rintro e w2 ⟨rfl, hb⟩
      have A2 := Lib.hid (down A1.out hb)
      have T2 := Lib.hid (T1.out.keep hb)
      have TL2 := Lib.hid (TL1.out.keep hb)
      clear hb A1 T1 TL1 t1_0 t1_z
      obtain ⟨t2_0, t2_z⟩ := T2.out
      go_wp2_with fail
      refine (HV.out _ TL2.out).mono ?_
      rintro e w3 ⟨rfl, hb⟩
      have A3 := Lib.hid (down A2.out hb)
      have T3 := Lib.hid (T2.out.keep hb)
      have TL3 := Lib.hid (TL2.out.keep hb)
      clear hb A2 T2 TL2 t2_0 t2_z
      obtain ⟨t3_0, t3_z⟩ := T3.out
      go_wp2_with fail
      refine (HD.out _ TL3.out).mono ?_
      rintro e w4 ⟨rfl, hb⟩
      have A4 := Lib.hid (down A3.out hb)
      have T4 := Lib.hid (T3.out.keep hb)
      have TL4 := Lib.hid (TL3.out.keep hb)
      clear hb A3 T3 TL3 t3_0 t3_z
      obtain ⟨t4_0, t4_z⟩ := T4.out
      go_wp2_with fail
      refine (HE.out _ TL4.out).mono ?_
      rintro e w5 ⟨rfl, hb⟩
      have A5 := Lib.hid (down A4.out hb)
      have T5 := Lib.hid (T4.out.keep hb)
      have TL5 := Lib.hid (TL4.out.keep hb)
      clear hb A4 T4 TL4 t4_0 t4_z
      obtain ⟨t5_0, t5_z⟩ := T5.out
      go_wp2_with fail
      refine (HF.out _ TL5.out).mono ?_
      rintro e w6 ⟨rfl, hb⟩
      have A6 := Lib.hid (down A5.out hb)
      have T6 := Lib.hid (T5.out.keep hb)
      have TL6 := Lib.hid (TL5.out.keep hb)
      clear hb A5 T5 TL5 t5_0 t5_z
      obtain ⟨t6_0, t6_z⟩ := T6.out
      go_wp2_with fail
      refine (RX.out _).mono ?_
      rintro e x1 ⟨rfl, rfl⟩
      go_wp2_with fail
      refine (RY.out _).mono ?_
      rintro e x2 ⟨rfl, rfl⟩
      go_wp2_with fail
      refine (RZ.out _).mono ?_
      rintro e x3 ⟨rfl, rfl⟩
      go_wp2_with fail
      refine (HA.out _ TL6.out).mono ?_
      rintro e w7 ⟨rfl, hb⟩
      have A7 := Lib.hid (down A6.out hb)
      have T7 := Lib.hid (T6.out.keep hb)
      have TL7 := Lib.hid (TL6.out.keep hb)
      clear hb A6 T6 TL6 t6_0 t6_z
      obtain ⟨t7_0, t7_z⟩ := T7.out
      go_wp2_with fail
      refine (HB.out _ TL7.out).mono ?_
      rintro e w8 ⟨rfl, hb⟩
      have A8 := Lib.hid (down A7.out hb)
      have T8 := Lib.hid (T7.out.keep hb)
      have TL8 := Lib.hid (TL7.out.keep hb)
      clear hb A7 T7 TL7 t7_0 t7_z
      obtain ⟨t8_0, t8_z⟩ := T8.out
      go_wp2
      go_ret
      exact ⟨rfl, by first | exact A8.out | exact grow A8.out _ | exact below_drewN A8.out _ | exact grow (grow A8.out _) _ | exact grow (grow (grow A8.out _) _) _⟩
    · have q0 : decide (x ≤ y) = false := decide_eq_false q
      clear q kd
      have AW := Lib.hid (fun w ht => awake_all w ht)
      replace ht := Lib.hid ht
      go_enter Tryd.func6, Tryd.ntmps6
      go_wp2_with fail
      refine (AW.out _ (ht.out.below (grow (here w) _))).mono ?_
      rintro e w1 ⟨rfl, hb⟩
      have A1 := Lib.hid (down (grow (here w) _) hb)
      have T1 := Lib.hid (One.new hb)
      have TL1 := Lib.hid ((TL0.out.keep (grow (here _) _)).keep hb)
      clear hb TL0
      obtain ⟨t1_0, t1_z⟩ := T1.out
      go_wp2_with fail
      refine (HL.out _ TL1.out).mono ?_
      rintro e w2 ⟨rfl, hb⟩
      have A2 := Lib.hid (down A1.out hb)
      have T2 := Lib.hid (T1.out.keep hb)
      have TL2 := Lib.hid (TL1.out.keep hb)
      clear hb A1 T1 TL1 t1_0 t1_z
      obtain ⟨t2_0, t2_z⟩ := T2.out
      go_wp2_with fail
      refine (HV.out _ TL2.out).mono ?_
      rintro e w3 ⟨rfl, hb⟩
      have A3 := Lib.hid (down A2.out hb)
      have T3 := Lib.hid (T2.out.keep hb)
      have TL3 := Lib.hid (TL2.out.keep hb)
      clear hb A2 T2 TL2 t2_0 t2_z
      obtain ⟨t3_0, t3_z⟩ := T3.out
      go_wp2_with fail
      refine (HD.out _ TL3.out).mono ?_
      rintro e w4 ⟨rfl, hb⟩
      have A4 := Lib.hid (down A3.out hb)
      have T4 := Lib.hid (T3.out.keep hb)
      have TL4 := Lib.hid (TL3.out.keep hb)
      clear hb A3 T3 TL3 t3_0 t3_z
      obtain ⟨t4_0, t4_z⟩ := T4.out
      go_wp2_with fail
      refine (HE.out _ TL4.out).mono ?_
      rintro e w5 ⟨rfl, hb⟩
      have A5 := Lib.hid (down A4.out hb)
      have T5 := Lib.hid (T4.out.keep hb)
      have TL5 := Lib.hid (TL4.out.keep hb)
      clear hb A4 T4 TL4 t4_0 t4_z
      obtain ⟨t5_0, t5_z⟩ := T5.out
      go_wp2_with fail
      refine (HF.out _ TL5.out).mono ?_
      rintro e w6 ⟨rfl, hb⟩
      have A6 := Lib.hid (down A5.out hb)
      have T6 := Lib.hid (T5.out.keep hb)
      have TL6 := Lib.hid (TL5.out.keep hb)
      clear hb A5 T5 TL5 t5_0 t5_z
      obtain ⟨t6_0, t6_z⟩ := T6.out
      go_wp2_with fail
      refine (RX.out _).mono ?_
      rintro e x1 ⟨rfl, rfl⟩
      go_wp2_with fail
      refine (RY.out _).mono ?_
      rintro e x2 ⟨rfl, rfl⟩
      go_wp2_with fail
      refine (RZ.out _).mono ?_
      rintro e x3 ⟨rfl, rfl⟩
      go_wp2_with fail
      refine (HA.out _ TL6.out).mono ?_
      rintro e w7 ⟨rfl, hb⟩
      have A7 := Lib.hid (down A6.out hb)
      have T7 := Lib.hid (T6.out.keep hb)
      have TL7 := Lib.hid (TL6.out.keep hb)
      clear hb A6 T6 TL6 t6_0 t6_z
      obtain ⟨t7_0, t7_z⟩ := T7.out
      go_wp2_with fail
      refine (HB.out _ TL7.out).mono ?_
      rintro e w8 ⟨rfl, hb⟩
      have A8 := Lib.hid (down A7.out hb)
      have T8 := Lib.hid (T7.out.keep hb)
      have TL8 := Lib.hid (TL7.out.keep hb)
      clear hb A7 T7 TL7 t7_0 t7_z
      obtain ⟨t8_0, t8_z⟩ := T8.out
      go_wp2
      go_ret
      exact ⟨rfl, by first | exact A8.out | exact grow A8.out _ | exact below_drewN A8.out _ | exact grow (grow A8.out _) _ | exact grow (grow (grow A8.out _) _) _⟩
end LeapDistances
end Go.Proofs.YtocimbiidloofaaDoor

/- The walks of LeapConverts and LeapBack: the Go text returns true, at every input. -/
import Derived.Test.YtocimbiidloofaaDoorLtAwake
import Derived.Test.YtocimbiidloofaaDoorLtR
import Derived.BigQuiet
import Derived.Deep.QuietTactic
import Derived.Deep.Cut
import Derived.Outline
namespace Go.Proofs.YtocimbiidloofaaDoor
open Go.RowKit
set_option linter.unusedVariables false

theorem la_no {ps : List (Int × Int)} (b : ltB ps = false) (t : Int) : laV ps t = 0 ∧ laE ps t = 1 := by unfold laV laE; rw [b]; exact ⟨rfl, rfl⟩
theorem la_out {ps : List (Int × Int)} (b : ltB ps = true) {t : Int} (h : inB t = false) : laV ps t = 0 ∧ laE ps t = 2 := by unfold laV laE; rw [b, h]; exact ⟨rfl, rfl⟩
theorem la_in {ps : List (Int × Int)} (b : ltB ps = true) {t : Int} (h : inB t = true) : laV ps t = ltW ps t ∧ laE ps t = 0 := by unfold laV laE; rw [b, h]; exact ⟨rfl, rfl⟩
theorem lc_no {ps : List (Int × Int)} (b : ltB ps = false) (a : Int) : lcV ps a = 0 ∧ lcI ps a = false ∧ lcE ps a = 1 := by unfold lcV lcI lcE; rw [b]; exact ⟨rfl, rfl, rfl⟩
theorem lc_out {ps : List (Int × Int)} (b : ltB ps = true) {a : Int} (h : acB ps a = false) : lcV ps a = 0 ∧ lcI ps a = false ∧ lcE ps a = 2 := by unfold lcV lcI lcE; rw [b, h]; exact ⟨rfl, rfl, rfl⟩
theorem lc_in {ps : List (Int × Int)} (b : ltB ps = true) {a : Int} (h : acB ps a = true) : lcV ps a = ltU ps a ∧ lcI ps a = ltI ps a ∧ lcE ps a = 0 := by unfold lcV lcI lcE; rw [b, h]; exact ⟨rfl, rfl, rfl⟩
theorem ld_out {ps : List (Int × Int)} (b : ltB ps = true) {x y : Int} (h : (inB x && inB y) = false) : ldV ps x y = 0 ∧ ldE ps x y = 2 := by unfold ldV ldE; rw [b, Bool.and_assoc, h]; exact ⟨rfl, rfl⟩
theorem ld_in {ps : List (Int × Int)} (b : ltB ps = true) {x y : Int} (h : inB x = true) (h2 : inB y = true) : ldV ps x y = ltW ps y - ltW ps x ∧ ldE ps x y = 0 := by unfold ldV ldE; rw [b, h, h2]; exact ⟨rfl, rfl⟩
theorem lm_no {ps : List (Int × Int)} (b : ltB ps = false) (t : Int) : lmV ps t = 0 := by unfold lmV; rw [b]; rfl
theorem lm_out {ps : List (Int × Int)} (b : ltB ps = true) {t : Int} (h : inB t = false) : lmV ps t = 0 := by unfold lmV; rw [b, h]; rfl
theorem lm_in {ps : List (Int × Int)} (b : ltB ps = true) {t : Int} (h : inB t = true) : lmV ps t = if ltH ps (ltF t + 60) then 61 else 60 := by unfold lmV; rw [b, h]; rfl
theorem lu_no {ps : List (Int × Int)} (b : ltB ps = false) (t n : Int) : luV ps t n = 0 ∧ luE ps t n = 1 := by unfold luV luE; rw [b]; exact ⟨rfl, rfl⟩
theorem lu_out {ps : List (Int × Int)} (b : ltB ps = true) {t n : Int} (h : (inB t && acB ps (ltW ps t + n)) = false) : luV ps t n = 0 ∧ luE ps t n = 2 := by unfold luV luE; rw [b, Bool.true_and, h]; exact ⟨rfl, rfl⟩
theorem lu_gap {ps : List (Int × Int)} (b : ltB ps = true) {t n : Int} (h : inB t = true) (h2 : acB ps (ltW ps t + n) = true) (h3 : ltI ps (ltW ps t + n) = true) : luV ps t n = 0 ∧ luE ps t n = 11 := by unfold luV luE; rw [b, h, h2, h3]; exact ⟨rfl, rfl⟩
theorem lu_yes {ps : List (Int × Int)} (b : ltB ps = true) {t n : Int} (h : inB t = true) (h2 : acB ps (ltW ps t + n) = true) (h3 : ltI ps (ltW ps t + n) = false) : luV ps t n = ltU ps (ltW ps t + n) ∧ luE ps t n = 0 := by unfold luV luE; rw [b, h, h2, h3]; exact ⟨rfl, rfl⟩
theorem rlciv (v : Value) (ps : List (Int × Int)) (a : Int) (ha : I64 a) (ok : ltB ps = true) (w : World) (h : LT w v ps) :
    Calls Tryd.prog 18 #[.agg #[v], .int .i64 a] w fun e w' => e = .returned (.tuple #[.int .i64 (lcV ps a), .bool (lcI ps a), .int .i64 (lcE ps a)]) ∧ Below w.heap.size w w' := by
  cases hb : acB ps a
  · obtain ⟨e1, e2, e3⟩ := lc_out ok hb
    rw [e1, e2, e3]
    exact rlciv_out v ps a ha (by have := (ltB_iff.1 ok).1; omega) w h hb
  · obtain ⟨e1, e2, e3⟩ := lc_in ok hb
    rw [e1, e2, e3]
    exact rlciv_in v ps a ok hb w h
namespace LeapConverts
set_option maxRecDepth 100000 in
set_option maxHeartbeats 2000000 in
theorem walk (v : Value) (ps : List (Int × Int)) (x y : Int) (hx : (Lit.int .i64 x).wf = true) (hy : (Lit.int .i64 y).wf = true) (w : World) (h : LT w v ps) (ht : Tabs w) :
    Calls Tryd.prog 4 #[.agg #[v], .int .i64 x, .int .i64 y] w fun e w' => e = .returned (.bool true) ∧ Below w.heap.size w w' := by
  replace hx := i64_wf hx
  replace hy := i64_wf hy
  obtain ⟨ao, cp, rfl⟩ := h.shape
  have TL0 := Lib.hid h
  have HL := fun w h => rlong (.slice ao ps.length cp) ps w h
  have HV := fun w h => ulvalid (.slice ao ps.length cp) ps w h
  have RV := fun w h => rlvalid (.slice ao ps.length cp) ps w h
  clear h
  by_cases l : 300 < ps.length
  · rw [decide_eq_true l] at HL
    clear l
    replace HL := Lib.hid HL
    have AW := Lib.hid (fun w ht => awake_all w ht)
    replace ht := Lib.hid ht
    go_enter Tryd.func4, Tryd.ntmps4
    go_wp2_with fail
    refine (AW.out _ (ht.out.below (grow (here w) _))).mono ?_
    rintro e w1 ⟨rfl, hb⟩
    have A1 := Lib.hid (down (grow (here w) _) hb)
    have T1 := Lib.hid (One.new hb)
    have TL1 := Lib.hid ((TL0.out.keep (grow (here _) _)).keep hb)
    clear hb TL0
    obtain ⟨t1_0, t1_z⟩ := T1.out
    go_wp2_with fail
    refine (HL.out _ TL1.out).mono ?_
    rintro e w2 ⟨rfl, hb⟩
    have A2 := Lib.hid (down A1.out hb)
    have T2 := Lib.hid (T1.out.keep hb)
    have TL2 := Lib.hid (TL1.out.keep hb)
    clear hb A1 T1 TL1 t1_0 t1_z
    obtain ⟨t2_0, t2_z⟩ := T2.out
    go_wp2_with fail
    refine (AW.out _ (ht.out.below A2.out)).mono ?_
    rintro e w3 ⟨rfl, hb⟩
    have A3 := Lib.hid (down A2.out hb)
    have T3 := Lib.hid (T2.out.keep hb)
    have TL3 := Lib.hid (TL2.out.keep hb)
    clear hb A2 T2 TL2 t2_0 t2_z
    obtain ⟨t3_0, t3_z⟩ := T3.out
    go_wp2
    go_ret
    exact ⟨rfl, by first | exact A3.out | exact grow A3.out _ | exact below_drewN A3.out _ | exact grow (grow A3.out _) _ | exact grow (grow (grow A3.out _) _) _⟩
  rw [decide_eq_false l] at HL
  replace HL := Lib.hid HL
  have HA := fun w h => ulatomic (.slice ao ps.length cp) ps x hx w h
  have HC := fun w h => ulcivil (.slice ao ps.length cp) ps y hy w h
  cases b : ltB ps
  · obtain ⟨e1, e2⟩ := la_no b x
    obtain ⟨e3, e4, e5⟩ := lc_no b y
    rw [e1, e2] at HA
    rw [e3, e4, e5] at HC
    rw [b] at RV
    clear e1 e2 e3 e4 e5 HV b l
    replace HA := Lib.hid HA
    replace HC := Lib.hid HC
    replace RV := Lib.hid RV
    have AW := Lib.hid (fun w ht => awake_all w ht)
    replace ht := Lib.hid ht
    go_enter Tryd.func4, Tryd.ntmps4
    go_wp2_with fail
    refine (AW.out _ (ht.out.below (grow (here w) _))).mono ?_
    rintro e w1 ⟨rfl, hb⟩
    have A1 := Lib.hid (down (grow (here w) _) hb)
    have T1 := Lib.hid (One.new hb)
    have TL1 := Lib.hid ((TL0.out.keep (grow (here _) _)).keep hb)
    clear hb TL0
    obtain ⟨t1_0, t1_z⟩ := T1.out
    go_wp2_with fail
    refine (HL.out _ TL1.out).mono ?_
    rintro e w2 ⟨rfl, hb⟩
    have A2 := Lib.hid (down A1.out hb)
    have T2 := Lib.hid (T1.out.keep hb)
    have TL2 := Lib.hid (TL1.out.keep hb)
    clear hb A1 T1 TL1 t1_0 t1_z
    obtain ⟨t2_0, t2_z⟩ := T2.out
    go_wp2_with fail
    refine (HA.out _ TL2.out).mono ?_
    rintro e w3 ⟨rfl, hb⟩
    have A3 := Lib.hid (down A2.out hb)
    have T3 := Lib.hid (T2.out.keep hb)
    have TL3 := Lib.hid (TL2.out.keep hb)
    clear hb A2 T2 TL2 t2_0 t2_z
    obtain ⟨t3_0, t3_z⟩ := T3.out
    go_wp2_with fail
    refine (HC.out _ TL3.out).mono ?_
    rintro e w4 ⟨rfl, hb⟩
    have A4 := Lib.hid (down A3.out hb)
    have T4 := Lib.hid (T3.out.keep hb)
    have TL4 := Lib.hid (TL3.out.keep hb)
    clear hb A3 T3 TL3 t3_0 t3_z
    obtain ⟨t4_0, t4_z⟩ := T4.out
    go_wp2_with fail
    refine (RV.out _ TL4.out).mono ?_
    rintro e w5 ⟨rfl, hb⟩
    have A5 := Lib.hid (down A4.out hb)
    have T5 := Lib.hid (T4.out.keep hb)
    have TL5 := Lib.hid (TL4.out.keep hb)
    clear hb A4 T4 TL4 t4_0 t4_z
    obtain ⟨t5_0, t5_z⟩ := T5.out
    go_wp2
    go_ret
    exact ⟨rfl, by first | exact A5.out | exact grow A5.out _ | exact below_drewN A5.out _ | exact grow (grow A5.out _) _ | exact grow (grow (grow A5.out _) _) _⟩
  · have RC := fun w h => rlciv (.slice ao ps.length cp) ps y hy b w h
    have RI := fun w => rlins x hx w
    rw [b] at RV
    have k1 : (lcV ps y != lcV ps y) = false := by simp
    have k2 : (lcI ps y != lcI ps y) = false := by simp
    have k3 : (lcE ps y != lcE ps y) = false := by simp
    generalize lcV ps y = X at *
    generalize lcI ps y = J at *
    generalize lcE ps y = E at *
    cases i : inB x
    · obtain ⟨e1, e2⟩ := la_out b i
      rw [e1, e2] at HA
      rw [i] at RI
      clear e1 e2 i b HV l
      replace HA := Lib.hid HA
      replace HC := Lib.hid HC
      replace RV := Lib.hid RV
      replace RC := Lib.hid RC
      replace RI := Lib.hid RI
      have AW := Lib.hid (fun w ht => awake_all w ht)
      replace ht := Lib.hid ht
      go_enter Tryd.func4, Tryd.ntmps4
      go_wp2_with fail
      refine (AW.out _ (ht.out.below (grow (here w) _))).mono ?_
      rintro e w1 ⟨rfl, hb⟩
      have A1 := Lib.hid (down (grow (here w) _) hb)
      have T1 := Lib.hid (One.new hb)
      have TL1 := Lib.hid ((TL0.out.keep (grow (here _) _)).keep hb)
      clear hb TL0
      obtain ⟨t1_0, t1_z⟩ := T1.out
      go_wp2_with fail
      refine (HL.out _ TL1.out).mono ?_
      rintro e w2 ⟨rfl, hb⟩
      have A2 := Lib.hid (down A1.out hb)
      have T2 := Lib.hid (T1.out.keep hb)
      have TL2 := Lib.hid (TL1.out.keep hb)
      clear hb A1 T1 TL1 t1_0 t1_z
      obtain ⟨t2_0, t2_z⟩ := T2.out
      go_wp2_with fail
      refine (HA.out _ TL2.out).mono ?_
      rintro e w3 ⟨rfl, hb⟩
      have A3 := Lib.hid (down A2.out hb)
      have T3 := Lib.hid (T2.out.keep hb)
      have TL3 := Lib.hid (TL2.out.keep hb)
      clear hb A2 T2 TL2 t2_0 t2_z
      obtain ⟨t3_0, t3_z⟩ := T3.out
      go_wp2_with fail
      refine (HC.out _ TL3.out).mono ?_
      rintro e w4 ⟨rfl, hb⟩
      have A4 := Lib.hid (down A3.out hb)
      have T4 := Lib.hid (T3.out.keep hb)
      have TL4 := Lib.hid (TL3.out.keep hb)
      clear hb A3 T3 TL3 t3_0 t3_z
      obtain ⟨t4_0, t4_z⟩ := T4.out
      go_wp2_with fail
      refine (RV.out _ TL4.out).mono ?_
      rintro e w5 ⟨rfl, hb⟩
      have A5 := Lib.hid (down A4.out hb)
      have T5 := Lib.hid (T4.out.keep hb)
      have TL5 := Lib.hid (TL4.out.keep hb)
      clear hb A4 T4 TL4 t4_0 t4_z
      obtain ⟨t5_0, t5_z⟩ := T5.out
      go_wp2_with fail
      refine (RC.out _ TL5.out).mono ?_
      rintro e w6 ⟨rfl, hb⟩
      have A6 := Lib.hid (down A5.out hb)
      have T6 := Lib.hid (T5.out.keep hb)
      have TL6 := Lib.hid (TL5.out.keep hb)
      clear hb A5 T5 TL5 t5_0 t5_z
      obtain ⟨t6_0, t6_z⟩ := T6.out
      go_wp2_with fail
      refine (RI.out _).mono ?_
      rintro e x1 ⟨rfl, rfl⟩
      go_wp2
      go_ret
      exact ⟨rfl, by first | exact A6.out | exact grow A6.out _ | exact below_drewN A6.out _ | exact grow (grow A6.out _) _ | exact grow (grow (grow A6.out _) _) _⟩
    · obtain ⟨e1, e2⟩ := la_in b i
      rw [e1, e2] at HA
      have RA := fun w h => rlat (.slice ao ps.length cp) ps x i (by omega) w h
      rw [i] at RI
      have k4 : (ltW ps x == ltW ps x) = true := by simp
      generalize ltW ps x = A at *
      clear e1 e2 i b HV l
      replace HA := Lib.hid HA
      replace HC := Lib.hid HC
      replace RV := Lib.hid RV
      replace RC := Lib.hid RC
      replace RI := Lib.hid RI
      replace RA := Lib.hid RA
      have AW := Lib.hid (fun w ht => awake_all w ht)
      replace ht := Lib.hid ht
      go_enter Tryd.func4, Tryd.ntmps4
      go_wp2_with fail
      refine (AW.out _ (ht.out.below (grow (here w) _))).mono ?_
      rintro e w1 ⟨rfl, hb⟩
      have A1 := Lib.hid (down (grow (here w) _) hb)
      have T1 := Lib.hid (One.new hb)
      have TL1 := Lib.hid ((TL0.out.keep (grow (here _) _)).keep hb)
      clear hb TL0
      obtain ⟨t1_0, t1_z⟩ := T1.out
      go_wp2_with fail
      refine (HL.out _ TL1.out).mono ?_
      rintro e w2 ⟨rfl, hb⟩
      have A2 := Lib.hid (down A1.out hb)
      have T2 := Lib.hid (T1.out.keep hb)
      have TL2 := Lib.hid (TL1.out.keep hb)
      clear hb A1 T1 TL1 t1_0 t1_z
      obtain ⟨t2_0, t2_z⟩ := T2.out
      go_wp2_with fail
      refine (HA.out _ TL2.out).mono ?_
      rintro e w3 ⟨rfl, hb⟩
      have A3 := Lib.hid (down A2.out hb)
      have T3 := Lib.hid (T2.out.keep hb)
      have TL3 := Lib.hid (TL2.out.keep hb)
      clear hb A2 T2 TL2 t2_0 t2_z
      obtain ⟨t3_0, t3_z⟩ := T3.out
      go_wp2_with fail
      refine (HC.out _ TL3.out).mono ?_
      rintro e w4 ⟨rfl, hb⟩
      have A4 := Lib.hid (down A3.out hb)
      have T4 := Lib.hid (T3.out.keep hb)
      have TL4 := Lib.hid (TL3.out.keep hb)
      clear hb A3 T3 TL3 t3_0 t3_z
      obtain ⟨t4_0, t4_z⟩ := T4.out
      go_wp2_with fail
      refine (RV.out _ TL4.out).mono ?_
      rintro e w5 ⟨rfl, hb⟩
      have A5 := Lib.hid (down A4.out hb)
      have T5 := Lib.hid (T4.out.keep hb)
      have TL5 := Lib.hid (TL4.out.keep hb)
      clear hb A4 T4 TL4 t4_0 t4_z
      obtain ⟨t5_0, t5_z⟩ := T5.out
      go_wp2_with fail
      refine (RC.out _ TL5.out).mono ?_
      rintro e w6 ⟨rfl, hb⟩
      have A6 := Lib.hid (down A5.out hb)
      have T6 := Lib.hid (T5.out.keep hb)
      have TL6 := Lib.hid (TL5.out.keep hb)
      clear hb A5 T5 TL5 t5_0 t5_z
      obtain ⟨t6_0, t6_z⟩ := T6.out
      go_wp2_with fail
      refine (RI.out _).mono ?_
      rintro e x1 ⟨rfl, rfl⟩
      go_wp2_with fail
      refine (RA.out _ TL6.out).mono ?_
      rintro e w7 ⟨rfl, hb⟩
      have A7 := Lib.hid (down A6.out hb)
      have T7 := Lib.hid (T6.out.keep hb)
      have TL7 := Lib.hid (TL6.out.keep hb)
      clear hb A6 T6 TL6 t6_0 t6_z
      obtain ⟨t7_0, t7_z⟩ := T7.out
      go_wp2
      go_ret
      exact ⟨rfl, by first | exact A7.out | exact grow A7.out _ | exact below_drewN A7.out _ | exact grow (grow A7.out _) _ | exact grow (grow (grow A7.out _) _) _⟩
end LeapConverts
namespace LeapBack
set_option maxRecDepth 100000 in
set_option maxHeartbeats 2000000 in
theorem walk (v : Value) (ps : List (Int × Int)) (x y : Int) (hx : (Lit.int .i64 x).wf = true) (hy : (Lit.int .i64 y).wf = true) (w : World) (h : LT w v ps) (ht : Tabs w) :
    Calls Tryd.prog 5 #[.agg #[v], .int .i64 x, .int .i64 y] w fun e w' => e = .returned (.bool true) ∧ Below w.heap.size w w' := by
  replace hx := i64_wf hx
  replace hy := i64_wf hy
  obtain ⟨ao, cp, rfl⟩ := h.shape
  have TL0 := Lib.hid h
  have HL := fun w h => rlong (.slice ao ps.length cp) ps w h
  have HV := fun w h => ulvalid (.slice ao ps.length cp) ps w h
  have RV := fun w h => rlvalid (.slice ao ps.length cp) ps w h
  clear h
  by_cases l : 300 < ps.length
  · rw [decide_eq_true l] at HL
    clear l
    replace HL := Lib.hid HL
    have AW := Lib.hid (fun w ht => awake_all w ht)
    replace ht := Lib.hid ht
    go_enter Tryd.func5, Tryd.ntmps5
    go_wp2_with fail
    refine (AW.out _ (ht.out.below (grow (here w) _))).mono ?_
    rintro e w1 ⟨rfl, hb⟩
    have A1 := Lib.hid (down (grow (here w) _) hb)
    have T1 := Lib.hid (One.new hb)
    have TL1 := Lib.hid ((TL0.out.keep (grow (here _) _)).keep hb)
    clear hb TL0
    obtain ⟨t1_0, t1_z⟩ := T1.out
    go_wp2_with fail
    refine (HL.out _ TL1.out).mono ?_
    rintro e w2 ⟨rfl, hb⟩
    have A2 := Lib.hid (down A1.out hb)
    have T2 := Lib.hid (T1.out.keep hb)
    have TL2 := Lib.hid (TL1.out.keep hb)
    clear hb A1 T1 TL1 t1_0 t1_z
    obtain ⟨t2_0, t2_z⟩ := T2.out
    go_wp2_with fail
    refine (AW.out _ (ht.out.below A2.out)).mono ?_
    rintro e w3 ⟨rfl, hb⟩
    have A3 := Lib.hid (down A2.out hb)
    have T3 := Lib.hid (T2.out.keep hb)
    have TL3 := Lib.hid (TL2.out.keep hb)
    clear hb A2 T2 TL2 t2_0 t2_z
    obtain ⟨t3_0, t3_z⟩ := T3.out
    go_wp2
    go_ret
    exact ⟨rfl, by first | exact A3.out | exact grow A3.out _ | exact below_drewN A3.out _ | exact grow (grow A3.out _) _ | exact grow (grow (grow A3.out _) _) _⟩
  rw [decide_eq_false l] at HL
  replace HL := Lib.hid HL
  cases b : ltB ps
  · rw [b] at HV
    clear b RV
    replace HV := Lib.hid HV
    have AW := Lib.hid (fun w ht => awake_all w ht)
    replace ht := Lib.hid ht
    go_enter Tryd.func5, Tryd.ntmps5
    go_wp2_with fail
    refine (AW.out _ (ht.out.below (grow (here w) _))).mono ?_
    rintro e w1 ⟨rfl, hb⟩
    have A1 := Lib.hid (down (grow (here w) _) hb)
    have T1 := Lib.hid (One.new hb)
    have TL1 := Lib.hid ((TL0.out.keep (grow (here _) _)).keep hb)
    clear hb TL0
    obtain ⟨t1_0, t1_z⟩ := T1.out
    go_wp2_with fail
    refine (HL.out _ TL1.out).mono ?_
    rintro e w2 ⟨rfl, hb⟩
    have A2 := Lib.hid (down A1.out hb)
    have T2 := Lib.hid (T1.out.keep hb)
    have TL2 := Lib.hid (TL1.out.keep hb)
    clear hb A1 T1 TL1 t1_0 t1_z
    obtain ⟨t2_0, t2_z⟩ := T2.out
    go_wp2_with fail
    refine (HV.out _ TL2.out).mono ?_
    rintro e w3 ⟨rfl, hb⟩
    have A3 := Lib.hid (down A2.out hb)
    have T3 := Lib.hid (T2.out.keep hb)
    have TL3 := Lib.hid (TL2.out.keep hb)
    clear hb A2 T2 TL2 t2_0 t2_z
    obtain ⟨t3_0, t3_z⟩ := T3.out
    go_wp2_with fail
    refine (AW.out _ (ht.out.below A3.out)).mono ?_
    rintro e w4 ⟨rfl, hb⟩
    have A4 := Lib.hid (down A3.out hb)
    have T4 := Lib.hid (T3.out.keep hb)
    have TL4 := Lib.hid (TL3.out.keep hb)
    clear hb A3 T3 TL3 t3_0 t3_z
    obtain ⟨t4_0, t4_z⟩ := T4.out
    go_wp2
    go_ret
    exact ⟨rfl, by first | exact A4.out | exact grow A4.out _ | exact below_drewN A4.out _ | exact grow (grow A4.out _) _ | exact grow (grow (grow A4.out _) _) _⟩
  rw [b] at HV
  replace HV := Lib.hid HV
  clear RV
  have HA := fun w h => ulatomic (.slice ao ps.length cp) ps x hx w h
  have HD := fun w h => ulcivil (.slice ao ps.length cp) ps y hy w h
  have kx : (x != x) = false := by simp
  cases i : inB x
  · obtain ⟨e1, e2⟩ := la_out b i
    rw [e1, e2] at HA
    replace HA := Lib.hid HA
    clear e1 e2 i
    cases c : acB ps y
    · obtain ⟨e3, e4, e5⟩ := lc_out b c
      rw [e3, e4, e5] at HD
      clear e3 e4 e5 c b l
      replace HD := Lib.hid HD
      have AW := Lib.hid (fun w ht => awake_all w ht)
      replace ht := Lib.hid ht
      go_enter Tryd.func5, Tryd.ntmps5
      go_wp2_with fail
      refine (AW.out _ (ht.out.below (grow (here w) _))).mono ?_
      rintro e w1 ⟨rfl, hb⟩
      have A1 := Lib.hid (down (grow (here w) _) hb)
      have T1 := Lib.hid (One.new hb)
      have TL1 := Lib.hid ((TL0.out.keep (grow (here _) _)).keep hb)
      clear hb TL0
      obtain ⟨t1_0, t1_z⟩ := T1.out
      go_wp2_with fail
      refine (HL.out _ TL1.out).mono ?_
      rintro e w2 ⟨rfl, hb⟩
      have A2 := Lib.hid (down A1.out hb)
      have T2 := Lib.hid (T1.out.keep hb)
      have TL2 := Lib.hid (TL1.out.keep hb)
      clear hb A1 T1 TL1 t1_0 t1_z
      obtain ⟨t2_0, t2_z⟩ := T2.out
      go_wp2_with fail
      refine (HV.out _ TL2.out).mono ?_
      rintro e w3 ⟨rfl, hb⟩
      have A3 := Lib.hid (down A2.out hb)
      have T3 := Lib.hid (T2.out.keep hb)
      have TL3 := Lib.hid (TL2.out.keep hb)
      clear hb A2 T2 TL2 t2_0 t2_z
      obtain ⟨t3_0, t3_z⟩ := T3.out
      go_wp2_with fail
      refine (HA.out _ TL3.out).mono ?_
      rintro e w4 ⟨rfl, hb⟩
      have A4 := Lib.hid (down A3.out hb)
      have T4 := Lib.hid (T3.out.keep hb)
      have TL4 := Lib.hid (TL3.out.keep hb)
      clear hb A3 T3 TL3 t3_0 t3_z
      obtain ⟨t4_0, t4_z⟩ := T4.out
      go_wp2_with fail
      refine (HD.out _ TL4.out).mono ?_
      rintro e w5 ⟨rfl, hb⟩
      have A5 := Lib.hid (down A4.out hb)
      have T5 := Lib.hid (T4.out.keep hb)
      have TL5 := Lib.hid (TL4.out.keep hb)
      clear hb A4 T4 TL4 t4_0 t4_z
      obtain ⟨t5_0, t5_z⟩ := T5.out
      go_wp2
      go_ret
      exact ⟨rfl, by first | exact A5.out | exact grow A5.out _ | exact below_drewN A5.out _ | exact grow (grow A5.out _) _ | exact grow (grow (grow A5.out _) _) _⟩
    · obtain ⟨e3, e4, e5⟩ := lc_in b c
      obtain ⟨u0, u1, u2⟩ := lt_back b c
      obtain ⟨e6, e7⟩ := la_in b u0
      have u3 := inB_iff.1 u0
      have HB := fun w h => ulatomic (.slice ao ps.length cp) ps (ltU ps y) ⟨by omega, by omega⟩ w h
      rw [e6, e7] at HB
      rw [e3, e4, e5] at HD
      have yb := acB_iff.1 c
      have ky : (y == y) = true := by simp
      have ky' : (y + 1 == y + 1) = true := by simp
      have nb := (ltB_iff.1 b).1
      generalize ltU ps y = U at *
      cases j : ltI ps y
      · rw [u2 j] at HB
        rw [j] at HD
        clear e3 e4 e5 e6 e7 u0 u1 u2 u3 c b l j
        replace HD := Lib.hid HD
        replace HB := Lib.hid HB
        have AW := Lib.hid (fun w ht => awake_all w ht)
        replace ht := Lib.hid ht
        go_enter Tryd.func5, Tryd.ntmps5
        go_wp2_with fail
        refine (AW.out _ (ht.out.below (grow (here w) _))).mono ?_
        rintro e w1 ⟨rfl, hb⟩
        have A1 := Lib.hid (down (grow (here w) _) hb)
        have T1 := Lib.hid (One.new hb)
        have TL1 := Lib.hid ((TL0.out.keep (grow (here _) _)).keep hb)
        clear hb TL0
        obtain ⟨t1_0, t1_z⟩ := T1.out
        go_wp2_with fail
        refine (HL.out _ TL1.out).mono ?_
        rintro e w2 ⟨rfl, hb⟩
        have A2 := Lib.hid (down A1.out hb)
        have T2 := Lib.hid (T1.out.keep hb)
        have TL2 := Lib.hid (TL1.out.keep hb)
        clear hb A1 T1 TL1 t1_0 t1_z
        obtain ⟨t2_0, t2_z⟩ := T2.out
        go_wp2_with fail
        refine (HV.out _ TL2.out).mono ?_
        rintro e w3 ⟨rfl, hb⟩
        have A3 := Lib.hid (down A2.out hb)
        have T3 := Lib.hid (T2.out.keep hb)
        have TL3 := Lib.hid (TL2.out.keep hb)
        clear hb A2 T2 TL2 t2_0 t2_z
        obtain ⟨t3_0, t3_z⟩ := T3.out
        go_wp2_with fail
        refine (HA.out _ TL3.out).mono ?_
        rintro e w4 ⟨rfl, hb⟩
        have A4 := Lib.hid (down A3.out hb)
        have T4 := Lib.hid (T3.out.keep hb)
        have TL4 := Lib.hid (TL3.out.keep hb)
        clear hb A3 T3 TL3 t3_0 t3_z
        obtain ⟨t4_0, t4_z⟩ := T4.out
        go_wp2_with fail
        refine (HD.out _ TL4.out).mono ?_
        rintro e w5 ⟨rfl, hb⟩
        have A5 := Lib.hid (down A4.out hb)
        have T5 := Lib.hid (T4.out.keep hb)
        have TL5 := Lib.hid (TL4.out.keep hb)
        clear hb A4 T4 TL4 t4_0 t4_z
        obtain ⟨t5_0, t5_z⟩ := T5.out
        go_wp2_with fail
        refine (HB.out _ TL5.out).mono ?_
        rintro e w6 ⟨rfl, hb⟩
        have A6 := Lib.hid (down A5.out hb)
        have T6 := Lib.hid (T5.out.keep hb)
        have TL6 := Lib.hid (TL5.out.keep hb)
        clear hb A5 T5 TL5 t5_0 t5_z
        obtain ⟨t6_0, t6_z⟩ := T6.out
        go_wp2
        go_ret
        exact ⟨rfl, by first | exact A6.out | exact grow A6.out _ | exact below_drewN A6.out _ | exact grow (grow A6.out _) _ | exact grow (grow (grow A6.out _) _) _⟩
      · rw [u1 j] at HB
        rw [j] at HD
        clear e3 e4 e5 e6 e7 u0 u1 u2 u3 c b l j
        replace HD := Lib.hid HD
        replace HB := Lib.hid HB
        have AW := Lib.hid (fun w ht => awake_all w ht)
        replace ht := Lib.hid ht
        go_enter Tryd.func5, Tryd.ntmps5
        go_wp2_with fail
        refine (AW.out _ (ht.out.below (grow (here w) _))).mono ?_
        rintro e w1 ⟨rfl, hb⟩
        have A1 := Lib.hid (down (grow (here w) _) hb)
        have T1 := Lib.hid (One.new hb)
        have TL1 := Lib.hid ((TL0.out.keep (grow (here _) _)).keep hb)
        clear hb TL0
        obtain ⟨t1_0, t1_z⟩ := T1.out
        go_wp2_with fail
        refine (HL.out _ TL1.out).mono ?_
        rintro e w2 ⟨rfl, hb⟩
        have A2 := Lib.hid (down A1.out hb)
        have T2 := Lib.hid (T1.out.keep hb)
        have TL2 := Lib.hid (TL1.out.keep hb)
        clear hb A1 T1 TL1 t1_0 t1_z
        obtain ⟨t2_0, t2_z⟩ := T2.out
        go_wp2_with fail
        refine (HV.out _ TL2.out).mono ?_
        rintro e w3 ⟨rfl, hb⟩
        have A3 := Lib.hid (down A2.out hb)
        have T3 := Lib.hid (T2.out.keep hb)
        have TL3 := Lib.hid (TL2.out.keep hb)
        clear hb A2 T2 TL2 t2_0 t2_z
        obtain ⟨t3_0, t3_z⟩ := T3.out
        go_wp2_with fail
        refine (HA.out _ TL3.out).mono ?_
        rintro e w4 ⟨rfl, hb⟩
        have A4 := Lib.hid (down A3.out hb)
        have T4 := Lib.hid (T3.out.keep hb)
        have TL4 := Lib.hid (TL3.out.keep hb)
        clear hb A3 T3 TL3 t3_0 t3_z
        obtain ⟨t4_0, t4_z⟩ := T4.out
        go_wp2_with fail
        refine (HD.out _ TL4.out).mono ?_
        rintro e w5 ⟨rfl, hb⟩
        have A5 := Lib.hid (down A4.out hb)
        have T5 := Lib.hid (T4.out.keep hb)
        have TL5 := Lib.hid (TL4.out.keep hb)
        clear hb A4 T4 TL4 t4_0 t4_z
        obtain ⟨t5_0, t5_z⟩ := T5.out
        go_wp2_with fail
        refine (HB.out _ TL5.out).mono ?_
        rintro e w6 ⟨rfl, hb⟩
        have A6 := Lib.hid (down A5.out hb)
        have T6 := Lib.hid (T5.out.keep hb)
        have TL6 := Lib.hid (TL5.out.keep hb)
        clear hb A5 T5 TL5 t5_0 t5_z
        obtain ⟨t6_0, t6_z⟩ := T6.out
        go_wp2
        go_ret
        exact ⟨rfl, by first | exact A6.out | exact grow A6.out _ | exact below_drewN A6.out _ | exact grow (grow A6.out _) _ | exact grow (grow (grow A6.out _) _) _⟩
  · obtain ⟨e1, e2⟩ := la_in b i
    rw [e1, e2] at HA
    have wb := ltW_bd b i
    have HC := fun w h => ulcivil (.slice ao ps.length cp) ps (ltW ps x) ⟨by omega, by omega⟩ w h
    obtain ⟨f1, f2, f3⟩ := lc_in b wb.1
    obtain ⟨t1, t2⟩ := lt_there b x
    rw [f1, f2, f3, t1, t2] at HC
    replace HA := Lib.hid HA
    replace HC := Lib.hid HC
    clear e1 e2 i wb f1 f2 f3 t1 t2
    cases c : acB ps y
    · obtain ⟨e3, e4, e5⟩ := lc_out b c
      rw [e3, e4, e5] at HD
      clear e3 e4 e5 c b l
      replace HD := Lib.hid HD
      have AW := Lib.hid (fun w ht => awake_all w ht)
      replace ht := Lib.hid ht
      go_enter Tryd.func5, Tryd.ntmps5
      go_wp2_with fail
      refine (AW.out _ (ht.out.below (grow (here w) _))).mono ?_
      rintro e w1 ⟨rfl, hb⟩
      have A1 := Lib.hid (down (grow (here w) _) hb)
      have T1 := Lib.hid (One.new hb)
      have TL1 := Lib.hid ((TL0.out.keep (grow (here _) _)).keep hb)
      clear hb TL0
      obtain ⟨t1_0, t1_z⟩ := T1.out
      go_wp2_with fail
      refine (HL.out _ TL1.out).mono ?_
      rintro e w2 ⟨rfl, hb⟩
      have A2 := Lib.hid (down A1.out hb)
      have T2 := Lib.hid (T1.out.keep hb)
      have TL2 := Lib.hid (TL1.out.keep hb)
      clear hb A1 T1 TL1 t1_0 t1_z
      obtain ⟨t2_0, t2_z⟩ := T2.out
      go_wp2_with fail
      refine (HV.out _ TL2.out).mono ?_
      rintro e w3 ⟨rfl, hb⟩
      have A3 := Lib.hid (down A2.out hb)
      have T3 := Lib.hid (T2.out.keep hb)
      have TL3 := Lib.hid (TL2.out.keep hb)
      clear hb A2 T2 TL2 t2_0 t2_z
      obtain ⟨t3_0, t3_z⟩ := T3.out
      go_wp2_with fail
      refine (HA.out _ TL3.out).mono ?_
      rintro e w4 ⟨rfl, hb⟩
      have A4 := Lib.hid (down A3.out hb)
      have T4 := Lib.hid (T3.out.keep hb)
      have TL4 := Lib.hid (TL3.out.keep hb)
      clear hb A3 T3 TL3 t3_0 t3_z
      obtain ⟨t4_0, t4_z⟩ := T4.out
      go_wp2_with fail
      refine (HC.out _ TL4.out).mono ?_
      rintro e w5 ⟨rfl, hb⟩
      have A5 := Lib.hid (down A4.out hb)
      have T5 := Lib.hid (T4.out.keep hb)
      have TL5 := Lib.hid (TL4.out.keep hb)
      clear hb A4 T4 TL4 t4_0 t4_z
      obtain ⟨t5_0, t5_z⟩ := T5.out
      go_wp2_with fail
      refine (HD.out _ TL5.out).mono ?_
      rintro e w6 ⟨rfl, hb⟩
      have A6 := Lib.hid (down A5.out hb)
      have T6 := Lib.hid (T5.out.keep hb)
      have TL6 := Lib.hid (TL5.out.keep hb)
      clear hb A5 T5 TL5 t5_0 t5_z
      obtain ⟨t6_0, t6_z⟩ := T6.out
      go_wp2
      go_ret
      exact ⟨rfl, by first | exact A6.out | exact grow A6.out _ | exact below_drewN A6.out _ | exact grow (grow A6.out _) _ | exact grow (grow (grow A6.out _) _) _⟩
    · obtain ⟨e3, e4, e5⟩ := lc_in b c
      obtain ⟨u0, u1, u2⟩ := lt_back b c
      obtain ⟨e6, e7⟩ := la_in b u0
      have u3 := inB_iff.1 u0
      have HB := fun w h => ulatomic (.slice ao ps.length cp) ps (ltU ps y) ⟨by omega, by omega⟩ w h
      rw [e6, e7] at HB
      rw [e3, e4, e5] at HD
      have yb := acB_iff.1 c
      have ky : (y == y) = true := by simp
      have ky' : (y + 1 == y + 1) = true := by simp
      have nb := (ltB_iff.1 b).1
      generalize ltU ps y = U at *
      cases j : ltI ps y
      · rw [u2 j] at HB
        rw [j] at HD
        clear e3 e4 e5 e6 e7 u0 u1 u2 u3 c b l j
        replace HD := Lib.hid HD
        replace HB := Lib.hid HB
        have AW := Lib.hid (fun w ht => awake_all w ht)
        replace ht := Lib.hid ht
        go_enter Tryd.func5, Tryd.ntmps5
        go_wp2_with fail
        refine (AW.out _ (ht.out.below (grow (here w) _))).mono ?_
        rintro e w1 ⟨rfl, hb⟩
        have A1 := Lib.hid (down (grow (here w) _) hb)
        have T1 := Lib.hid (One.new hb)
        have TL1 := Lib.hid ((TL0.out.keep (grow (here _) _)).keep hb)
        clear hb TL0
        obtain ⟨t1_0, t1_z⟩ := T1.out
        go_wp2_with fail
        refine (HL.out _ TL1.out).mono ?_
        rintro e w2 ⟨rfl, hb⟩
        have A2 := Lib.hid (down A1.out hb)
        have T2 := Lib.hid (T1.out.keep hb)
        have TL2 := Lib.hid (TL1.out.keep hb)
        clear hb A1 T1 TL1 t1_0 t1_z
        obtain ⟨t2_0, t2_z⟩ := T2.out
        go_wp2_with fail
        refine (HV.out _ TL2.out).mono ?_
        rintro e w3 ⟨rfl, hb⟩
        have A3 := Lib.hid (down A2.out hb)
        have T3 := Lib.hid (T2.out.keep hb)
        have TL3 := Lib.hid (TL2.out.keep hb)
        clear hb A2 T2 TL2 t2_0 t2_z
        obtain ⟨t3_0, t3_z⟩ := T3.out
        go_wp2_with fail
        refine (HA.out _ TL3.out).mono ?_
        rintro e w4 ⟨rfl, hb⟩
        have A4 := Lib.hid (down A3.out hb)
        have T4 := Lib.hid (T3.out.keep hb)
        have TL4 := Lib.hid (TL3.out.keep hb)
        clear hb A3 T3 TL3 t3_0 t3_z
        obtain ⟨t4_0, t4_z⟩ := T4.out
        go_wp2_with fail
        refine (HC.out _ TL4.out).mono ?_
        rintro e w5 ⟨rfl, hb⟩
        have A5 := Lib.hid (down A4.out hb)
        have T5 := Lib.hid (T4.out.keep hb)
        have TL5 := Lib.hid (TL4.out.keep hb)
        clear hb A4 T4 TL4 t4_0 t4_z
        obtain ⟨t5_0, t5_z⟩ := T5.out
        go_wp2_with fail
        refine (HD.out _ TL5.out).mono ?_
        rintro e w6 ⟨rfl, hb⟩
        have A6 := Lib.hid (down A5.out hb)
        have T6 := Lib.hid (T5.out.keep hb)
        have TL6 := Lib.hid (TL5.out.keep hb)
        clear hb A5 T5 TL5 t5_0 t5_z
        obtain ⟨t6_0, t6_z⟩ := T6.out
        go_wp2_with fail
        refine (HB.out _ TL6.out).mono ?_
        rintro e w7 ⟨rfl, hb⟩
        have A7 := Lib.hid (down A6.out hb)
        have T7 := Lib.hid (T6.out.keep hb)
        have TL7 := Lib.hid (TL6.out.keep hb)
        clear hb A6 T6 TL6 t6_0 t6_z
        obtain ⟨t7_0, t7_z⟩ := T7.out
        go_wp2
        go_ret
        exact ⟨rfl, by first | exact A7.out | exact grow A7.out _ | exact below_drewN A7.out _ | exact grow (grow A7.out _) _ | exact grow (grow (grow A7.out _) _) _⟩
      · rw [u1 j] at HB
        rw [j] at HD
        clear e3 e4 e5 e6 e7 u0 u1 u2 u3 c b l j
        replace HD := Lib.hid HD
        replace HB := Lib.hid HB
        have AW := Lib.hid (fun w ht => awake_all w ht)
        replace ht := Lib.hid ht
        go_enter Tryd.func5, Tryd.ntmps5
        go_wp2_with fail
        refine (AW.out _ (ht.out.below (grow (here w) _))).mono ?_
        rintro e w1 ⟨rfl, hb⟩
        have A1 := Lib.hid (down (grow (here w) _) hb)
        have T1 := Lib.hid (One.new hb)
        have TL1 := Lib.hid ((TL0.out.keep (grow (here _) _)).keep hb)
        clear hb TL0
        obtain ⟨t1_0, t1_z⟩ := T1.out
        go_wp2_with fail
        refine (HL.out _ TL1.out).mono ?_
        rintro e w2 ⟨rfl, hb⟩
        have A2 := Lib.hid (down A1.out hb)
        have T2 := Lib.hid (T1.out.keep hb)
        have TL2 := Lib.hid (TL1.out.keep hb)
        clear hb A1 T1 TL1 t1_0 t1_z
        obtain ⟨t2_0, t2_z⟩ := T2.out
        go_wp2_with fail
        refine (HV.out _ TL2.out).mono ?_
        rintro e w3 ⟨rfl, hb⟩
        have A3 := Lib.hid (down A2.out hb)
        have T3 := Lib.hid (T2.out.keep hb)
        have TL3 := Lib.hid (TL2.out.keep hb)
        clear hb A2 T2 TL2 t2_0 t2_z
        obtain ⟨t3_0, t3_z⟩ := T3.out
        go_wp2_with fail
        refine (HA.out _ TL3.out).mono ?_
        rintro e w4 ⟨rfl, hb⟩
        have A4 := Lib.hid (down A3.out hb)
        have T4 := Lib.hid (T3.out.keep hb)
        have TL4 := Lib.hid (TL3.out.keep hb)
        clear hb A3 T3 TL3 t3_0 t3_z
        obtain ⟨t4_0, t4_z⟩ := T4.out
        go_wp2_with fail
        refine (HC.out _ TL4.out).mono ?_
        rintro e w5 ⟨rfl, hb⟩
        have A5 := Lib.hid (down A4.out hb)
        have T5 := Lib.hid (T4.out.keep hb)
        have TL5 := Lib.hid (TL4.out.keep hb)
        clear hb A4 T4 TL4 t4_0 t4_z
        obtain ⟨t5_0, t5_z⟩ := T5.out
        go_wp2_with fail
        refine (HD.out _ TL5.out).mono ?_
        rintro e w6 ⟨rfl, hb⟩
        have A6 := Lib.hid (down A5.out hb)
        have T6 := Lib.hid (T5.out.keep hb)
        have TL6 := Lib.hid (TL5.out.keep hb)
        clear hb A5 T5 TL5 t5_0 t5_z
        obtain ⟨t6_0, t6_z⟩ := T6.out
        go_wp2_with fail
        refine (HB.out _ TL6.out).mono ?_
        rintro e w7 ⟨rfl, hb⟩
        have A7 := Lib.hid (down A6.out hb)
        have T7 := Lib.hid (T6.out.keep hb)
        have TL7 := Lib.hid (TL6.out.keep hb)
        clear hb A6 T6 TL6 t6_0 t6_z
        obtain ⟨t7_0, t7_z⟩ := T7.out
        go_wp2
        go_ret
        exact ⟨rfl, by first | exact A7.out | exact grow A7.out _ | exact below_drewN A7.out _ | exact grow (grow A7.out _) _ | exact grow (grow (grow A7.out _) _) _⟩
end LeapBack
end Go.Proofs.YtocimbiidloofaaDoor

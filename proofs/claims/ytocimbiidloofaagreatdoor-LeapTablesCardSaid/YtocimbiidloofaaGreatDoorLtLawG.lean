/- The walk of LeapTables: the Go text returns true, at every input. -/
import Derived.Test.YtocimbiidloofaaGreatDoorLtAwake

import Derived.Test.YtocimbiidloofaaGreatDoorLtX

import Derived.Test.YtocimbiidloofaaGreatDoorLtUT

import Derived.BigQuiet

import Derived.Deep.QuietTactic

import Derived.Deep.Cut

import Derived.Outline

namespace Go.Proofs.YtocimbiidloofaaGreatDoor

open Go.RowKit

set_option linter.unusedVariables false

namespace LeapTables
set_option maxRecDepth 100000 in
set_option maxHeartbeats 2000000 in
theorem walk (v : Value) (ps : List (Int × Int)) (w : World) (h : LT w v ps) (ht : Tabs w) :
    Calls Tryz.prog 3 #[.agg #[v]] w fun e w' => e = .returned (.bool true) ∧ Below w.heap.size w w' := by
  obtain ⟨ao, cp, rfl⟩ := h.shape
  have TL0 := Lib.hid h
  have HL := fun w h => rlong (.slice ao ps.length cp) ps w h
  have HV := fun w h => ulvalid (.slice ao ps.length cp) ps w h
  have RV := fun w h => rlvalid (.slice ao ps.length cp) ps w h
  clear h
  by_cases l : 300 < ps.length
  · rw [decide_eq_true l] at HL
    clear l
    replace HL := Lib.hid HL
    have AW := Lib.hid (fun w ht => awake_all w ht)
    replace ht := Lib.hid ht
    go_enter Tryz.func3, Tryz.ntmps3
    go_wp2_with fail
    refine (AW.out _ (ht.out.below (grow (here w) _))).mono ?_
    rintro e w1 ⟨rfl, hb⟩
    have A1 := Lib.hid (down (grow (here w) _) hb)
    have T1 := Lib.hid (One.new hb)
    have TL1 := Lib.hid ((TL0.out.keep (grow (here _) _)).keep hb)
    clear hb TL0
    obtain ⟨t1_0, t1_z⟩ := T1.out
    go_wp2_with fail
    refine (HL.out _ TL1.out).mono ?_
    rintro e w2 ⟨rfl, hb⟩
    have A2 := Lib.hid (down A1.out hb)
    have T2 := Lib.hid (T1.out.keep hb)
    have TL2 := Lib.hid (TL1.out.keep hb)
    clear hb A1 T1 TL1 t1_0 t1_z
    obtain ⟨t2_0, t2_z⟩ := T2.out
    go_wp2_with fail
    refine (AW.out _ (ht.out.below A2.out)).mono ?_
    rintro e w3 ⟨rfl, hb⟩
    have A3 := Lib.hid (down A2.out hb)
    have T3 := Lib.hid (T2.out.keep hb)
    have TL3 := Lib.hid (TL2.out.keep hb)
    clear hb A2 T2 TL2 t2_0 t2_z
    obtain ⟨t3_0, t3_z⟩ := T3.out
    go_wp2
    go_ret
    exact ⟨rfl, by first | exact A3.out | exact grow A3.out _ | exact below_drewN A3.out _ | exact grow (grow A3.out _) _ | exact grow (grow (grow A3.out _) _) _⟩
  rw [decide_eq_false l] at HL
  replace HL := Lib.hid HL
  have HT := fun w h ht => ultext (.slice ao ps.length cp) ps w h ht
  cases b : ltB ps
  · rw [b] at HT HV RV
    simp only [Bool.false_eq_true, if_false] at HT
    clear b l
    replace HT := Lib.hid HT
    replace HV := Lib.hid HV
    replace RV := Lib.hid RV
    have AW := Lib.hid (fun w ht => awake_all w ht)
    replace ht := Lib.hid ht
    go_enter Tryz.func3, Tryz.ntmps3
    go_wp2_with fail
    refine (AW.out _ (ht.out.below (grow (here w) _))).mono ?_
    rintro e w1 ⟨rfl, hb⟩
    have A1 := Lib.hid (down (grow (here w) _) hb)
    have T1 := Lib.hid (One.new hb)
    have TL1 := Lib.hid ((TL0.out.keep (grow (here _) _)).keep hb)
    clear hb TL0
    obtain ⟨t1_0, t1_z⟩ := T1.out
    go_wp2_with fail
    refine (HL.out _ TL1.out).mono ?_
    rintro e w2 ⟨rfl, hb⟩
    have A2 := Lib.hid (down A1.out hb)
    have T2 := Lib.hid (T1.out.keep hb)
    have TL2 := Lib.hid (TL1.out.keep hb)
    clear hb A1 T1 TL1 t1_0 t1_z
    obtain ⟨t2_0, t2_z⟩ := T2.out
    go_wp2_with fail
    refine (HT.out _ TL2.out (ht.out.below A2.out)).mono ?_
    rintro e w3 ⟨rfl, hb⟩
    have A3 := Lib.hid (down A2.out hb)
    have T3 := Lib.hid (T2.out.keep hb)
    have TL3 := Lib.hid (TL2.out.keep hb)
    clear hb A2 T2 TL2 t2_0 t2_z
    obtain ⟨t3_0, t3_z⟩ := T3.out
    go_wp2_with fail
    refine (RV.out _ TL3.out).mono ?_
    rintro e w4 ⟨rfl, hb⟩
    have A4 := Lib.hid (down A3.out hb)
    have T4 := Lib.hid (T3.out.keep hb)
    have TL4 := Lib.hid (TL3.out.keep hb)
    clear hb A3 T3 TL3 t3_0 t3_z
    obtain ⟨t4_0, t4_z⟩ := T4.out
    go_wp2_with fail
    refine (HV.out _ TL4.out).mono ?_
    rintro e w5 ⟨rfl, hb⟩
    have A5 := Lib.hid (down A4.out hb)
    have T5 := Lib.hid (T4.out.keep hb)
    have TL5 := Lib.hid (TL4.out.keep hb)
    clear hb A4 T4 TL4 t4_0 t4_z
    obtain ⟨t5_0, t5_z⟩ := T5.out
    go_wp2
    go_ret
    exact ⟨rfl, by first | exact A5.out | exact grow A5.out _ | exact below_drewN A5.out _ | exact grow (grow A5.out _) _ | exact grow (grow (grow A5.out _) _) _⟩
  · rw [b] at HT HV RV
    simp only [if_true] at HT
    have RT := fun w h => rltext (.slice ao ps.length cp) ps b w h
    have bk := ltX_back b
    have up := ltB_iff.1 b
    have ln := ltX_len up.2 ps.length (Nat.le_refl _)
    have HP := fun w ht => ulparse ⟨(ltX ps ps.length).toArray⟩ (by show (ltX ps ps.length).length ≤ maxLen; unfold maxLen; omega) w ht
    rw [show lpE (⟨(ltX ps ps.length).toArray⟩ : ByteArray).data.toList = 0 from bk.1, show lpL (⟨(ltX ps ps.length).toArray⟩ : ByteArray).data.toList = ps from bk.2] at HP
    have HQ := Lib.hid (fun v1 v2 p1 p2 w (h1 : PairS p1 w v1 ps) (h2 : PairS p2 w v2 ps) => eq_steps ps ps v1 v2 (by omega) w h1 h2)
    have kp : (ps == ps) = true := by simp
    rw [kp] at HQ
    clear b l bk up ln kp
    generalize ltX ps ps.length = X at *
    replace HT := Lib.hid HT
    replace HV := Lib.hid HV
    replace RV := Lib.hid RV
    replace RT := Lib.hid RT
    replace HP := Lib.hid HP
    have AW := Lib.hid (fun w ht => awake_all w ht)
    replace ht := Lib.hid ht
    go_enter Tryz.func3, Tryz.ntmps3
    go_wp2_with fail
    refine (AW.out _ (ht.out.below (grow (here w) _))).mono ?_
    rintro e w1 ⟨rfl, hb⟩
    have A1 := Lib.hid (down (grow (here w) _) hb)
    have T1 := Lib.hid (One.new hb)
    have TL1 := Lib.hid ((TL0.out.keep (grow (here _) _)).keep hb)
    clear hb TL0
    obtain ⟨t1_0, t1_z⟩ := T1.out
    go_wp2_with fail
    refine (HL.out _ TL1.out).mono ?_
    rintro e w2 ⟨rfl, hb⟩
    have A2 := Lib.hid (down A1.out hb)
    have T2 := Lib.hid (T1.out.keep hb)
    have TL2 := Lib.hid (TL1.out.keep hb)
    clear hb A1 T1 TL1 t1_0 t1_z
    obtain ⟨t2_0, t2_z⟩ := T2.out
    go_wp2_with fail
    refine (HT.out _ TL2.out (ht.out.below A2.out)).mono ?_
    rintro e w3 ⟨rfl, hb⟩
    have A3 := Lib.hid (down A2.out hb)
    have T3 := Lib.hid (T2.out.keep hb)
    have TL3 := Lib.hid (TL2.out.keep hb)
    clear hb A2 T2 TL2 t2_0 t2_z
    obtain ⟨t3_0, t3_z⟩ := T3.out
    go_wp2_with fail
    refine (RV.out _ TL3.out).mono ?_
    rintro e w4 ⟨rfl, hb⟩
    have A4 := Lib.hid (down A3.out hb)
    have T4 := Lib.hid (T3.out.keep hb)
    have TL4 := Lib.hid (TL3.out.keep hb)
    clear hb A3 T3 TL3 t3_0 t3_z
    obtain ⟨t4_0, t4_z⟩ := T4.out
    go_wp2_with fail
    refine (HP.out _ (ht.out.below A4.out)).mono ?_
    rintro e w5 ⟨⟨v1, rfl, P1⟩, hb⟩
    obtain ⟨ao1, cp1, rfl⟩ := Sl.shape P1
    have A5 := Lib.hid (down A4.out hb)
    have T5 := Lib.hid (T4.out.keep hb)
    have TL5 := Lib.hid (TL4.out.keep hb)
    clear hb A4 T4 TL4 t4_0 t4_z
    obtain ⟨t5_0, t5_z⟩ := T5.out
    have P15 := Lib.hid P1
    clear P1
    go_wp2_with fail
    refine (HV.out _ (TL5.out.keep (grow (here _) _))).mono ?_
    rintro e w6 ⟨rfl, hb⟩
    have A6 := Lib.hid (down (grow A5.out _) hb)
    have T6 := Lib.hid ((T5.out.old _).keep hb)
    have U6 := Lib.hid (One.new hb)
    have TL6 := Lib.hid ((TL5.out.keep (grow (here _) _)).keep hb)
    have P16 := Lib.hid ((P15.out.keep (grow (here _) _)).keep hb)
    clear hb A5 T5 TL5 P15 t5_0 t5_z
    obtain ⟨t6_0, t6_z⟩ := T6.out
    obtain ⟨u6_0, u6_z⟩ := U6.out
    go_wp2_with fail
    refine (RT.out _ TL6.out).mono ?_
    rintro e w7 ⟨rfl, hb⟩
    have A7 := Lib.hid (down A6.out hb)
    have T7 := Lib.hid (T6.out.keep hb)
    have U7 := Lib.hid (U6.out.keep hb)
    have TL7 := Lib.hid (TL6.out.keep hb)
    have P17 := Lib.hid (P16.out.keep hb)
    clear hb A6 T6 U6 TL6 P16 t6_0 t6_z u6_0 u6_z
    obtain ⟨t7_0, t7_z⟩ := T7.out
    obtain ⟨u7_0, u7_z⟩ := U7.out
    go_wp2_with fail
    refine (HQ.out _ _ _ _ _ P17.out TL7.out.sl).mono ?_
    rintro e y1 ⟨rfl, dn, rfl⟩
    go_wp2
    go_ret
    exact ⟨rfl, below_drewN A7.out _⟩
end LeapTables

end Go.Proofs.YtocimbiidloofaaGreatDoor

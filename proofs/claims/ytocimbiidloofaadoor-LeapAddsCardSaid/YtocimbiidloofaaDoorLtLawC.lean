/- The walk of LeapAdds: the Go text returns true, at every input. -/
import Derived.Test.YtocimbiidloofaaDoorLtLawA
import Derived.BigQuiet
import Derived.Deep.QuietTactic
import Derived.Deep.Cut
import Derived.Outline
namespace Go.Proofs.YtocimbiidloofaaDoor
open Go.RowKit
set_option linter.unusedVariables false

namespace LeapAdds
set_option maxRecDepth 100000 in
set_option maxHeartbeats 2000000 in
theorem walk (v : Value) (ps : List (Int × Int)) (x n : Int) (hx : (Lit.int .i64 x).wf = true) (hn : (Lit.int .i64 n).wf = true) (w : World) (h : LT w v ps) (ht : Tabs w) :
    Calls Tryd.prog 8 #[.agg #[v], .int .i64 x, .int .i64 n] w fun e w' => e = .returned (.bool true) ∧ Below w.heap.size w w' := by
  replace hx := i64_wf hx
  replace hn := i64_wf hn
  obtain ⟨ao, cp, rfl⟩ := h.shape
  have TL0 := Lib.hid h
  have HL := fun w h => rlong (.slice ao ps.length cp) ps w h
  have HV := fun w h => ulvalid (.slice ao ps.length cp) ps w h
  have RV := fun w h => rlvalid (.slice ao ps.length cp) ps w h
  clear h
  by_cases l : 300 < ps.length
  · rw [decide_eq_true l] at HL
    clear l
    replace HL := Lib.hid HL
    have AW := Lib.hid (fun w ht => awake_all w ht)
    replace ht := Lib.hid ht
    go_enter Tryd.func8, Tryd.ntmps8
    go_wp2_with fail
    refine (AW.out _ (ht.out.below (grow (here w) _))).mono ?_
    rintro e w1 ⟨rfl, hb⟩
    have A1 := Lib.hid (down (grow (here w) _) hb)
    have T1 := Lib.hid (One.new hb)
    have TL1 := Lib.hid ((TL0.out.keep (grow (here _) _)).keep hb)
    clear hb TL0
    obtain ⟨t1_0, t1_z⟩ := T1.out
    go_wp2_with fail
    refine (HL.out _ TL1.out).mono ?_
    rintro e w2 ⟨rfl, hb⟩
    have A2 := Lib.hid (down A1.out hb)
    have T2 := Lib.hid (T1.out.keep hb)
    have TL2 := Lib.hid (TL1.out.keep hb)
    clear hb A1 T1 TL1 t1_0 t1_z
    obtain ⟨t2_0, t2_z⟩ := T2.out
    go_wp2_with fail
    refine (AW.out _ (ht.out.below A2.out)).mono ?_
    rintro e w3 ⟨rfl, hb⟩
    have A3 := Lib.hid (down A2.out hb)
    have T3 := Lib.hid (T2.out.keep hb)
    have TL3 := Lib.hid (TL2.out.keep hb)
    clear hb A2 T2 TL2 t2_0 t2_z
    obtain ⟨t3_0, t3_z⟩ := T3.out
    go_wp2
    go_ret
    exact ⟨rfl, by first | exact A3.out | exact grow A3.out _ | exact below_drewN A3.out _ | exact grow (grow A3.out _) _ | exact grow (grow (grow A3.out _) _) _⟩
  rw [decide_eq_false l] at HL
  replace HL := Lib.hid HL
  have HU := fun w h => uladd (.slice ao ps.length cp) ps x n hx hn w h
  have RI := fun w => rlins x hx w
  obtain ⟨n0, n1⟩ := hn
  cases b : ltB ps
  · obtain ⟨e1, e2⟩ := lu_no b x n
    rw [e1, e2] at HU
    rw [b] at RV
    clear e1 e2 b l HV RI
    replace HU := Lib.hid HU
    replace RV := Lib.hid RV
    have AW := Lib.hid (fun w ht => awake_all w ht)
    replace ht := Lib.hid ht
    go_enter Tryd.func8, Tryd.ntmps8
    go_wp2_with fail
    refine (AW.out _ (ht.out.below (grow (here w) _))).mono ?_
    rintro e w1 ⟨rfl, hb⟩
    have A1 := Lib.hid (down (grow (here w) _) hb)
    have T1 := Lib.hid (One.new hb)
    have TL1 := Lib.hid ((TL0.out.keep (grow (here _) _)).keep hb)
    clear hb TL0
    obtain ⟨t1_0, t1_z⟩ := T1.out
    go_wp2_with fail
    refine (HL.out _ TL1.out).mono ?_
    rintro e w2 ⟨rfl, hb⟩
    have A2 := Lib.hid (down A1.out hb)
    have T2 := Lib.hid (T1.out.keep hb)
    have TL2 := Lib.hid (TL1.out.keep hb)
    clear hb A1 T1 TL1 t1_0 t1_z
    obtain ⟨t2_0, t2_z⟩ := T2.out
    go_wp2_with fail
    refine (HU.out _ TL2.out).mono ?_
    rintro e w3 ⟨rfl, hb⟩
    have A3 := Lib.hid (down A2.out hb)
    have T3 := Lib.hid (T2.out.keep hb)
    have TL3 := Lib.hid (TL2.out.keep hb)
    clear hb A2 T2 TL2 t2_0 t2_z
    obtain ⟨t3_0, t3_z⟩ := T3.out
    go_wp2_with fail
    refine (RV.out _ TL3.out).mono ?_
    rintro e w4 ⟨rfl, hb⟩
    have A4 := Lib.hid (down A3.out hb)
    have T4 := Lib.hid (T3.out.keep hb)
    have TL4 := Lib.hid (TL3.out.keep hb)
    clear hb A3 T3 TL3 t3_0 t3_z
    obtain ⟨t4_0, t4_z⟩ := T4.out
    go_wp2
    go_ret
    exact ⟨rfl, by first | exact A4.out | exact grow A4.out _ | exact below_drewN A4.out _ | exact grow (grow A4.out _) _ | exact grow (grow (grow A4.out _) _) _⟩
  rw [b] at RV
  cases i : inB x
  · obtain ⟨e1, e2⟩ := lu_out (t := x) (n := n) b (by rw [i]; rfl)
    rw [e1, e2] at HU
    rw [i] at RI
    clear e1 e2 b l i HV
    replace HU := Lib.hid HU
    replace RV := Lib.hid RV
    replace RI := Lib.hid RI
    have AW := Lib.hid (fun w ht => awake_all w ht)
    replace ht := Lib.hid ht
    go_enter Tryd.func8, Tryd.ntmps8
    go_wp2_with fail
    refine (AW.out _ (ht.out.below (grow (here w) _))).mono ?_
    rintro e w1 ⟨rfl, hb⟩
    have A1 := Lib.hid (down (grow (here w) _) hb)
    have T1 := Lib.hid (One.new hb)
    have TL1 := Lib.hid ((TL0.out.keep (grow (here _) _)).keep hb)
    clear hb TL0
    obtain ⟨t1_0, t1_z⟩ := T1.out
    go_wp2_with fail
    refine (HL.out _ TL1.out).mono ?_
    rintro e w2 ⟨rfl, hb⟩
    have A2 := Lib.hid (down A1.out hb)
    have T2 := Lib.hid (T1.out.keep hb)
    have TL2 := Lib.hid (TL1.out.keep hb)
    clear hb A1 T1 TL1 t1_0 t1_z
    obtain ⟨t2_0, t2_z⟩ := T2.out
    go_wp2_with fail
    refine (HU.out _ TL2.out).mono ?_
    rintro e w3 ⟨rfl, hb⟩
    have A3 := Lib.hid (down A2.out hb)
    have T3 := Lib.hid (T2.out.keep hb)
    have TL3 := Lib.hid (TL2.out.keep hb)
    clear hb A2 T2 TL2 t2_0 t2_z
    obtain ⟨t3_0, t3_z⟩ := T3.out
    go_wp2_with fail
    refine (RV.out _ TL3.out).mono ?_
    rintro e w4 ⟨rfl, hb⟩
    have A4 := Lib.hid (down A3.out hb)
    have T4 := Lib.hid (T3.out.keep hb)
    have TL4 := Lib.hid (TL3.out.keep hb)
    clear hb A3 T3 TL3 t3_0 t3_z
    obtain ⟨t4_0, t4_z⟩ := T4.out
    go_wp2_with fail
    refine (RI.out _).mono ?_
    rintro e x1 ⟨rfl, rfl⟩
    go_wp2
    go_ret
    exact ⟨rfl, by first | exact A4.out | exact grow A4.out _ | exact below_drewN A4.out _ | exact grow (grow A4.out _) _ | exact grow (grow (grow A4.out _) _) _⟩
  rw [i] at RI
  have wb := (ltW_bd b i).2
  have nl := (ltB_iff.1 b).1
  by_cases g : 1152921504606846976 < n ∨ n < -1152921504606846976
  · have c : acB ps (ltW ps x + n) = false := by
      rw [← Bool.not_eq_true, acB_iff]; omega
    obtain ⟨e1, e2⟩ := lu_out (t := x) (n := n) b (by rw [i, c]; rfl)
    rw [e1, e2] at HU
    clear e1 e2 b l i HV c wb nl
    replace HU := Lib.hid HU
    replace RV := Lib.hid RV
    replace RI := Lib.hid RI
    rcases g with g | g
    · have k1 : decide (1152921504606846976 < n) = true := decide_eq_true g
      clear g
      have AW := Lib.hid (fun w ht => awake_all w ht)
      replace ht := Lib.hid ht
      go_enter Tryd.func8, Tryd.ntmps8
      go_wp2_with fail
      refine (AW.out _ (ht.out.below (grow (here w) _))).mono ?_
      rintro e w1 ⟨rfl, hb⟩
      have A1 := Lib.hid (down (grow (here w) _) hb)
      have T1 := Lib.hid (One.new hb)
      have TL1 := Lib.hid ((TL0.out.keep (grow (here _) _)).keep hb)
      clear hb TL0
      obtain ⟨t1_0, t1_z⟩ := T1.out
      go_wp2_with fail
      refine (HL.out _ TL1.out).mono ?_
      rintro e w2 ⟨rfl, hb⟩
      have A2 := Lib.hid (down A1.out hb)
      have T2 := Lib.hid (T1.out.keep hb)
      have TL2 := Lib.hid (TL1.out.keep hb)
      clear hb A1 T1 TL1 t1_0 t1_z
      obtain ⟨t2_0, t2_z⟩ := T2.out
      go_wp2_with fail
      refine (HU.out _ TL2.out).mono ?_
      rintro e w3 ⟨rfl, hb⟩
      have A3 := Lib.hid (down A2.out hb)
      have T3 := Lib.hid (T2.out.keep hb)
      have TL3 := Lib.hid (TL2.out.keep hb)
      clear hb A2 T2 TL2 t2_0 t2_z
      obtain ⟨t3_0, t3_z⟩ := T3.out
      go_wp2_with fail
      refine (RV.out _ TL3.out).mono ?_
      rintro e w4 ⟨rfl, hb⟩
      have A4 := Lib.hid (down A3.out hb)
      have T4 := Lib.hid (T3.out.keep hb)
      have TL4 := Lib.hid (TL3.out.keep hb)
      clear hb A3 T3 TL3 t3_0 t3_z
      obtain ⟨t4_0, t4_z⟩ := T4.out
      go_wp2_with fail
      refine (RI.out _).mono ?_
      rintro e x1 ⟨rfl, rfl⟩
      go_wp2
      go_ret
      exact ⟨rfl, by first | exact A4.out | exact grow A4.out _ | exact below_drewN A4.out _ | exact grow (grow A4.out _) _ | exact grow (grow (grow A4.out _) _) _⟩
    · have k1 : decide (1152921504606846976 < n) = false := decide_eq_false (by omega)
      have k2 : decide (n < -1152921504606846976) = true := decide_eq_true g
      clear g
      have AW := Lib.hid (fun w ht => awake_all w ht)
      replace ht := Lib.hid ht
      go_enter Tryd.func8, Tryd.ntmps8
      go_wp2_with fail
      refine (AW.out _ (ht.out.below (grow (here w) _))).mono ?_
      rintro e w1 ⟨rfl, hb⟩
      have A1 := Lib.hid (down (grow (here w) _) hb)
      have T1 := Lib.hid (One.new hb)
      have TL1 := Lib.hid ((TL0.out.keep (grow (here _) _)).keep hb)
      clear hb TL0
      obtain ⟨t1_0, t1_z⟩ := T1.out
      go_wp2_with fail
      refine (HL.out _ TL1.out).mono ?_
      rintro e w2 ⟨rfl, hb⟩
      have A2 := Lib.hid (down A1.out hb)
      have T2 := Lib.hid (T1.out.keep hb)
      have TL2 := Lib.hid (TL1.out.keep hb)
      clear hb A1 T1 TL1 t1_0 t1_z
      obtain ⟨t2_0, t2_z⟩ := T2.out
      go_wp2_with fail
      refine (HU.out _ TL2.out).mono ?_
      rintro e w3 ⟨rfl, hb⟩
      have A3 := Lib.hid (down A2.out hb)
      have T3 := Lib.hid (T2.out.keep hb)
      have TL3 := Lib.hid (TL2.out.keep hb)
      clear hb A2 T2 TL2 t2_0 t2_z
      obtain ⟨t3_0, t3_z⟩ := T3.out
      go_wp2_with fail
      refine (RV.out _ TL3.out).mono ?_
      rintro e w4 ⟨rfl, hb⟩
      have A4 := Lib.hid (down A3.out hb)
      have T4 := Lib.hid (T3.out.keep hb)
      have TL4 := Lib.hid (TL3.out.keep hb)
      clear hb A3 T3 TL3 t3_0 t3_z
      obtain ⟨t4_0, t4_z⟩ := T4.out
      go_wp2_with fail
      refine (RI.out _).mono ?_
      rintro e x1 ⟨rfl, rfl⟩
      go_wp2
      go_ret
      exact ⟨rfl, by first | exact A4.out | exact grow A4.out _ | exact below_drewN A4.out _ | exact grow (grow A4.out _) _ | exact grow (grow (grow A4.out _) _) _⟩
  have g1 : decide (1152921504606846976 < n) = false := decide_eq_false (by omega)
  have g2 : decide (n < -1152921504606846976) = false := decide_eq_false (by omega)
  have RA := fun w h => rlat (.slice ao ps.length cp) ps x i (by omega) w h
  have RC := fun w h => rlciv (.slice ao ps.length cp) ps (ltW ps x + n) ⟨by omega, by omega⟩ b w h
  cases c : acB ps (ltW ps x + n)
  · obtain ⟨e1, e2⟩ := lu_out (t := x) (n := n) b (by rw [c, Bool.and_false])
    obtain ⟨e3, e4, e5⟩ := lc_out b c
    rw [e1, e2] at HU
    rw [e3, e4, e5] at RC
    clear e1 e2 e3 e4 e5 b l i HV c
    generalize ltW ps x = X at *
    replace HU := Lib.hid HU
    replace RV := Lib.hid RV
    replace RI := Lib.hid RI
    replace RA := Lib.hid RA
    replace RC := Lib.hid RC
    have AW := Lib.hid (fun w ht => awake_all w ht)
    replace ht := Lib.hid ht
    go_enter Tryd.func8, Tryd.ntmps8
    go_wp2_with fail
    refine (AW.out _ (ht.out.below (grow (here w) _))).mono ?_
    rintro e w1 ⟨rfl, hb⟩
    have A1 := Lib.hid (down (grow (here w) _) hb)
    have T1 := Lib.hid (One.new hb)
    have TL1 := Lib.hid ((TL0.out.keep (grow (here _) _)).keep hb)
    clear hb TL0
    obtain ⟨t1_0, t1_z⟩ := T1.out
    go_wp2_with fail
    refine (HL.out _ TL1.out).mono ?_
    rintro e w2 ⟨rfl, hb⟩
    have A2 := Lib.hid (down A1.out hb)
    have T2 := Lib.hid (T1.out.keep hb)
    have TL2 := Lib.hid (TL1.out.keep hb)
    clear hb A1 T1 TL1 t1_0 t1_z
    obtain ⟨t2_0, t2_z⟩ := T2.out
    go_wp2_with fail
    refine (HU.out _ TL2.out).mono ?_
    rintro e w3 ⟨rfl, hb⟩
    have A3 := Lib.hid (down A2.out hb)
    have T3 := Lib.hid (T2.out.keep hb)
    have TL3 := Lib.hid (TL2.out.keep hb)
    clear hb A2 T2 TL2 t2_0 t2_z
    obtain ⟨t3_0, t3_z⟩ := T3.out
    go_wp2_with fail
    refine (RV.out _ TL3.out).mono ?_
    rintro e w4 ⟨rfl, hb⟩
    have A4 := Lib.hid (down A3.out hb)
    have T4 := Lib.hid (T3.out.keep hb)
    have TL4 := Lib.hid (TL3.out.keep hb)
    clear hb A3 T3 TL3 t3_0 t3_z
    obtain ⟨t4_0, t4_z⟩ := T4.out
    go_wp2_with fail
    refine (RI.out _).mono ?_
    rintro e x1 ⟨rfl, rfl⟩
    go_wp2
    have kt0 : ∀ x : Kept w4, x.wd.cell? ⟨w.heap.size, 0, none⟩ = some (.slice ao ps.length cp) := fun x => (T4.out.keep x.ok).c
    refine wp_region_kept (by kernel_rfl) (by kernel_rfl) ?_
    repeat (go_big_quiet_step (first
      | (go_at_call 20; exact kept_call _ (RA.out _ (TL4.out.keep (Kept.ok _))))
      | (go_at_call 18; exact kept_call _ (RC.out _ (TL4.out.keep (Kept.ok _))))))
    refine wpQuiet_nil ?_
    intro w5 hx
    obtain ⟨⟨xx, hb⟩, hw⟩ := hx
    replace hw : w5 = xx := hw
    subst xx
    clear kt0
    have A5 := Lib.hid (down A4.out hb)
    have T5 := Lib.hid (T4.out.keep hb)
    have TL5 := Lib.hid (TL4.out.keep hb)
    clear hb A4 T4 TL4 t4_0 t4_z
    obtain ⟨t5_0, t5_z⟩ := T5.out
    go_wp2
    go_ret
    exact ⟨rfl, by first | exact A5.out | exact grow A5.out _ | exact below_drewN A5.out _ | exact grow (grow A5.out _) _ | exact grow (grow (grow A5.out _) _) _⟩
  obtain ⟨e3, e4, e5⟩ := lc_in b c
  rw [e3, e4, e5] at RC
  clear e3 e4 e5
  cases j : ltI ps (ltW ps x + n)
  · obtain ⟨e1, e2⟩ := lu_yes b i c j
    obtain ⟨u0, -, u2⟩ := lt_back b c
    have HD := fun w h => uldist (.slice ao ps.length cp) ps x (ltU ps (ltW ps x + n)) hx (by have := inB_iff.1 u0; exact ⟨by omega, by omega⟩) w h
    obtain ⟨e6, e7⟩ := ld_in b i u0
    rw [e6, e7, u2 j, show ltW ps x + n - ltW ps x = n by omega] at HD
    rw [e1, e2] at HU
    rw [j] at RC
    have kn : (n == n) = true := by simp
    have ku : (ltU ps (ltW ps x + n) == ltU ps (ltW ps x + n)) = true := by simp
    clear e1 e2 e6 e7 u0 u2 b l i HV c j
    generalize ltU ps (ltW ps x + n) = U at *
    generalize ltW ps x = X at *
    replace HU := Lib.hid HU
    replace RV := Lib.hid RV
    replace RI := Lib.hid RI
    replace RA := Lib.hid RA
    replace RC := Lib.hid RC
    replace HD := Lib.hid HD
    have AW := Lib.hid (fun w ht => awake_all w ht)
    replace ht := Lib.hid ht
    go_enter Tryd.func8, Tryd.ntmps8
    go_wp2_with fail
    refine (AW.out _ (ht.out.below (grow (here w) _))).mono ?_
    rintro e w1 ⟨rfl, hb⟩
    have A1 := Lib.hid (down (grow (here w) _) hb)
    have T1 := Lib.hid (One.new hb)
    have TL1 := Lib.hid ((TL0.out.keep (grow (here _) _)).keep hb)
    clear hb TL0
    obtain ⟨t1_0, t1_z⟩ := T1.out
    go_wp2_with fail
    refine (HL.out _ TL1.out).mono ?_
    rintro e w2 ⟨rfl, hb⟩
    have A2 := Lib.hid (down A1.out hb)
    have T2 := Lib.hid (T1.out.keep hb)
    have TL2 := Lib.hid (TL1.out.keep hb)
    clear hb A1 T1 TL1 t1_0 t1_z
    obtain ⟨t2_0, t2_z⟩ := T2.out
    go_wp2_with fail
    refine (HU.out _ TL2.out).mono ?_
    rintro e w3 ⟨rfl, hb⟩
    have A3 := Lib.hid (down A2.out hb)
    have T3 := Lib.hid (T2.out.keep hb)
    have TL3 := Lib.hid (TL2.out.keep hb)
    clear hb A2 T2 TL2 t2_0 t2_z
    obtain ⟨t3_0, t3_z⟩ := T3.out
    go_wp2_with fail
    refine (RV.out _ TL3.out).mono ?_
    rintro e w4 ⟨rfl, hb⟩
    have A4 := Lib.hid (down A3.out hb)
    have T4 := Lib.hid (T3.out.keep hb)
    have TL4 := Lib.hid (TL3.out.keep hb)
    clear hb A3 T3 TL3 t3_0 t3_z
    obtain ⟨t4_0, t4_z⟩ := T4.out
    go_wp2_with fail
    refine (RI.out _).mono ?_
    rintro e x1 ⟨rfl, rfl⟩
    go_wp2
    have kt0 : ∀ x : Kept w4, x.wd.cell? ⟨w.heap.size, 0, none⟩ = some (.slice ao ps.length cp) := fun x => (T4.out.keep x.ok).c
    refine wp_region_kept (by kernel_rfl) (by kernel_rfl) ?_
    repeat (go_big_quiet_step (first
      | (go_at_call 20; exact kept_call _ (RA.out _ (TL4.out.keep (Kept.ok _))))
      | (go_at_call 18; exact kept_call _ (RC.out _ (TL4.out.keep (Kept.ok _))))))
    refine wpQuiet_nil ?_
    intro w5 hx
    obtain ⟨⟨xx, hb⟩, hw⟩ := hx
    replace hw : w5 = xx := hw
    subst xx
    clear kt0
    have A5 := Lib.hid (down A4.out hb)
    have T5 := Lib.hid (T4.out.keep hb)
    have TL5 := Lib.hid (TL4.out.keep hb)
    clear hb A4 T4 TL4 t4_0 t4_z
    obtain ⟨t5_0, t5_z⟩ := T5.out
    go_wp2_with fail
    refine (HD.out _ TL5.out).mono ?_
    rintro e w6 ⟨rfl, hb⟩
    have A6 := Lib.hid (down A5.out hb)
    have T6 := Lib.hid (T5.out.keep hb)
    have TL6 := Lib.hid (TL5.out.keep hb)
    clear hb A5 T5 TL5 t5_0 t5_z
    obtain ⟨t6_0, t6_z⟩ := T6.out
    go_wp2
    go_ret
    exact ⟨rfl, by first | exact A6.out | exact grow A6.out _ | exact below_drewN A6.out _ | exact grow (grow A6.out _) _ | exact grow (grow (grow A6.out _) _) _⟩
  · obtain ⟨e1, e2⟩ := lu_gap b i c j
    rw [e1, e2] at HU
    rw [j] at RC
    clear e1 e2 b l i HV c j
    generalize ltU ps (ltW ps x + n) = U at *
    generalize ltW ps x = X at *
    replace HU := Lib.hid HU
    replace RV := Lib.hid RV
    replace RI := Lib.hid RI
    replace RA := Lib.hid RA
    replace RC := Lib.hid RC
    have AW := Lib.hid (fun w ht => awake_all w ht)
    replace ht := Lib.hid ht
    go_enter Tryd.func8, Tryd.ntmps8
    go_wp2_with fail
    refine (AW.out _ (ht.out.below (grow (here w) _))).mono ?_
    rintro e w1 ⟨rfl, hb⟩
    have A1 := Lib.hid (down (grow (here w) _) hb)
    have T1 := Lib.hid (One.new hb)
    have TL1 := Lib.hid ((TL0.out.keep (grow (here _) _)).keep hb)
    clear hb TL0
    obtain ⟨t1_0, t1_z⟩ := T1.out
    go_wp2_with fail
    refine (HL.out _ TL1.out).mono ?_
    rintro e w2 ⟨rfl, hb⟩
    have A2 := Lib.hid (down A1.out hb)
    have T2 := Lib.hid (T1.out.keep hb)
    have TL2 := Lib.hid (TL1.out.keep hb)
    clear hb A1 T1 TL1 t1_0 t1_z
    obtain ⟨t2_0, t2_z⟩ := T2.out
    go_wp2_with fail
    refine (HU.out _ TL2.out).mono ?_
    rintro e w3 ⟨rfl, hb⟩
    have A3 := Lib.hid (down A2.out hb)
    have T3 := Lib.hid (T2.out.keep hb)
    have TL3 := Lib.hid (TL2.out.keep hb)
    clear hb A2 T2 TL2 t2_0 t2_z
    obtain ⟨t3_0, t3_z⟩ := T3.out
    go_wp2_with fail
    refine (RV.out _ TL3.out).mono ?_
    rintro e w4 ⟨rfl, hb⟩
    have A4 := Lib.hid (down A3.out hb)
    have T4 := Lib.hid (T3.out.keep hb)
    have TL4 := Lib.hid (TL3.out.keep hb)
    clear hb A3 T3 TL3 t3_0 t3_z
    obtain ⟨t4_0, t4_z⟩ := T4.out
    go_wp2_with fail
    refine (RI.out _).mono ?_
    rintro e x1 ⟨rfl, rfl⟩
    go_wp2
    have kt0 : ∀ x : Kept w4, x.wd.cell? ⟨w.heap.size, 0, none⟩ = some (.slice ao ps.length cp) := fun x => (T4.out.keep x.ok).c
    refine wp_region_kept (by kernel_rfl) (by kernel_rfl) ?_
    repeat (go_big_quiet_step (first
      | (go_at_call 20; exact kept_call _ (RA.out _ (TL4.out.keep (Kept.ok _))))
      | (go_at_call 18; exact kept_call _ (RC.out _ (TL4.out.keep (Kept.ok _))))))
    refine wpQuiet_nil ?_
    intro w5 hx
    obtain ⟨⟨xx, hb⟩, hw⟩ := hx
    replace hw : w5 = xx := hw
    subst xx
    clear kt0
    have A5 := Lib.hid (down A4.out hb)
    have T5 := Lib.hid (T4.out.keep hb)
    have TL5 := Lib.hid (TL4.out.keep hb)
    clear hb A4 T4 TL4 t4_0 t4_z
    obtain ⟨t5_0, t5_z⟩ := T5.out
    go_wp2
    go_ret
    exact ⟨rfl, by first | exact A5.out | exact grow A5.out _ | exact below_drewN A5.out _ | exact grow (grow A5.out _) _ | exact grow (grow (grow A5.out _) _) _⟩
end LeapAdds
end Go.Proofs.YtocimbiidloofaaDoor

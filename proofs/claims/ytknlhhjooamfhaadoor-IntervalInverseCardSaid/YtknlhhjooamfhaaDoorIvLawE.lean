/- The walk of IntervalInverse. -/
import Derived.Test.YtknlhhjooamfhaaDoorIvAwake
import Derived.BigQuiet
import Derived.Deep.QuietTactic
import Derived.Deep.RegionHeld3
import Derived.Deep.Cut
import Derived.Outline
namespace Go.Proofs.YtknlhhjooamfhaaDoor
open Go.RowKit
set_option linter.unusedVariables false

set_option maxRecDepth 100000 in
set_option maxHeartbeats 4000000 in
theorem IntervalInverse.walk (a b c d : Int) (ha : (Lit.int .i64 a).wf = true) (hb : (Lit.int .i64 b).wf = true) (hc : (Lit.int .i64 c).wf = true) (hd : (Lit.int .i64 d).wf = true) (w : World) (ht : Tabs w) :
    Calls Tryd.prog 7 #[.agg #[.int .i64 a, .int .i64 b], .agg #[.int .i64 c, .int .i64 d]] w fun e w' => e = .returned (.bool true) ∧ Below w.heap.size w w' := by
  replace ha := i64_wf ha
  replace hb := i64_wf hb
  replace hc := i64_wf hc
  replace hd := i64_wf hd
  have HA := fun w ht => uvvalid a b ha hb w ht
  have HB := fun w ht => uvvalid c d hc hd w ht
  have H0 := fun w ht => uvof a b c d ha hb hc hd w ht
  have H1 := fun w ht => uvof c d a b hc hd ha hb w ht
  have AW := Lib.hid (fun w ht => awake_all w ht)
  replace ht := Lib.hid ht
  have HM := fun w ht => uvinv (-1) ⟨by decide, by decide⟩ w ht
  rw [show invV (-1) = -1 by decide] at HM
  cases va : ivB a b
  · rw [ofV_out (by rw [va]; rfl)] at H0
    rw [ofV_out (by rw [va, Bool.and_false])] at H1
    rw [va] at HA
    have HI := HM
    clear HB HM va ha hb hc hd
    replace HA := Lib.hid HA
    replace H0 := Lib.hid H0
    replace H1 := Lib.hid H1
    replace HI := Lib.hid HI
    go_enter Tryd.func7, Tryd.ntmps7
    go_wp2_with fail
    refine (AW.out _ (ht.out.below (grow (grow (here w) _) _))).mono ?_
    rintro e w1 ⟨rfl, hb⟩
    have A1 := Lib.hid (down (grow (grow (here w) _) _) hb)
    have X1 := Lib.hid (Two.fst hb)
    have Y1 := Lib.hid (Two.snd hb)
    clear hb
    obtain ⟨x1_0, x1_1, x1_z⟩ := X1.out
    obtain ⟨y1_0, y1_1, y1_z⟩ := Y1.out
    go_wp2_with fail
    refine (H0.out _ (ht.out.below A1.out)).mono ?_
    rintro e w2 ⟨rfl, hb⟩
    have A2 := Lib.hid (down A1.out hb)
    have X2 := Lib.hid (X1.out.keep hb)
    have Y2 := Lib.hid (Y1.out.keep hb)
    clear hb A1 X1 Y1 x1_0 x1_1 x1_z y1_0 y1_1 y1_z
    obtain ⟨x2_0, x2_1, x2_z⟩ := X2.out
    obtain ⟨y2_0, y2_1, y2_z⟩ := Y2.out
    go_wp2_with fail
    refine (HA.out _ (ht.out.below A2.out)).mono ?_
    rintro e w3 ⟨rfl, hb⟩
    have A3 := Lib.hid (down A2.out hb)
    have X3 := Lib.hid (X2.out.keep hb)
    have Y3 := Lib.hid (Y2.out.keep hb)
    clear hb A2 X2 Y2 x2_0 x2_1 x2_z y2_0 y2_1 y2_z
    obtain ⟨x3_0, x3_1, x3_z⟩ := X3.out
    obtain ⟨y3_0, y3_1, y3_z⟩ := Y3.out
    go_wp2_with fail
    refine (H1.out _ (ht.out.below A3.out)).mono ?_
    rintro e w4 ⟨rfl, hb⟩
    have A4 := Lib.hid (down A3.out hb)
    have X4 := Lib.hid (X3.out.keep hb)
    have Y4 := Lib.hid (Y3.out.keep hb)
    clear hb A3 X3 Y3 x3_0 x3_1 x3_z y3_0 y3_1 y3_z
    obtain ⟨x4_0, x4_1, x4_z⟩ := X4.out
    obtain ⟨y4_0, y4_1, y4_z⟩ := Y4.out
    go_wp2_with fail
    refine (HI.out _ (ht.out.below A4.out)).mono ?_
    rintro e w5 ⟨rfl, hb⟩
    have A5 := Lib.hid (down A4.out hb)
    have X5 := Lib.hid (X4.out.keep hb)
    have Y5 := Lib.hid (Y4.out.keep hb)
    clear hb A4 X4 Y4 x4_0 x4_1 x4_z y4_0 y4_1 y4_z
    obtain ⟨x5_0, x5_1, x5_z⟩ := X5.out
    obtain ⟨y5_0, y5_1, y5_z⟩ := Y5.out
    go_wp2
    go_ret
    exact ⟨rfl, by first | exact A5.out | exact grow A5.out _ | exact below_drewN A5.out _ | exact grow (grow A5.out _) _ | exact grow (grow (grow A5.out _) _) _⟩
  · cases vb : ivB c d
    · rw [ofV_out (by rw [va, vb]; rfl)] at H0
      rw [ofV_out (by rw [vb]; rfl)] at H1
      rw [va] at HA
      rw [vb] at HB
      have HI := HM
      clear HM va vb ha hb hc hd
      replace HA := Lib.hid HA
      replace HB := Lib.hid HB
      replace H0 := Lib.hid H0
      replace H1 := Lib.hid H1
      replace HI := Lib.hid HI
      go_enter Tryd.func7, Tryd.ntmps7
      go_wp2_with fail
      refine (AW.out _ (ht.out.below (grow (grow (here w) _) _))).mono ?_
      rintro e w1 ⟨rfl, hb⟩
      have A1 := Lib.hid (down (grow (grow (here w) _) _) hb)
      have X1 := Lib.hid (Two.fst hb)
      have Y1 := Lib.hid (Two.snd hb)
      clear hb
      obtain ⟨x1_0, x1_1, x1_z⟩ := X1.out
      obtain ⟨y1_0, y1_1, y1_z⟩ := Y1.out
      go_wp2_with fail
      refine (H0.out _ (ht.out.below A1.out)).mono ?_
      rintro e w2 ⟨rfl, hb⟩
      have A2 := Lib.hid (down A1.out hb)
      have X2 := Lib.hid (X1.out.keep hb)
      have Y2 := Lib.hid (Y1.out.keep hb)
      clear hb A1 X1 Y1 x1_0 x1_1 x1_z y1_0 y1_1 y1_z
      obtain ⟨x2_0, x2_1, x2_z⟩ := X2.out
      obtain ⟨y2_0, y2_1, y2_z⟩ := Y2.out
      go_wp2_with fail
      refine (HA.out _ (ht.out.below A2.out)).mono ?_
      rintro e w3 ⟨rfl, hb⟩
      have A3 := Lib.hid (down A2.out hb)
      have X3 := Lib.hid (X2.out.keep hb)
      have Y3 := Lib.hid (Y2.out.keep hb)
      clear hb A2 X2 Y2 x2_0 x2_1 x2_z y2_0 y2_1 y2_z
      obtain ⟨x3_0, x3_1, x3_z⟩ := X3.out
      obtain ⟨y3_0, y3_1, y3_z⟩ := Y3.out
      go_wp2_with fail
      refine (HB.out _ (ht.out.below A3.out)).mono ?_
      rintro e w4 ⟨rfl, hb⟩
      have A4 := Lib.hid (down A3.out hb)
      have X4 := Lib.hid (X3.out.keep hb)
      have Y4 := Lib.hid (Y3.out.keep hb)
      clear hb A3 X3 Y3 x3_0 x3_1 x3_z y3_0 y3_1 y3_z
      obtain ⟨x4_0, x4_1, x4_z⟩ := X4.out
      obtain ⟨y4_0, y4_1, y4_z⟩ := Y4.out
      go_wp2_with fail
      refine (H1.out _ (ht.out.below A4.out)).mono ?_
      rintro e w5 ⟨rfl, hb⟩
      have A5 := Lib.hid (down A4.out hb)
      have X5 := Lib.hid (X4.out.keep hb)
      have Y5 := Lib.hid (Y4.out.keep hb)
      clear hb A4 X4 Y4 x4_0 x4_1 x4_z y4_0 y4_1 y4_z
      obtain ⟨x5_0, x5_1, x5_z⟩ := X5.out
      obtain ⟨y5_0, y5_1, y5_z⟩ := Y5.out
      go_wp2_with fail
      refine (HI.out _ (ht.out.below A5.out)).mono ?_
      rintro e w6 ⟨rfl, hb⟩
      have A6 := Lib.hid (down A5.out hb)
      have X6 := Lib.hid (X5.out.keep hb)
      have Y6 := Lib.hid (Y5.out.keep hb)
      clear hb A5 X5 Y5 x5_0 x5_1 x5_z y5_0 y5_1 y5_z
      obtain ⟨x6_0, x6_1, x6_z⟩ := X6.out
      obtain ⟨y6_0, y6_1, y6_z⟩ := Y6.out
      go_wp2
      go_ret
      exact ⟨rfl, by first | exact A6.out | exact grow A6.out _ | exact below_drewN A6.out _ | exact grow (grow A6.out _) _ | exact grow (grow (grow A6.out _) _) _⟩
    · rw [ofV_in va vb] at H0
      have p := (ivB_iff.1 va).2.2
      have q := (ivB_iff.1 vb).2.2
      rw [ofV_in vb va, ofW_inv p q] at H1
      rw [va] at HA
      rw [vb] at HB
      have bd := ofW_bd p q
      have sm := ofW_same p q
      generalize ofW a b c d = r at *
      have HI := fun w ht => uvinv r ⟨by omega, by omega⟩ w ht
      have HJ := fun w ht => uvinv (12 - r) ⟨by omega, by omega⟩ w ht
      rw [invV_in bd] at HI
      rw [invV_in (by omega), show 12 - (12 - r) = r by omega] at HJ
      obtain ⟨s, hs⟩ : ∃ s, 12 - r = s := ⟨_, rfl⟩
      rw [hs] at H1 HI HJ
      have k0 : decide (0 ≤ r) = true := decide_eq_true bd.1
      have k1 : decide (r ≤ 12) = true := decide_eq_true bd.2
      obtain ⟨r0, r1⟩ := bd
      clear HM va vb hs p q ha hb hc hd
      by_cases e1 : a = c
      · by_cases e2 : b = d
        · have e : r = 6 := sm.2 ⟨e1, e2⟩
          subst e1 e2 e
          clear sm
          replace HA := Lib.hid HA
          replace HB := Lib.hid HB
          replace H0 := Lib.hid H0
          replace H1 := Lib.hid H1
          replace HI := Lib.hid HI
          replace HJ := Lib.hid HJ
          go_enter Tryd.func7, Tryd.ntmps7
          go_wp2_with fail
          refine (AW.out _ (ht.out.below (grow (grow (here w) _) _))).mono ?_
          rintro e w1 ⟨rfl, hb⟩
          have A1 := Lib.hid (down (grow (grow (here w) _) _) hb)
          have X1 := Lib.hid (Two.fst hb)
          have Y1 := Lib.hid (Two.snd hb)
          clear hb
          obtain ⟨x1_0, x1_1, x1_z⟩ := X1.out
          obtain ⟨y1_0, y1_1, y1_z⟩ := Y1.out
          go_wp2_with fail
          refine (H0.out _ (ht.out.below A1.out)).mono ?_
          rintro e w2 ⟨rfl, hb⟩
          have A2 := Lib.hid (down A1.out hb)
          have X2 := Lib.hid (X1.out.keep hb)
          have Y2 := Lib.hid (Y1.out.keep hb)
          clear hb A1 X1 Y1 x1_0 x1_1 x1_z y1_0 y1_1 y1_z
          obtain ⟨x2_0, x2_1, x2_z⟩ := X2.out
          obtain ⟨y2_0, y2_1, y2_z⟩ := Y2.out
          go_wp2_with fail
          refine (HA.out _ (ht.out.below A2.out)).mono ?_
          rintro e w3 ⟨rfl, hb⟩
          have A3 := Lib.hid (down A2.out hb)
          have X3 := Lib.hid (X2.out.keep hb)
          have Y3 := Lib.hid (Y2.out.keep hb)
          clear hb A2 X2 Y2 x2_0 x2_1 x2_z y2_0 y2_1 y2_z
          obtain ⟨x3_0, x3_1, x3_z⟩ := X3.out
          obtain ⟨y3_0, y3_1, y3_z⟩ := Y3.out
          go_wp2_with fail
          refine (HB.out _ (ht.out.below A3.out)).mono ?_
          rintro e w4 ⟨rfl, hb⟩
          have A4 := Lib.hid (down A3.out hb)
          have X4 := Lib.hid (X3.out.keep hb)
          have Y4 := Lib.hid (Y3.out.keep hb)
          clear hb A3 X3 Y3 x3_0 x3_1 x3_z y3_0 y3_1 y3_z
          obtain ⟨x4_0, x4_1, x4_z⟩ := X4.out
          obtain ⟨y4_0, y4_1, y4_z⟩ := Y4.out
          go_wp2_with fail
          refine (H1.out _ (ht.out.below A4.out)).mono ?_
          rintro e w5 ⟨rfl, hb⟩
          have A5 := Lib.hid (down A4.out hb)
          have X5 := Lib.hid (X4.out.keep hb)
          have Y5 := Lib.hid (Y4.out.keep hb)
          clear hb A4 X4 Y4 x4_0 x4_1 x4_z y4_0 y4_1 y4_z
          obtain ⟨x5_0, x5_1, x5_z⟩ := X5.out
          obtain ⟨y5_0, y5_1, y5_z⟩ := Y5.out
          go_wp2_with fail
          refine (HI.out _ (ht.out.below A5.out)).mono ?_
          rintro e w6 ⟨rfl, hb⟩
          have A6 := Lib.hid (down A5.out hb)
          have X6 := Lib.hid (X5.out.keep hb)
          have Y6 := Lib.hid (Y5.out.keep hb)
          clear hb A5 X5 Y5 x5_0 x5_1 x5_z y5_0 y5_1 y5_z
          obtain ⟨x6_0, x6_1, x6_z⟩ := X6.out
          obtain ⟨y6_0, y6_1, y6_z⟩ := Y6.out
          go_wp2_with fail
          refine (HI.out _ (ht.out.below A6.out)).mono ?_
          rintro e w7 ⟨rfl, hb⟩
          have A7 := Lib.hid (down A6.out hb)
          have X7 := Lib.hid (X6.out.keep hb)
          have Y7 := Lib.hid (Y6.out.keep hb)
          clear hb A6 X6 Y6 x6_0 x6_1 x6_z y6_0 y6_1 y6_z
          obtain ⟨x7_0, x7_1, x7_z⟩ := X7.out
          obtain ⟨y7_0, y7_1, y7_z⟩ := Y7.out
          go_wp2_with fail
          refine (HJ.out _ (ht.out.below A7.out)).mono ?_
          rintro e w8 ⟨rfl, hb⟩
          have A8 := Lib.hid (down A7.out hb)
          have X8 := Lib.hid (X7.out.keep hb)
          have Y8 := Lib.hid (Y7.out.keep hb)
          clear hb A7 X7 Y7 x7_0 x7_1 x7_z y7_0 y7_1 y7_z
          obtain ⟨x8_0, x8_1, x8_z⟩ := X8.out
          obtain ⟨y8_0, y8_1, y8_z⟩ := Y8.out
          go_wp2
          go_ret
          exact ⟨rfl, by first | exact A8.out | exact grow A8.out _ | exact below_drewN A8.out _ | exact grow (grow A8.out _) _ | exact grow (grow (grow A8.out _) _) _⟩
        · have k2 : (r == 6) = false := by rw [beq_eq_false_iff_ne]; exact fun x => e2 (sm.1 x).2
          have k3 : (b == d) = false := by rw [beq_eq_false_iff_ne]; exact e2
          subst e1
          clear sm e2
          replace HA := Lib.hid HA
          replace HB := Lib.hid HB
          replace H0 := Lib.hid H0
          replace H1 := Lib.hid H1
          replace HI := Lib.hid HI
          replace HJ := Lib.hid HJ
          go_enter Tryd.func7, Tryd.ntmps7
          go_wp2_with fail
          refine (AW.out _ (ht.out.below (grow (grow (here w) _) _))).mono ?_
          rintro e w1 ⟨rfl, hb⟩
          have A1 := Lib.hid (down (grow (grow (here w) _) _) hb)
          have X1 := Lib.hid (Two.fst hb)
          have Y1 := Lib.hid (Two.snd hb)
          clear hb
          obtain ⟨x1_0, x1_1, x1_z⟩ := X1.out
          obtain ⟨y1_0, y1_1, y1_z⟩ := Y1.out
          go_wp2_with fail
          refine (H0.out _ (ht.out.below A1.out)).mono ?_
          rintro e w2 ⟨rfl, hb⟩
          have A2 := Lib.hid (down A1.out hb)
          have X2 := Lib.hid (X1.out.keep hb)
          have Y2 := Lib.hid (Y1.out.keep hb)
          clear hb A1 X1 Y1 x1_0 x1_1 x1_z y1_0 y1_1 y1_z
          obtain ⟨x2_0, x2_1, x2_z⟩ := X2.out
          obtain ⟨y2_0, y2_1, y2_z⟩ := Y2.out
          go_wp2_with fail
          refine (HA.out _ (ht.out.below A2.out)).mono ?_
          rintro e w3 ⟨rfl, hb⟩
          have A3 := Lib.hid (down A2.out hb)
          have X3 := Lib.hid (X2.out.keep hb)
          have Y3 := Lib.hid (Y2.out.keep hb)
          clear hb A2 X2 Y2 x2_0 x2_1 x2_z y2_0 y2_1 y2_z
          obtain ⟨x3_0, x3_1, x3_z⟩ := X3.out
          obtain ⟨y3_0, y3_1, y3_z⟩ := Y3.out
          go_wp2_with fail
          refine (HB.out _ (ht.out.below A3.out)).mono ?_
          rintro e w4 ⟨rfl, hb⟩
          have A4 := Lib.hid (down A3.out hb)
          have X4 := Lib.hid (X3.out.keep hb)
          have Y4 := Lib.hid (Y3.out.keep hb)
          clear hb A3 X3 Y3 x3_0 x3_1 x3_z y3_0 y3_1 y3_z
          obtain ⟨x4_0, x4_1, x4_z⟩ := X4.out
          obtain ⟨y4_0, y4_1, y4_z⟩ := Y4.out
          go_wp2_with fail
          refine (H1.out _ (ht.out.below A4.out)).mono ?_
          rintro e w5 ⟨rfl, hb⟩
          have A5 := Lib.hid (down A4.out hb)
          have X5 := Lib.hid (X4.out.keep hb)
          have Y5 := Lib.hid (Y4.out.keep hb)
          clear hb A4 X4 Y4 x4_0 x4_1 x4_z y4_0 y4_1 y4_z
          obtain ⟨x5_0, x5_1, x5_z⟩ := X5.out
          obtain ⟨y5_0, y5_1, y5_z⟩ := Y5.out
          go_wp2_with fail
          refine (HI.out _ (ht.out.below A5.out)).mono ?_
          rintro e w6 ⟨rfl, hb⟩
          have A6 := Lib.hid (down A5.out hb)
          have X6 := Lib.hid (X5.out.keep hb)
          have Y6 := Lib.hid (Y5.out.keep hb)
          clear hb A5 X5 Y5 x5_0 x5_1 x5_z y5_0 y5_1 y5_z
          obtain ⟨x6_0, x6_1, x6_z⟩ := X6.out
          obtain ⟨y6_0, y6_1, y6_z⟩ := Y6.out
          go_wp2_with fail
          refine (HI.out _ (ht.out.below A6.out)).mono ?_
          rintro e w7 ⟨rfl, hb⟩
          have A7 := Lib.hid (down A6.out hb)
          have X7 := Lib.hid (X6.out.keep hb)
          have Y7 := Lib.hid (Y6.out.keep hb)
          clear hb A6 X6 Y6 x6_0 x6_1 x6_z y6_0 y6_1 y6_z
          obtain ⟨x7_0, x7_1, x7_z⟩ := X7.out
          obtain ⟨y7_0, y7_1, y7_z⟩ := Y7.out
          go_wp2_with fail
          refine (HJ.out _ (ht.out.below A7.out)).mono ?_
          rintro e w8 ⟨rfl, hb⟩
          have A8 := Lib.hid (down A7.out hb)
          have X8 := Lib.hid (X7.out.keep hb)
          have Y8 := Lib.hid (Y7.out.keep hb)
          clear hb A7 X7 Y7 x7_0 x7_1 x7_z y7_0 y7_1 y7_z
          obtain ⟨x8_0, x8_1, x8_z⟩ := X8.out
          obtain ⟨y8_0, y8_1, y8_z⟩ := Y8.out
          go_wp2
          go_ret
          exact ⟨rfl, by first | exact A8.out | exact grow A8.out _ | exact below_drewN A8.out _ | exact grow (grow A8.out _) _ | exact grow (grow (grow A8.out _) _) _⟩
      · have k2 : (r == 6) = false := by rw [beq_eq_false_iff_ne]; exact fun x => e1 (sm.1 x).1
        have k3 : (a == c) = false := by rw [beq_eq_false_iff_ne]; exact e1
        clear sm e1
        replace HA := Lib.hid HA
        replace HB := Lib.hid HB
        replace H0 := Lib.hid H0
        replace H1 := Lib.hid H1
        replace HI := Lib.hid HI
        replace HJ := Lib.hid HJ
        go_enter Tryd.func7, Tryd.ntmps7
        go_wp2_with fail
        refine (AW.out _ (ht.out.below (grow (grow (here w) _) _))).mono ?_
        rintro e w1 ⟨rfl, hb⟩
        have A1 := Lib.hid (down (grow (grow (here w) _) _) hb)
        have X1 := Lib.hid (Two.fst hb)
        have Y1 := Lib.hid (Two.snd hb)
        clear hb
        obtain ⟨x1_0, x1_1, x1_z⟩ := X1.out
        obtain ⟨y1_0, y1_1, y1_z⟩ := Y1.out
        go_wp2_with fail
        refine (H0.out _ (ht.out.below A1.out)).mono ?_
        rintro e w2 ⟨rfl, hb⟩
        have A2 := Lib.hid (down A1.out hb)
        have X2 := Lib.hid (X1.out.keep hb)
        have Y2 := Lib.hid (Y1.out.keep hb)
        clear hb A1 X1 Y1 x1_0 x1_1 x1_z y1_0 y1_1 y1_z
        obtain ⟨x2_0, x2_1, x2_z⟩ := X2.out
        obtain ⟨y2_0, y2_1, y2_z⟩ := Y2.out
        go_wp2_with fail
        refine (HA.out _ (ht.out.below A2.out)).mono ?_
        rintro e w3 ⟨rfl, hb⟩
        have A3 := Lib.hid (down A2.out hb)
        have X3 := Lib.hid (X2.out.keep hb)
        have Y3 := Lib.hid (Y2.out.keep hb)
        clear hb A2 X2 Y2 x2_0 x2_1 x2_z y2_0 y2_1 y2_z
        obtain ⟨x3_0, x3_1, x3_z⟩ := X3.out
        obtain ⟨y3_0, y3_1, y3_z⟩ := Y3.out
        go_wp2_with fail
        refine (HB.out _ (ht.out.below A3.out)).mono ?_
        rintro e w4 ⟨rfl, hb⟩
        have A4 := Lib.hid (down A3.out hb)
        have X4 := Lib.hid (X3.out.keep hb)
        have Y4 := Lib.hid (Y3.out.keep hb)
        clear hb A3 X3 Y3 x3_0 x3_1 x3_z y3_0 y3_1 y3_z
        obtain ⟨x4_0, x4_1, x4_z⟩ := X4.out
        obtain ⟨y4_0, y4_1, y4_z⟩ := Y4.out
        go_wp2_with fail
        refine (H1.out _ (ht.out.below A4.out)).mono ?_
        rintro e w5 ⟨rfl, hb⟩
        have A5 := Lib.hid (down A4.out hb)
        have X5 := Lib.hid (X4.out.keep hb)
        have Y5 := Lib.hid (Y4.out.keep hb)
        clear hb A4 X4 Y4 x4_0 x4_1 x4_z y4_0 y4_1 y4_z
        obtain ⟨x5_0, x5_1, x5_z⟩ := X5.out
        obtain ⟨y5_0, y5_1, y5_z⟩ := Y5.out
        go_wp2_with fail
        refine (HI.out _ (ht.out.below A5.out)).mono ?_
        rintro e w6 ⟨rfl, hb⟩
        have A6 := Lib.hid (down A5.out hb)
        have X6 := Lib.hid (X5.out.keep hb)
        have Y6 := Lib.hid (Y5.out.keep hb)
        clear hb A5 X5 Y5 x5_0 x5_1 x5_z y5_0 y5_1 y5_z
        obtain ⟨x6_0, x6_1, x6_z⟩ := X6.out
        obtain ⟨y6_0, y6_1, y6_z⟩ := Y6.out
        go_wp2_with fail
        refine (HI.out _ (ht.out.below A6.out)).mono ?_
        rintro e w7 ⟨rfl, hb⟩
        have A7 := Lib.hid (down A6.out hb)
        have X7 := Lib.hid (X6.out.keep hb)
        have Y7 := Lib.hid (Y6.out.keep hb)
        clear hb A6 X6 Y6 x6_0 x6_1 x6_z y6_0 y6_1 y6_z
        obtain ⟨x7_0, x7_1, x7_z⟩ := X7.out
        obtain ⟨y7_0, y7_1, y7_z⟩ := Y7.out
        go_wp2_with fail
        refine (HJ.out _ (ht.out.below A7.out)).mono ?_
        rintro e w8 ⟨rfl, hb⟩
        have A8 := Lib.hid (down A7.out hb)
        have X8 := Lib.hid (X7.out.keep hb)
        have Y8 := Lib.hid (Y7.out.keep hb)
        clear hb A7 X7 Y7 x7_0 x7_1 x7_z y7_0 y7_1 y7_z
        obtain ⟨x8_0, x8_1, x8_z⟩ := X8.out
        obtain ⟨y8_0, y8_1, y8_z⟩ := Y8.out
        go_wp2
        go_ret
        exact ⟨rfl, by first | exact A8.out | exact grow A8.out _ | exact below_drewN A8.out _ | exact grow (grow A8.out _) _ | exact grow (grow (grow A8.out _) _) _⟩
end Go.Proofs.YtknlhhjooamfhaaDoor

/- The walk of IntervalDisjoint. -/
import Derived.Test.YtknlhhjooamfhaaDoorIvAwake
import Derived.BigQuiet
import Derived.Deep.QuietTactic
import Derived.Deep.RegionHeld3
import Derived.Deep.Cut
import Derived.Outline
namespace Go.Proofs.YtknlhhjooamfhaaDoor
open Go.RowKit
set_option linter.unusedVariables false

set_option maxRecDepth 100000 in
set_option maxHeartbeats 4000000 in
theorem IntervalDisjoint.walk (a b c d : Int) (ha : (Lit.int .i64 a).wf = true) (hb : (Lit.int .i64 b).wf = true) (hc : (Lit.int .i64 c).wf = true) (hd : (Lit.int .i64 d).wf = true) (w : World) (ht : Tabs w) :
    Calls Tryd.prog 10 #[.agg #[.int .i64 a, .int .i64 b], .agg #[.int .i64 c, .int .i64 d]] w fun e w' => e = .returned (.bool true) ∧ Below w.heap.size w w' := by
  replace ha := i64_wf ha
  replace hb := i64_wf hb
  replace hc := i64_wf hc
  replace hd := i64_wf hd
  have HA := fun w ht => uvvalid a b ha hb w ht
  have HB := fun w ht => uvvalid c d hc hd w ht
  have H0 := fun w ht => uvof a b c d ha hb hc hd w ht
  have HM := fun w ht => uvmeet a b c d ha hb hc hd w ht
  have HN := fun w ht => uvminus a b c d ha hb hc hd w ht
  have AW := Lib.hid (fun w ht => awake_all w ht)
  replace ht := Lib.hid ht
  cases va : ivB a b
  · rw [ofV_out (by rw [va]; rfl)] at H0
    rw [va] at HA
    clear HB HM HN va ha hb hc hd
    replace HA := Lib.hid HA
    replace H0 := Lib.hid H0
    go_enter Tryd.func10, Tryd.ntmps10
    go_wp2_with fail
    refine (AW.out _ (ht.out.below (grow (grow (here w) _) _))).mono ?_
    rintro e w1 ⟨rfl, hb⟩
    have A1 := Lib.hid (down (grow (grow (here w) _) _) hb)
    have X1 := Lib.hid (Two.fst hb)
    have Y1 := Lib.hid (Two.snd hb)
    clear hb
    obtain ⟨x1_0, x1_1, x1_z⟩ := X1.out
    obtain ⟨y1_0, y1_1, y1_z⟩ := Y1.out
    go_wp2_with fail
    refine (H0.out _ (ht.out.below A1.out)).mono ?_
    rintro e w2 ⟨rfl, hb⟩
    have A2 := Lib.hid (down A1.out hb)
    have X2 := Lib.hid (X1.out.keep hb)
    have Y2 := Lib.hid (Y1.out.keep hb)
    clear hb A1 X1 Y1 x1_0 x1_1 x1_z y1_0 y1_1 y1_z
    obtain ⟨x2_0, x2_1, x2_z⟩ := X2.out
    obtain ⟨y2_0, y2_1, y2_z⟩ := Y2.out
    go_wp2_with fail
    refine (HA.out _ (ht.out.below A2.out)).mono ?_
    rintro e w3 ⟨rfl, hb⟩
    have A3 := Lib.hid (down A2.out hb)
    have X3 := Lib.hid (X2.out.keep hb)
    have Y3 := Lib.hid (Y2.out.keep hb)
    clear hb A2 X2 Y2 x2_0 x2_1 x2_z y2_0 y2_1 y2_z
    obtain ⟨x3_0, x3_1, x3_z⟩ := X3.out
    obtain ⟨y3_0, y3_1, y3_z⟩ := Y3.out
    go_wp2
    go_ret
    exact ⟨rfl, by first | exact A3.out | exact grow A3.out _ | exact below_drewN A3.out _ | exact grow (grow A3.out _) _ | exact grow (grow (grow A3.out _) _) _⟩
  · cases vb : ivB c d
    · rw [ofV_out (by rw [va, vb]; rfl)] at H0
      rw [va] at HA
      rw [vb] at HB
      clear HM HN va vb ha hb hc hd
      replace HA := Lib.hid HA
      replace HB := Lib.hid HB
      replace H0 := Lib.hid H0
      go_enter Tryd.func10, Tryd.ntmps10
      go_wp2_with fail
      refine (AW.out _ (ht.out.below (grow (grow (here w) _) _))).mono ?_
      rintro e w1 ⟨rfl, hb⟩
      have A1 := Lib.hid (down (grow (grow (here w) _) _) hb)
      have X1 := Lib.hid (Two.fst hb)
      have Y1 := Lib.hid (Two.snd hb)
      clear hb
      obtain ⟨x1_0, x1_1, x1_z⟩ := X1.out
      obtain ⟨y1_0, y1_1, y1_z⟩ := Y1.out
      go_wp2_with fail
      refine (H0.out _ (ht.out.below A1.out)).mono ?_
      rintro e w2 ⟨rfl, hb⟩
      have A2 := Lib.hid (down A1.out hb)
      have X2 := Lib.hid (X1.out.keep hb)
      have Y2 := Lib.hid (Y1.out.keep hb)
      clear hb A1 X1 Y1 x1_0 x1_1 x1_z y1_0 y1_1 y1_z
      obtain ⟨x2_0, x2_1, x2_z⟩ := X2.out
      obtain ⟨y2_0, y2_1, y2_z⟩ := Y2.out
      go_wp2_with fail
      refine (HA.out _ (ht.out.below A2.out)).mono ?_
      rintro e w3 ⟨rfl, hb⟩
      have A3 := Lib.hid (down A2.out hb)
      have X3 := Lib.hid (X2.out.keep hb)
      have Y3 := Lib.hid (Y2.out.keep hb)
      clear hb A2 X2 Y2 x2_0 x2_1 x2_z y2_0 y2_1 y2_z
      obtain ⟨x3_0, x3_1, x3_z⟩ := X3.out
      obtain ⟨y3_0, y3_1, y3_z⟩ := Y3.out
      go_wp2_with fail
      refine (HB.out _ (ht.out.below A3.out)).mono ?_
      rintro e w4 ⟨rfl, hb⟩
      have A4 := Lib.hid (down A3.out hb)
      have X4 := Lib.hid (X3.out.keep hb)
      have Y4 := Lib.hid (Y3.out.keep hb)
      clear hb A3 X3 Y3 x3_0 x3_1 x3_z y3_0 y3_1 y3_z
      obtain ⟨x4_0, x4_1, x4_z⟩ := X4.out
      obtain ⟨y4_0, y4_1, y4_z⟩ := Y4.out
      go_wp2
      go_ret
      exact ⟨rfl, by first | exact A4.out | exact grow A4.out _ | exact below_drewN A4.out _ | exact grow (grow A4.out _) _ | exact grow (grow (grow A4.out _) _) _⟩
    · rw [ofV_in va vb] at H0
      obtain ⟨bm, bi, bl, b2⟩ := iv_parts va vb
      have bd := ofW_bd (ivB_iff.1 va).2.2 (ivB_iff.1 vb).2.2
      have n2 : (mnL a b c d).length ≤ 2 := by
        rw [mnL_in va vb, List.length_append]
        unfold mnA mnZ
        split <;> split <;> simp
      generalize ofW a b c d = r at *
      generalize mtF a b c d = mf at *
      generalize mtT a b c d = mt at *
      generalize mtB a b c d = mb at *
      generalize mnL a b c d = L at *
      generalize hn : L.length = n at *
      clear HA HB va vb ha hb hc hd
      replace H0 := Lib.hid H0
      replace HN := Lib.hid HN
      have kr : decide (r < 0) = false := decide_eq_false (by omega)
      cases mb
      · have nb : ¬ (1 < r ∧ r < 11) := fun x => by have := bm.2 x; cases this
        have ni : ¬ (3 ≤ r ∧ r ≤ 6) := fun x => nb (by omega)
        have n0 : ¬ n = 0 := fun x => ni (bl.1 x)
        have n8 : ¬ n = 2 := fun x => nb (by have := b2.1 x; omega)
        replace HM := Lib.hid HM
        by_cases z : 1 < r
        · have k1 : decide (1 < r) = true := decide_eq_true (by omega)
          have k2 : decide (r < 11) = false := decide_eq_false (by omega)
          have k3 : decide (3 ≤ r) = true := decide_eq_true (by omega)
          have k4 : decide (r ≤ 6) = false := decide_eq_false (by omega)
          have k8 : (r == 8) = false := by rw [beq_eq_false_iff_ne]; omega
          have kl0 : ((n : Int) == 0) = false := by rw [beq_eq_false_iff_ne]; omega
          have kl2 : ((n : Int) == 2) = false := by rw [beq_eq_false_iff_ne]; omega
          clear bm bi bl b2 nb ni n0 n8
          go_enter Tryd.func10, Tryd.ntmps10
          go_wp2_with fail
          refine (AW.out _ (ht.out.below (grow (grow (here w) _) _))).mono ?_
          rintro e w1 ⟨rfl, hb⟩
          have A1 := Lib.hid (down (grow (grow (here w) _) _) hb)
          have X1 := Lib.hid (Two.fst hb)
          have Y1 := Lib.hid (Two.snd hb)
          clear hb
          obtain ⟨x1_0, x1_1, x1_z⟩ := X1.out
          obtain ⟨y1_0, y1_1, y1_z⟩ := Y1.out
          go_wp2_with fail
          refine (H0.out _ (ht.out.below A1.out)).mono ?_
          rintro e w2 ⟨rfl, hb⟩
          have A2 := Lib.hid (down A1.out hb)
          have X2 := Lib.hid (X1.out.keep hb)
          have Y2 := Lib.hid (Y1.out.keep hb)
          clear hb A1 X1 Y1 x1_0 x1_1 x1_z y1_0 y1_1 y1_z
          obtain ⟨x2_0, x2_1, x2_z⟩ := X2.out
          obtain ⟨y2_0, y2_1, y2_z⟩ := Y2.out
          go_wp2_with fail
          refine (HM.out _ (ht.out.below A2.out)).mono ?_
          rintro e w3 ⟨rfl, hb⟩
          have A3 := Lib.hid (down A2.out hb)
          have X3 := Lib.hid (X2.out.keep hb)
          have Y3 := Lib.hid (Y2.out.keep hb)
          clear hb A2 X2 Y2 x2_0 x2_1 x2_z y2_0 y2_1 y2_z
          obtain ⟨x3_0, x3_1, x3_z⟩ := X3.out
          obtain ⟨y3_0, y3_1, y3_z⟩ := Y3.out
          go_wp2_with fail
          refine (HN.out _ (ht.out.below (grow A3.out _))).mono ?_
          rintro e w4 ⟨⟨v1, rfl, Q1⟩, hb⟩
          obtain ⟨o1, c1, rfl⟩ := Sl.shape Q1
          clear Q1
          have A4 := Lib.hid (down (grow A3.out _) hb)
          have X4 := Lib.hid ((X3.out.old _).keep hb)
          have Y4 := Lib.hid ((Y3.out.old _).keep hb)
          have M4 := Lib.hid (Two.new hb)
          clear hb A3 X3 Y3 x3_0 x3_1 x3_z y3_0 y3_1 y3_z
          obtain ⟨x4_0, x4_1, x4_z⟩ := X4.out
          obtain ⟨y4_0, y4_1, y4_z⟩ := Y4.out
          obtain ⟨m4_0, m4_1, m4_z⟩ := M4.out
          go_wp2_with fail
          refine (HN.out _ (ht.out.below A4.out)).mono ?_
          rintro e w5 ⟨⟨v2, rfl, Q2⟩, hb⟩
          obtain ⟨o2, c2, rfl⟩ := Sl.shape Q2
          clear Q2
          have A5 := Lib.hid (down A4.out hb)
          have X5 := Lib.hid (X4.out.keep hb)
          have Y5 := Lib.hid (Y4.out.keep hb)
          have M5 := Lib.hid (M4.out.keep hb)
          clear hb A4 X4 Y4 M4 x4_0 x4_1 x4_z y4_0 y4_1 y4_z m4_0 m4_1 m4_z
          obtain ⟨x5_0, x5_1, x5_z⟩ := X5.out
          obtain ⟨y5_0, y5_1, y5_z⟩ := Y5.out
          obtain ⟨m5_0, m5_1, m5_z⟩ := M5.out
          go_wp2
          go_ret
          exact ⟨rfl, by first | exact A5.out | exact grow A5.out _ | exact below_drewN A5.out _ | exact grow (grow A5.out _) _ | exact grow (grow (grow A5.out _) _) _⟩
        · have k1 : decide (1 < r) = false := decide_eq_false (by omega)
          have k3 : decide (3 ≤ r) = false := decide_eq_false (by omega)
          have k8 : (r == 8) = false := by rw [beq_eq_false_iff_ne]; omega
          have kl0 : ((n : Int) == 0) = false := by rw [beq_eq_false_iff_ne]; omega
          have kl2 : ((n : Int) == 2) = false := by rw [beq_eq_false_iff_ne]; omega
          clear bm bi bl b2 nb ni n0 n8
          go_enter Tryd.func10, Tryd.ntmps10
          go_wp2_with fail
          refine (AW.out _ (ht.out.below (grow (grow (here w) _) _))).mono ?_
          rintro e w1 ⟨rfl, hb⟩
          have A1 := Lib.hid (down (grow (grow (here w) _) _) hb)
          have X1 := Lib.hid (Two.fst hb)
          have Y1 := Lib.hid (Two.snd hb)
          clear hb
          obtain ⟨x1_0, x1_1, x1_z⟩ := X1.out
          obtain ⟨y1_0, y1_1, y1_z⟩ := Y1.out
          go_wp2_with fail
          refine (H0.out _ (ht.out.below A1.out)).mono ?_
          rintro e w2 ⟨rfl, hb⟩
          have A2 := Lib.hid (down A1.out hb)
          have X2 := Lib.hid (X1.out.keep hb)
          have Y2 := Lib.hid (Y1.out.keep hb)
          clear hb A1 X1 Y1 x1_0 x1_1 x1_z y1_0 y1_1 y1_z
          obtain ⟨x2_0, x2_1, x2_z⟩ := X2.out
          obtain ⟨y2_0, y2_1, y2_z⟩ := Y2.out
          go_wp2_with fail
          refine (HM.out _ (ht.out.below A2.out)).mono ?_
          rintro e w3 ⟨rfl, hb⟩
          have A3 := Lib.hid (down A2.out hb)
          have X3 := Lib.hid (X2.out.keep hb)
          have Y3 := Lib.hid (Y2.out.keep hb)
          clear hb A2 X2 Y2 x2_0 x2_1 x2_z y2_0 y2_1 y2_z
          obtain ⟨x3_0, x3_1, x3_z⟩ := X3.out
          obtain ⟨y3_0, y3_1, y3_z⟩ := Y3.out
          go_wp2_with fail
          refine (HN.out _ (ht.out.below (grow A3.out _))).mono ?_
          rintro e w4 ⟨⟨v1, rfl, Q1⟩, hb⟩
          obtain ⟨o1, c1, rfl⟩ := Sl.shape Q1
          clear Q1
          have A4 := Lib.hid (down (grow A3.out _) hb)
          have X4 := Lib.hid ((X3.out.old _).keep hb)
          have Y4 := Lib.hid ((Y3.out.old _).keep hb)
          have M4 := Lib.hid (Two.new hb)
          clear hb A3 X3 Y3 x3_0 x3_1 x3_z y3_0 y3_1 y3_z
          obtain ⟨x4_0, x4_1, x4_z⟩ := X4.out
          obtain ⟨y4_0, y4_1, y4_z⟩ := Y4.out
          obtain ⟨m4_0, m4_1, m4_z⟩ := M4.out
          go_wp2_with fail
          refine (HN.out _ (ht.out.below A4.out)).mono ?_
          rintro e w5 ⟨⟨v2, rfl, Q2⟩, hb⟩
          obtain ⟨o2, c2, rfl⟩ := Sl.shape Q2
          clear Q2
          have A5 := Lib.hid (down A4.out hb)
          have X5 := Lib.hid (X4.out.keep hb)
          have Y5 := Lib.hid (Y4.out.keep hb)
          have M5 := Lib.hid (M4.out.keep hb)
          clear hb A4 X4 Y4 M4 x4_0 x4_1 x4_z y4_0 y4_1 y4_z m4_0 m4_1 m4_z
          obtain ⟨x5_0, x5_1, x5_z⟩ := X5.out
          obtain ⟨y5_0, y5_1, y5_z⟩ := Y5.out
          obtain ⟨m5_0, m5_1, m5_z⟩ := M5.out
          go_wp2
          go_ret
          exact ⟨rfl, by first | exact A5.out | exact grow A5.out _ | exact below_drewN A5.out _ | exact grow (grow A5.out _) _ | exact grow (grow (grow A5.out _) _) _⟩
      · have yb := bm.1 rfl
        have k1 : decide (1 < r) = true := decide_eq_true yb.1
        have k2 : decide (r < 11) = true := decide_eq_true yb.2
        replace HM := Lib.hid HM
        by_cases z : 3 ≤ r ∧ r ≤ 6
        · have k3 : decide (3 ≤ r) = true := decide_eq_true z.1
          have k4 : decide (r ≤ 6) = true := decide_eq_true z.2
          have k8 : (r == 8) = false := by rw [beq_eq_false_iff_ne]; omega
          obtain ⟨-, rfl, rfl⟩ := bi.2 z
          obtain rfl := bl.2 z
          clear bm bi bl b2 z yb
          go_enter Tryd.func10, Tryd.ntmps10
          go_wp2_with fail
          refine (AW.out _ (ht.out.below (grow (grow (here w) _) _))).mono ?_
          rintro e w1 ⟨rfl, hb⟩
          have A1 := Lib.hid (down (grow (grow (here w) _) _) hb)
          have X1 := Lib.hid (Two.fst hb)
          have Y1 := Lib.hid (Two.snd hb)
          clear hb
          obtain ⟨x1_0, x1_1, x1_z⟩ := X1.out
          obtain ⟨y1_0, y1_1, y1_z⟩ := Y1.out
          go_wp2_with fail
          refine (H0.out _ (ht.out.below A1.out)).mono ?_
          rintro e w2 ⟨rfl, hb⟩
          have A2 := Lib.hid (down A1.out hb)
          have X2 := Lib.hid (X1.out.keep hb)
          have Y2 := Lib.hid (Y1.out.keep hb)
          clear hb A1 X1 Y1 x1_0 x1_1 x1_z y1_0 y1_1 y1_z
          obtain ⟨x2_0, x2_1, x2_z⟩ := X2.out
          obtain ⟨y2_0, y2_1, y2_z⟩ := Y2.out
          go_wp2_with fail
          refine (HM.out _ (ht.out.below A2.out)).mono ?_
          rintro e w3 ⟨rfl, hb⟩
          have A3 := Lib.hid (down A2.out hb)
          have X3 := Lib.hid (X2.out.keep hb)
          have Y3 := Lib.hid (Y2.out.keep hb)
          clear hb A2 X2 Y2 x2_0 x2_1 x2_z y2_0 y2_1 y2_z
          obtain ⟨x3_0, x3_1, x3_z⟩ := X3.out
          obtain ⟨y3_0, y3_1, y3_z⟩ := Y3.out
          go_wp2_with fail
          refine (HN.out _ (ht.out.below (grow A3.out _))).mono ?_
          rintro e w4 ⟨⟨v1, rfl, Q1⟩, hb⟩
          obtain ⟨o1, c1, rfl⟩ := Sl.shape Q1
          clear Q1
          have A4 := Lib.hid (down (grow A3.out _) hb)
          have X4 := Lib.hid ((X3.out.old _).keep hb)
          have Y4 := Lib.hid ((Y3.out.old _).keep hb)
          have M4 := Lib.hid (Two.new hb)
          clear hb A3 X3 Y3 x3_0 x3_1 x3_z y3_0 y3_1 y3_z
          obtain ⟨x4_0, x4_1, x4_z⟩ := X4.out
          obtain ⟨y4_0, y4_1, y4_z⟩ := Y4.out
          obtain ⟨m4_0, m4_1, m4_z⟩ := M4.out
          go_wp2_with fail
          refine (HN.out _ (ht.out.below A4.out)).mono ?_
          rintro e w5 ⟨⟨v2, rfl, Q2⟩, hb⟩
          obtain ⟨o2, c2, rfl⟩ := Sl.shape Q2
          clear Q2
          have A5 := Lib.hid (down A4.out hb)
          have X5 := Lib.hid (X4.out.keep hb)
          have Y5 := Lib.hid (Y4.out.keep hb)
          have M5 := Lib.hid (M4.out.keep hb)
          clear hb A4 X4 Y4 M4 x4_0 x4_1 x4_z y4_0 y4_1 y4_z m4_0 m4_1 m4_z
          obtain ⟨x5_0, x5_1, x5_z⟩ := X5.out
          obtain ⟨y5_0, y5_1, y5_z⟩ := Y5.out
          obtain ⟨m5_0, m5_1, m5_z⟩ := M5.out
          go_wp2
          go_ret
          exact ⟨rfl, by first | exact A5.out | exact grow A5.out _ | exact below_drewN A5.out _ | exact grow (grow A5.out _) _ | exact grow (grow (grow A5.out _) _) _⟩
        · have nn : ¬ n = 0 := fun x => z (bl.1 x)
          have kl0 : ((n : Int) == 0) = false := by rw [beq_eq_false_iff_ne]; omega
          have k34 : (decide (3 ≤ r) = false) ∨ (decide (3 ≤ r) = true ∧ decide (r ≤ 6) = false) := by
            rcases Int.lt_or_le r 3 with q | q
            · exact .inl (decide_eq_false (by omega))
            · exact .inr ⟨decide_eq_true q, decide_eq_false (by omega)⟩
          have ms : (mf == a) = false ∨ (mf = a ∧ (mt == b) = false) := by
            rw [beq_eq_false_iff_ne, beq_eq_false_iff_ne]
            by_cases x : mf = a
            · exact .inr ⟨x, fun y => z (bi.1 ⟨rfl, x, y⟩)⟩
            · exact .inl x
          have k28 : ((n : Int) == 2) = (r == 8) := by
            rw [Bool.eq_iff_iff, beq_iff_eq, beq_iff_eq]; constructor
            · intro x; exact b2.1 (by omega)
            · intro x; have := b2.2 x; omega
          obtain ⟨e8, he8⟩ : ∃ e8, (r == 8) = e8 := ⟨_, rfl⟩
          rw [he8] at k28
          clear bm bi bl b2 z yb nn
          cases e8 <;> rcases k34 with k34 | ⟨k34, k35⟩ <;> rcases ms with ms | ⟨rfl, ms⟩
          all_goals
            go_enter Tryd.func10, Tryd.ntmps10
            go_wp2_with fail
            refine (AW.out _ (ht.out.below (grow (grow (here w) _) _))).mono ?_
            rintro e w1 ⟨rfl, hb⟩
            have A1 := Lib.hid (down (grow (grow (here w) _) _) hb)
            have X1 := Lib.hid (Two.fst hb)
            have Y1 := Lib.hid (Two.snd hb)
            clear hb
            obtain ⟨x1_0, x1_1, x1_z⟩ := X1.out
            obtain ⟨y1_0, y1_1, y1_z⟩ := Y1.out
            go_wp2_with fail
            refine (H0.out _ (ht.out.below A1.out)).mono ?_
            rintro e w2 ⟨rfl, hb⟩
            have A2 := Lib.hid (down A1.out hb)
            have X2 := Lib.hid (X1.out.keep hb)
            have Y2 := Lib.hid (Y1.out.keep hb)
            clear hb A1 X1 Y1 x1_0 x1_1 x1_z y1_0 y1_1 y1_z
            obtain ⟨x2_0, x2_1, x2_z⟩ := X2.out
            obtain ⟨y2_0, y2_1, y2_z⟩ := Y2.out
            go_wp2_with fail
            refine (HM.out _ (ht.out.below A2.out)).mono ?_
            rintro e w3 ⟨rfl, hb⟩
            have A3 := Lib.hid (down A2.out hb)
            have X3 := Lib.hid (X2.out.keep hb)
            have Y3 := Lib.hid (Y2.out.keep hb)
            clear hb A2 X2 Y2 x2_0 x2_1 x2_z y2_0 y2_1 y2_z
            obtain ⟨x3_0, x3_1, x3_z⟩ := X3.out
            obtain ⟨y3_0, y3_1, y3_z⟩ := Y3.out
            go_wp2_with fail
            refine (HN.out _ (ht.out.below (grow A3.out _))).mono ?_
            rintro e w4 ⟨⟨v1, rfl, Q1⟩, hb⟩
            obtain ⟨o1, c1, rfl⟩ := Sl.shape Q1
            clear Q1
            have A4 := Lib.hid (down (grow A3.out _) hb)
            have X4 := Lib.hid ((X3.out.old _).keep hb)
            have Y4 := Lib.hid ((Y3.out.old _).keep hb)
            have M4 := Lib.hid (Two.new hb)
            clear hb A3 X3 Y3 x3_0 x3_1 x3_z y3_0 y3_1 y3_z
            obtain ⟨x4_0, x4_1, x4_z⟩ := X4.out
            obtain ⟨y4_0, y4_1, y4_z⟩ := Y4.out
            obtain ⟨m4_0, m4_1, m4_z⟩ := M4.out
            go_wp2_with fail
            refine (HN.out _ (ht.out.below A4.out)).mono ?_
            rintro e w5 ⟨⟨v2, rfl, Q2⟩, hb⟩
            obtain ⟨o2, c2, rfl⟩ := Sl.shape Q2
            clear Q2
            have A5 := Lib.hid (down A4.out hb)
            have X5 := Lib.hid (X4.out.keep hb)
            have Y5 := Lib.hid (Y4.out.keep hb)
            have M5 := Lib.hid (M4.out.keep hb)
            clear hb A4 X4 Y4 M4 x4_0 x4_1 x4_z y4_0 y4_1 y4_z m4_0 m4_1 m4_z
            obtain ⟨x5_0, x5_1, x5_z⟩ := X5.out
            obtain ⟨y5_0, y5_1, y5_z⟩ := Y5.out
            obtain ⟨m5_0, m5_1, m5_z⟩ := M5.out
            go_wp2
            go_ret
            exact ⟨rfl, by first | exact A5.out | exact grow A5.out _ | exact below_drewN A5.out _ | exact grow (grow A5.out _) _ | exact grow (grow (grow A5.out _) _) _⟩
end Go.Proofs.YtknlhhjooamfhaaDoor

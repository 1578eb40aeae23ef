/- IntervalCovers where both intervals are valid and have points in common. -/
import Derived.Test.YtknlhhjooamfhaaDoorIvLawH
import Derived.BigQuiet
import Derived.Deep.QuietTactic
import Derived.Deep.RegionHeld3
import Derived.Deep.Cut
import Derived.Outline
namespace Go.Proofs.YtknlhhjooamfhaaDoor
open Go.RowKit
set_option linter.unusedVariables false

set_option maxRecDepth 100000 in
set_option maxHeartbeats 4000000 in
theorem cov_111 (a b c d x : Int) (ha : I64 a) (hb : I64 b) (hc : I64 c) (hd : I64 d) (hx : I64 x) (va : ivB a b = true) (vb : ivB c d = true) (hmb : mtB a b c d = true) (hnA : hsB a b x = true) (hnB : hsB c d x = true) (w : World) (ht : Tabs w) :
    Calls Tryd.prog 8 #[.agg #[.int .i64 a, .int .i64 b], .agg #[.int .i64 c, .int .i64 d], .int .i64 x] w fun e w' => e = .returned (.bool true) ∧ Below w.heap.size w w' := by
  have AW := Lib.hid (fun w ht => awake_all w ht)
  replace ht := Lib.hid ht
  have wfL := mn_wf ha hb hc hd
  have HM := fun w ht => uvmeet a b c d ha hb hc hd w ht
  have HN := fun w ht => uvminus a b c d ha hb hc hd w ht
  have HH := fun w ht => uvhull a b c d ha hb hc hd w ht
  have HVA := fun w ht => uvvalid a b ha hb w ht
  have HVB := fun w ht => uvvalid c d hc hd w ht
  have Hhas := fun k (hk : k < (mnL a b c d).length) w ht => uvhas ((mnL a b c d).getD k (0, 0)).1 ((mnL a b c d).getD k (0, 0)).2 (wfL k hk).1 (wfL k hk).2 x hx w ht
  have F0 : cfN x (mnL a b c d) 0 = 0 := rfl
  have Fst := fun k (hk : k < (mnL a b c d).length) => cf_step x (mnL a b c d) hk
  have n2 : (mnL a b c d).length ≤ 2 := by
    unfold mnL mnA mnZ
    split
    · rw [List.length_append]; split <;> split <;> simp
    · simp
  have Fle := fun k => Nat.le_trans (cf_le x (mnL a b c d) k) n2
  have FL : cfN x (mnL a b c d) (mnL a b c d).length = ((mnL a b c d).filter (fun p => hsB p.1 p.2 x)).length := by unfold cfN; rw [List.take_length]
  have va' := va
  obtain ⟨i1, i2, i3⟩ := ivB_iff.1 va
  obtain ⟨j1, j2, j3⟩ := ivB_iff.1 vb
  obtain ⟨cv1, cv2⟩ := iv_covers va vb x
  have e1 : hlF a b c d = hiV a c := by unfold hlF; rw [va, vb]; rfl
  have e2 : hlT a b c d = loV b d := by unfold hlT; rw [va, vb]; rfl
  have e3 : hlE a b c d = 0 := by unfold hlE; rw [va, vb]; rfl
  have b1 := hiV_bd a c
  have b2 := loV_bd b d
  rw [cv2] at FL
  rw [e1, e2, e3] at HH
  rw [va] at HVA
  rw [vb] at HVB
  have wm : I64 (mtF a b c d) ∧ I64 (mtT a b c d) := by
    have q1 := loV_bd a c
    have q2 := hiV_bd b d
    unfold mtF mtT I64
    split <;> omega
  have HMX := fun w ht => uvhas (mtF a b c d) (mtT a b c d) wm.1 wm.2 x hx w ht
  have HIA := fun w ht => uvhas a b ha hb x hx w ht
  have HIB := fun w ht => uvhas c d hc hd x hx w ht
  have HHX := fun w ht => uvhas (hiV a c) (loV b d) ⟨by omega, by omega⟩ ⟨by omega, by omega⟩ x hx w ht
  have HLH := fun w ht => uvlen (hiV a c) (loV b d) ⟨by omega, by omega⟩ ⟨by omega, by omega⟩ w ht
  have HLA := fun w ht => uvlen a b ha hb w ht
  have HLB := fun w ht => uvlen c d hc hd w ht
  have vh : ivB (hiV a c) (loV b d) = true := ivB_iff.2 (by omega)
  have l1 : lnV (hiV a c) (loV b d) = loV b d - hiV a c := by unfold lnV; rw [vh]; rfl
  have l2 : lnV a b = b - a := by unfold lnV; rw [va]; rfl
  have l3 : lnV c d = d - c := by unfold lnV; rw [vb]; rfl
  have hhx : (hsB a b x || hsB c d x) = true → hsB (hiV a c) (loV b d) x = true := by
    rw [Bool.or_eq_true, hsB_iff, hsB_iff, hsB_iff]
    rintro (q | q) <;> exact ⟨vh, by omega, by omega⟩
  have ends : ((hiV a c == a) = true ∧ (loV b d == b) = true) ∨ ((hiV a c == a) = false ∧ (hiV a c == c) = true ∧ (loV b d == b) = true) ∨ ((hiV a c == a) = true ∧ (loV b d == b) = false ∧ (loV b d == d) = true) ∨ ((hiV a c == a) = false ∧ (hiV a c == c) = true ∧ (loV b d == b) = false ∧ (loV b d == d) = true) := by
    simp only [beq_iff_eq, beq_eq_false_iff_ne]
    omega
  obtain ⟨Mx, hM⟩ : ∃ Mx, (if lnV a b < lnV c d then lnV c d else lnV a b) = Mx := ⟨_, rfl⟩
  have hM' : max (lnV a b) (lnV c d) = Mx := by rw [← hM]; split <;> omega
  have kM : decide (Mx ≤ lnV (hiV a c) (loV b d)) = true := by
    refine decide_eq_true ?_
    rw [← hM, l1, l2, l3]
    split <;> omega
  have kl : I64 (lnV a b) ∧ I64 (lnV c d) ∧ I64 (lnV (hiV a c) (loV b d)) := by rw [l1, l2, l3]; unfold I64; omega
  clear wfL wm l1 l2 l3 vh va' e1 e2 e3 cv2 b1 b2 i1 i2 i3 j1 j2 j3 va vb
  generalize hsB (hiV a c) (loV b d) x = hh at *
  generalize lnV (hiV a c) (loV b d) = lh at *
  generalize lnV a b = la at *
  generalize lnV c d = lb at *
  generalize hiV a c = hf at *
  generalize loV b d = hu at *
  generalize hsB (mtF a b c d) (mtT a b c d) x = hm at *
  generalize hsB a b x = nA at *
  generalize hsB c d x = nB at *
  generalize cfN x (mnL a b c d) = F at *
  generalize mnL a b c d = L at *
  generalize mtF a b c d = mf at *
  generalize mtT a b c d = mt at *
  generalize mtB a b c d = mb at *
  obtain ⟨x0, x1⟩ := hx
  obtain ⟨⟨la0, la1⟩, ⟨lb0, lb1⟩, lh0, lh1⟩ := kl
  clear ha hb hc hd
  subst hmb
  subst hnA hnB
  replace FL : F L.length = 0 := FL
  obtain rfl : hm = true := by simpa using cv1
  obtain rfl := hhx rfl
  clear cv1 hhx
  replace HM := Lib.hid HM
  replace HN := Lib.hid HN
  replace HH := Lib.hid HH
  replace Hhas := Lib.hid Hhas
  replace F0 := Lib.hid F0
  replace Fst := Lib.hid Fst
  replace Fle := Lib.hid Fle
  replace FL := Lib.hid FL
  replace HVA := Lib.hid HVA
  replace HVB := Lib.hid HVB
  replace HMX := Lib.hid HMX
  replace HIA := Lib.hid HIA
  replace HIB := Lib.hid HIB
  replace HHX := Lib.hid HHX
  replace HLH := Lib.hid HLH
  replace HLA := Lib.hid HLA
  replace HLB := Lib.hid HLB
  go_enter Tryd.func8, Tryd.ntmps8
  go_wp2_with fail
  refine (AW.out _ (ht.out.below (grow (grow (here w) _) _))).mono ?_
  rintro e w1 ⟨rfl, hb⟩
  have A1 := Lib.hid (down (grow (grow (here w) _) _) hb)
  have X1 := Lib.hid (Two.fst hb)
  have Y1 := Lib.hid (Two.snd hb)
  clear hb
  obtain ⟨x1_0, x1_1, x1_z⟩ := X1.out
  obtain ⟨y1_0, y1_1, y1_z⟩ := Y1.out
  go_wp2_with fail
  refine (HM.out _ (ht.out.below A1.out)).mono ?_
  rintro e w2 ⟨rfl, hb⟩
  have A2 := Lib.hid (down A1.out hb)
  have X2 := Lib.hid (X1.out.keep hb)
  have Y2 := Lib.hid (Y1.out.keep hb)
  clear hb A1 X1 Y1 x1_0 x1_1 x1_z y1_0 y1_1 y1_z
  obtain ⟨x2_0, x2_1, x2_z⟩ := X2.out
  obtain ⟨y2_0, y2_1, y2_z⟩ := Y2.out
  go_wp2_with fail
  refine (HN.out _ (ht.out.below (grow A2.out _))).mono ?_
  rintro e w3 ⟨⟨v, rfl, Q⟩, hb⟩
  obtain ⟨o, cp, rfl⟩ := Sl.shape Q
  have A3 := Lib.hid (down (grow A2.out _) hb)
  have X3 := Lib.hid ((X2.out.old _).keep hb)
  have Y3 := Lib.hid ((Y2.out.old _).keep hb)
  have M3 := Lib.hid (Two.new hb)
  clear hb A2 X2 Y2 x2_0 x2_1 x2_z y2_0 y2_1 y2_z
  obtain ⟨x3_0, x3_1, x3_z⟩ := X3.out
  obtain ⟨y3_0, y3_1, y3_z⟩ := Y3.out
  obtain ⟨m3_0, m3_1, m3_z⟩ := M3.out
  have Q3 := Lib.hid Q
  clear Q
  clear HN HM AW
  go_wp2
  go_loopw [9, 29] (fun l i wr => ∃ k : Nat, k ≤ L.length ∧ l = .int .i64 (F k) ∧ i = .int .i64 k ∧ Hid (Below w.heap.size w wr) ∧ Hid (Two wr (w.heap.size) (.int .i64 (a)) (.int .i64 (b))) ∧ Hid (Two wr (w.heap.size + 1) (.int .i64 (c)) (.int .i64 (d))) ∧ Hid (Two wr (w2.heap.size) (.int .i64 (mf)) (.int .i64 (mt))) ∧ Hid (PairS 0 wr (.slice o L.length cp) L)) (fun _ i _ => L.length - (intOf i).toNat)
  case atStart => exact ⟨0, Nat.zero_le _, by rw [F0.out]; rfl, rfl, A3.out, X3.out, Y3.out, M3.out, Sl.weak Q3.out (Nat.zero_le _)⟩
  case round =>
    obtain ⟨k, hk, rfl, rfl, HA, HX, HY, HM, HQ⟩ := hrel
    clear x3_0 x3_1 x3_z y3_0 y3_1 y3_z m3_0 m3_1 m3_z A3 X3 Y3 M3 Q3
    by_cases z : k < L.length
    · have kz : decide ((k : Int) < (L.length : Int)) = true := decide_eq_true (by omega)
      obtain ⟨b', off, rfl, bl, cs⟩ := pairs_here HQ.out z
      obtain ⟨c0, c1⟩ := cs k z
      have hh := fun w ht => Hhas.out k z w ht
      have st := Lib.hid (Fst.out k z)
      have fk := Fle.out k
      clear cs Hhas Fst Fle F0 FL
      generalize (L.getD k (0, 0)).1 = p1 at *
      generalize (L.getD k (0, 0)).2 = p2 at *
      obtain ⟨w4, hw4⟩ : ∃ w4 : World, wr.alloc (.cells #[.int .i64 p1, .int .i64 p2] 23) = w4 := ⟨_, rfl⟩
      have A4 : Hid (Below w.heap.size w w4) := by rw [← hw4]; exact grow HA.out _
      have X4 : Hid (Two w4 (w.heap.size) (.int .i64 (a)) (.int .i64 (b))) := by rw [← hw4]; exact HX.out.old _
      have Y4 : Hid (Two w4 (w.heap.size + 1) (.int .i64 (c)) (.int .i64 (d))) := by rw [← hw4]; exact HY.out.old _
      have M4 : Hid (Two w4 (w2.heap.size) (.int .i64 (mf)) (.int .i64 (mt))) := by rw [← hw4]; exact HM.out.old _
      have Q4 : Hid (PairS 0 w4 (.slice (some ⟨b', off, none⟩) L.length cp) L) := by rw [← hw4]; exact HQ.out.keep (grow (here wr) _)
      have S4 : Two w4 wr.heap.size (.int .i64 p1) (.int .i64 p2) := by rw [← hw4]; exact Two.new (here _)
      obtain ⟨s0, s1, sl⟩ := S4
      have hh' := Lib.hid (hh w4 (ht.out.below A4.out))
      clear HA HX HY HM HQ hh
      generalize F k = fk' at *
      cases q : hsB p1 p2 x
      · rw [q] at hh' st
        clear q
        go_wp2_with fail
        refine hh'.out.mono ?_
        rintro e w5 ⟨rfl, hb⟩
        have A5 := Lib.hid (down A4.out hb)
        have X5 := Lib.hid (X4.out.keep hb)
        have Y5 := Lib.hid (Y4.out.keep hb)
        have M5 := Lib.hid (M4.out.keep hb)
        have Q5 := Lib.hid (Q4.out.keep hb)
        clear hb A4 X4 Y4 M4 Q4 s0 s1 sl hh' c0 c1 hw4
        go_wp2
        go_roundw
        case rel => exact ⟨k + 1, by omega, by rw [st.out]; rfl, by go_num, A5, X5, Y5, M5, Q5⟩
        case measure => simp [intOf]; omega
      · rw [q] at hh' st
        clear q
        go_wp2_with fail
        refine hh'.out.mono ?_
        rintro e w5 ⟨rfl, hb⟩
        have A5 := Lib.hid (down A4.out hb)
        have X5 := Lib.hid (X4.out.keep hb)
        have Y5 := Lib.hid (Y4.out.keep hb)
        have M5 := Lib.hid (M4.out.keep hb)
        have Q5 := Lib.hid (Q4.out.keep hb)
        clear hb A4 X4 Y4 M4 Q4 s0 s1 sl hh' c0 c1 hw4
        go_wp2
        go_roundw
        case rel => exact ⟨k + 1, by omega, by rw [st.out]; go_num, by go_num, A5, X5, Y5, M5, Q5⟩
        case measure => simp [intOf]; omega
    · have kz : decide ((k : Int) < (L.length : Int)) = false := decide_eq_false (by omega)
      have fe : Hid (((F k : Nat) : Int) = 0) := by show _ = _; rw [show k = L.length by omega, FL.out]; rfl
      rw [fe.out]
      have A10 := HA
      have X10 := HX
      have Y10 := HY
      have M10 := HM
      clear HA HX HY HM HQ Hhas Fst Fle F0 FL fe
      obtain ⟨w10, hw10⟩ : ∃ u : World, u = wr := ⟨_, rfl⟩
      subst hw10
      obtain ⟨x10_0, x10_1, x10_z⟩ := X10.out
      obtain ⟨y10_0, y10_1, y10_z⟩ := Y10.out
      obtain ⟨m10_0, m10_1, m10_z⟩ := M10.out
      go_wp2_with fail
      refine (HH.out _ (ht.out.below A10.out)).mono ?_
      rintro e w11 ⟨rfl, hb⟩
      have A11 := Lib.hid (down A10.out hb)
      have X11 := Lib.hid (X10.out.keep hb)
      have Y11 := Lib.hid (Y10.out.keep hb)
      have M11 := Lib.hid (M10.out.keep hb)
      clear hb A10 X10 Y10 M10 x10_0 x10_1 x10_z y10_0 y10_1 y10_z m10_0 m10_1 m10_z
      obtain ⟨x11_0, x11_1, x11_z⟩ := X11.out
      obtain ⟨y11_0, y11_1, y11_z⟩ := Y11.out
      obtain ⟨m11_0, m11_1, m11_z⟩ := M11.out
      go_wp2_with fail
      refine (HVA.out _ (ht.out.below (grow A11.out _))).mono ?_
      rintro e w12 ⟨rfl, hb⟩
      have A12 := Lib.hid (down (grow A11.out _) hb)
      have X12 := Lib.hid ((X11.out.old _).keep hb)
      have Y12 := Lib.hid ((Y11.out.old _).keep hb)
      have M12 := Lib.hid ((M11.out.old _).keep hb)
      have H12 := Lib.hid (Two.new hb)
      clear hb A11 X11 Y11 M11 x11_0 x11_1 x11_z y11_0 y11_1 y11_z m11_0 m11_1 m11_z
      obtain ⟨x12_0, x12_1, x12_z⟩ := X12.out
      obtain ⟨y12_0, y12_1, y12_z⟩ := Y12.out
      obtain ⟨m12_0, m12_1, m12_z⟩ := M12.out
      obtain ⟨h12_0, h12_1, h12_z⟩ := H12.out
      go_wp2_with fail
      refine (HVB.out _ (ht.out.below A12.out)).mono ?_
      rintro e w13 ⟨rfl, hb⟩
      have A13 := Lib.hid (down A12.out hb)
      have X13 := Lib.hid (X12.out.keep hb)
      have Y13 := Lib.hid (Y12.out.keep hb)
      have M13 := Lib.hid (M12.out.keep hb)
      have H13 := Lib.hid (H12.out.keep hb)
      clear hb A12 X12 Y12 M12 H12 x12_0 x12_1 x12_z y12_0 y12_1 y12_z m12_0 m12_1 m12_z h12_0 h12_1 h12_z
      obtain ⟨x13_0, x13_1, x13_z⟩ := X13.out
      obtain ⟨y13_0, y13_1, y13_z⟩ := Y13.out
      obtain ⟨m13_0, m13_1, m13_z⟩ := M13.out
      obtain ⟨h13_0, h13_1, h13_z⟩ := H13.out
      go_wp2
      have G1 : Hid (∀ y : Kept w13, _) := fun y => HIA.out y.wd (ht.out.below (down A13.out y.ok))
      have G2 : Hid (∀ y : Kept w13, _) := fun y => HIB.out y.wd (ht.out.below (down A13.out y.ok))
      have kx0 : ∀ x : Kept w13, x.wd.cell? ⟨w.heap.size, 0, none⟩ = some (.int .i64 (a)) := fun x => (X13.out.keep x.ok).c0
      have kx1 : ∀ x : Kept w13, x.wd.cell? ⟨w.heap.size, 1, none⟩ = some (.int .i64 (b)) := fun x => (X13.out.keep x.ok).c1
      have ky0 : ∀ x : Kept w13, x.wd.cell? ⟨w.heap.size + 1, 0, none⟩ = some (.int .i64 (c)) := fun x => (Y13.out.keep x.ok).c0
      have ky1 : ∀ x : Kept w13, x.wd.cell? ⟨w.heap.size + 1, 1, none⟩ = some (.int .i64 (d)) := fun x => (Y13.out.keep x.ok).c1
      have km0 : ∀ x : Kept w13, x.wd.cell? ⟨w2.heap.size, 0, none⟩ = some (.int .i64 (mf)) := fun x => (M13.out.keep x.ok).c0
      have km1 : ∀ x : Kept w13, x.wd.cell? ⟨w2.heap.size, 1, none⟩ = some (.int .i64 (mt)) := fun x => (M13.out.keep x.ok).c1
      have kh0 : ∀ x : Kept w13, x.wd.cell? ⟨w11.heap.size, 0, none⟩ = some (.int .i64 (hf)) := fun x => (H13.out.keep x.ok).c0
      have kh1 : ∀ x : Kept w13, x.wd.cell? ⟨w11.heap.size, 1, none⟩ = some (.int .i64 (hu)) := fun x => (H13.out.keep x.ok).c1
      refine wp_region_kept (by kernel_rfl) (by kernel_rfl) ?_
      repeat (go_big_quiet_step (first
        | (go_at_call 29; with_reducible exact kept_call _ (G1.out _))
        | (go_at_call 29; with_reducible exact kept_call _ (G2.out _))))
      refine wpQuiet_nil ?_
      intro w14 hx
      obtain ⟨⟨xx, hb⟩, hw⟩ := hx
      replace hw : w14 = xx := hw
      subst xx
      clear kx0 kx1 ky0 ky1 km0 km1 kh0 kh1
      have A14 := Lib.hid (down A13.out hb)
      have X14 := Lib.hid (X13.out.keep hb)
      have Y14 := Lib.hid (Y13.out.keep hb)
      have M14 := Lib.hid (M13.out.keep hb)
      have H14 := Lib.hid (H13.out.keep hb)
      clear hb A13 X13 Y13 M13 H13 x13_0 x13_1 x13_z y13_0 y13_1 y13_z m13_0 m13_1 m13_z h13_0 h13_1 h13_z
      obtain ⟨x14_0, x14_1, x14_z⟩ := X14.out
      obtain ⟨y14_0, y14_1, y14_z⟩ := Y14.out
      obtain ⟨m14_0, m14_1, m14_z⟩ := M14.out
      obtain ⟨h14_0, h14_1, h14_z⟩ := H14.out
      clear G1 G2
      go_wp2_with fail
      refine (HMX.out _ (ht.out.below A14.out)).mono ?_
      rintro e w15 ⟨rfl, hb⟩
      have A15 := Lib.hid (down A14.out hb)
      have X15 := Lib.hid (X14.out.keep hb)
      have Y15 := Lib.hid (Y14.out.keep hb)
      have M15 := Lib.hid (M14.out.keep hb)
      have H15 := Lib.hid (H14.out.keep hb)
      clear hb A14 X14 Y14 M14 H14 x14_0 x14_1 x14_z y14_0 y14_1 y14_z m14_0 m14_1 m14_z h14_0 h14_1 h14_z
      obtain ⟨x15_0, x15_1, x15_z⟩ := X15.out
      obtain ⟨y15_0, y15_1, y15_z⟩ := Y15.out
      obtain ⟨m15_0, m15_1, m15_z⟩ := M15.out
      obtain ⟨h15_0, h15_1, h15_z⟩ := H15.out
      go_upto_region 17 with (fail)
      rcases ends with ⟨u1, v1⟩ | ⟨u1, u2, v1⟩ | ⟨u1, v1, v2⟩ | ⟨u1, u2, v1, v2⟩
      all_goals
        go_wp2
        have G3 : Hid (∀ y : Kept w15, _) := fun y => HHX.out y.wd (ht.out.below (down A15.out y.ok))
        have G4 : Hid (∀ y : Kept w15, _) := fun y => HLH.out y.wd (ht.out.below (down A15.out y.ok))
        have G5 : Hid (∀ y : Kept w15, _) := fun y => HLA.out y.wd (ht.out.below (down A15.out y.ok))
        have G6 : Hid (∀ y : Kept w15, _) := fun y => HLB.out y.wd (ht.out.below (down A15.out y.ok))
        have kx0 : ∀ x : Kept w15, x.wd.cell? ⟨w.heap.size, 0, none⟩ = some (.int .i64 (a)) := fun x => (X15.out.keep x.ok).c0
        have kx1 : ∀ x : Kept w15, x.wd.cell? ⟨w.heap.size, 1, none⟩ = some (.int .i64 (b)) := fun x => (X15.out.keep x.ok).c1
        have ky0 : ∀ x : Kept w15, x.wd.cell? ⟨w.heap.size + 1, 0, none⟩ = some (.int .i64 (c)) := fun x => (Y15.out.keep x.ok).c0
        have ky1 : ∀ x : Kept w15, x.wd.cell? ⟨w.heap.size + 1, 1, none⟩ = some (.int .i64 (d)) := fun x => (Y15.out.keep x.ok).c1
        have km0 : ∀ x : Kept w15, x.wd.cell? ⟨w2.heap.size, 0, none⟩ = some (.int .i64 (mf)) := fun x => (M15.out.keep x.ok).c0
        have km1 : ∀ x : Kept w15, x.wd.cell? ⟨w2.heap.size, 1, none⟩ = some (.int .i64 (mt)) := fun x => (M15.out.keep x.ok).c1
        have kh0 : ∀ x : Kept w15, x.wd.cell? ⟨w11.heap.size, 0, none⟩ = some (.int .i64 (hf)) := fun x => (H15.out.keep x.ok).c0
        have kh1 : ∀ x : Kept w15, x.wd.cell? ⟨w11.heap.size, 1, none⟩ = some (.int .i64 (hu)) := fun x => (H15.out.keep x.ok).c1
        refine wp_region_kept (by kernel_rfl) (by kernel_rfl) ?_
        repeat (go_big_quiet_step (first
          | (go_at_call 29; first | (with_reducible exact kept_call _ (G3.out _)) | exact kept_call _ (G3.out _))
          | (go_at_call 30; with_reducible exact kept_call _ (G4.out _))
          | (go_at_call 30; with_reducible exact kept_call _ (G5.out _))
          | (go_at_call 30; with_reducible exact kept_call _ (G6.out _))))
        refine wpQuiet_nil ?_
        intro w16 hx
        obtain ⟨⟨xx, hb⟩, hw⟩ := hx
        replace hw : w16 = xx := hw
        subst xx
        clear kx0 kx1 ky0 ky1 km0 km1 kh0 kh1
        have A16 := Lib.hid (down A15.out hb)
        have X16 := Lib.hid (X15.out.keep hb)
        have Y16 := Lib.hid (Y15.out.keep hb)
        have M16 := Lib.hid (M15.out.keep hb)
        have H16 := Lib.hid (H15.out.keep hb)
        clear hb A15 X15 Y15 M15 H15 x15_0 x15_1 x15_z y15_0 y15_1 y15_z m15_0 m15_1 m15_z h15_0 h15_1 h15_z
        obtain ⟨x16_0, x16_1, x16_z⟩ := X16.out
        obtain ⟨y16_0, y16_1, y16_z⟩ := Y16.out
        obtain ⟨m16_0, m16_1, m16_z⟩ := M16.out
        obtain ⟨h16_0, h16_1, h16_z⟩ := H16.out
        go_wp2
        go_ret
        exact ⟨rfl, by first | exact A16.out | exact grow A16.out _ | exact below_drewN A16.out _ | exact grow (grow A16.out _) _ | exact grow (grow (grow A16.out _) _) _⟩
set_option maxRecDepth 100000 in
set_option maxHeartbeats 4000000 in
theorem cov_110 (a b c d x : Int) (ha : I64 a) (hb : I64 b) (hc : I64 c) (hd : I64 d) (hx : I64 x) (va : ivB a b = true) (vb : ivB c d = true) (hmb : mtB a b c d = true) (hnA : hsB a b x = true) (hnB : hsB c d x = false) (w : World) (ht : Tabs w) :
    Calls Tryd.prog 8 #[.agg #[.int .i64 a, .int .i64 b], .agg #[.int .i64 c, .int .i64 d], .int .i64 x] w fun e w' => e = .returned (.bool true) ∧ Below w.heap.size w w' := by
  have AW := Lib.hid (fun w ht => awake_all w ht)
  replace ht := Lib.hid ht
  have wfL := mn_wf ha hb hc hd
  have HM := fun w ht => uvmeet a b c d ha hb hc hd w ht
  have HN := fun w ht => uvminus a b c d ha hb hc hd w ht
  have HH := fun w ht => uvhull a b c d ha hb hc hd w ht
  have HVA := fun w ht => uvvalid a b ha hb w ht
  have HVB := fun w ht => uvvalid c d hc hd w ht
  have Hhas := fun k (hk : k < (mnL a b c d).length) w ht => uvhas ((mnL a b c d).getD k (0, 0)).1 ((mnL a b c d).getD k (0, 0)).2 (wfL k hk).1 (wfL k hk).2 x hx w ht
  have F0 : cfN x (mnL a b c d) 0 = 0 := rfl
  have Fst := fun k (hk : k < (mnL a b c d).length) => cf_step x (mnL a b c d) hk
  have n2 : (mnL a b c d).length ≤ 2 := by
    unfold mnL mnA mnZ
    split
    · rw [List.length_append]; split <;> split <;> simp
    · simp
  have Fle := fun k => Nat.le_trans (cf_le x (mnL a b c d) k) n2
  have FL : cfN x (mnL a b c d) (mnL a b c d).length = ((mnL a b c d).filter (fun p => hsB p.1 p.2 x)).length := by unfold cfN; rw [List.take_length]
  have va' := va
  obtain ⟨i1, i2, i3⟩ := ivB_iff.1 va
  obtain ⟨j1, j2, j3⟩ := ivB_iff.1 vb
  obtain ⟨cv1, cv2⟩ := iv_covers va vb x
  have e1 : hlF a b c d = hiV a c := by unfold hlF; rw [va, vb]; rfl
  have e2 : hlT a b c d = loV b d := by unfold hlT; rw [va, vb]; rfl
  have e3 : hlE a b c d = 0 := by unfold hlE; rw [va, vb]; rfl
  have b1 := hiV_bd a c
  have b2 := loV_bd b d
  rw [cv2] at FL
  rw [e1, e2, e3] at HH
  rw [va] at HVA
  rw [vb] at HVB
  have wm : I64 (mtF a b c d) ∧ I64 (mtT a b c d) := by
    have q1 := loV_bd a c
    have q2 := hiV_bd b d
    unfold mtF mtT I64
    split <;> omega
  have HMX := fun w ht => uvhas (mtF a b c d) (mtT a b c d) wm.1 wm.2 x hx w ht
  have HIA := fun w ht => uvhas a b ha hb x hx w ht
  have HIB := fun w ht => uvhas c d hc hd x hx w ht
  have HHX := fun w ht => uvhas (hiV a c) (loV b d) ⟨by omega, by omega⟩ ⟨by omega, by omega⟩ x hx w ht
  have HLH := fun w ht => uvlen (hiV a c) (loV b d) ⟨by omega, by omega⟩ ⟨by omega, by omega⟩ w ht
  have HLA := fun w ht => uvlen a b ha hb w ht
  have HLB := fun w ht => uvlen c d hc hd w ht
  have vh : ivB (hiV a c) (loV b d) = true := ivB_iff.2 (by omega)
  have l1 : lnV (hiV a c) (loV b d) = loV b d - hiV a c := by unfold lnV; rw [vh]; rfl
  have l2 : lnV a b = b - a := by unfold lnV; rw [va]; rfl
  have l3 : lnV c d = d - c := by unfold lnV; rw [vb]; rfl
  have hhx : (hsB a b x || hsB c d x) = true → hsB (hiV a c) (loV b d) x = true := by
    rw [Bool.or_eq_true, hsB_iff, hsB_iff, hsB_iff]
    rintro (q | q) <;> exact ⟨vh, by omega, by omega⟩
  have ends : ((hiV a c == a) = true ∧ (loV b d == b) = true) ∨ ((hiV a c == a) = false ∧ (hiV a c == c) = true ∧ (loV b d == b) = true) ∨ ((hiV a c == a) = true ∧ (loV b d == b) = false ∧ (loV b d == d) = true) ∨ ((hiV a c == a) = false ∧ (hiV a c == c) = true ∧ (loV b d == b) = false ∧ (loV b d == d) = true) := by
    simp only [beq_iff_eq, beq_eq_false_iff_ne]
    omega
  obtain ⟨Mx, hM⟩ : ∃ Mx, (if lnV a b < lnV c d then lnV c d else lnV a b) = Mx := ⟨_, rfl⟩
  have hM' : max (lnV a b) (lnV c d) = Mx := by rw [← hM]; split <;> omega
  have kM : decide (Mx ≤ lnV (hiV a c) (loV b d)) = true := by
    refine decide_eq_true ?_
    rw [← hM, l1, l2, l3]
    split <;> omega
  have kl : I64 (lnV a b) ∧ I64 (lnV c d) ∧ I64 (lnV (hiV a c) (loV b d)) := by rw [l1, l2, l3]; unfold I64; omega
  clear wfL wm l1 l2 l3 vh va' e1 e2 e3 cv2 b1 b2 i1 i2 i3 j1 j2 j3 va vb
  generalize hsB (hiV a c) (loV b d) x = hh at *
  generalize lnV (hiV a c) (loV b d) = lh at *
  generalize lnV a b = la at *
  generalize lnV c d = lb at *
  generalize hiV a c = hf at *
  generalize loV b d = hu at *
  generalize hsB (mtF a b c d) (mtT a b c d) x = hm at *
  generalize hsB a b x = nA at *
  generalize hsB c d x = nB at *
  generalize cfN x (mnL a b c d) = F at *
  generalize mnL a b c d = L at *
  generalize mtF a b c d = mf at *
  generalize mtT a b c d = mt at *
  generalize mtB a b c d = mb at *
  obtain ⟨x0, x1⟩ := hx
  obtain ⟨⟨la0, la1⟩, ⟨lb0, lb1⟩, lh0, lh1⟩ := kl
  clear ha hb hc hd
  subst hmb
  subst hnA hnB
  replace FL : F L.length = 1 := FL
  obtain rfl : hm = false := by simpa using cv1
  obtain rfl := hhx rfl
  clear cv1 hhx
  replace HM := Lib.hid HM
  replace HN := Lib.hid HN
  replace HH := Lib.hid HH
  replace Hhas := Lib.hid Hhas
  replace F0 := Lib.hid F0
  replace Fst := Lib.hid Fst
  replace Fle := Lib.hid Fle
  replace FL := Lib.hid FL
  replace HVA := Lib.hid HVA
  replace HVB := Lib.hid HVB
  replace HMX := Lib.hid HMX
  replace HIA := Lib.hid HIA
  replace HIB := Lib.hid HIB
  replace HHX := Lib.hid HHX
  replace HLH := Lib.hid HLH
  replace HLA := Lib.hid HLA
  replace HLB := Lib.hid HLB
  go_enter Tryd.func8, Tryd.ntmps8
  go_wp2_with fail
  refine (AW.out _ (ht.out.below (grow (grow (here w) _) _))).mono ?_
  rintro e w1 ⟨rfl, hb⟩
  have A1 := Lib.hid (down (grow (grow (here w) _) _) hb)
  have X1 := Lib.hid (Two.fst hb)
  have Y1 := Lib.hid (Two.snd hb)
  clear hb
  obtain ⟨x1_0, x1_1, x1_z⟩ := X1.out
  obtain ⟨y1_0, y1_1, y1_z⟩ := Y1.out
  go_wp2_with fail
  refine (HM.out _ (ht.out.below A1.out)).mono ?_
  rintro e w2 ⟨rfl, hb⟩
  have A2 := Lib.hid (down A1.out hb)
  have X2 := Lib.hid (X1.out.keep hb)
  have Y2 := Lib.hid (Y1.out.keep hb)
  clear hb A1 X1 Y1 x1_0 x1_1 x1_z y1_0 y1_1 y1_z
  obtain ⟨x2_0, x2_1, x2_z⟩ := X2.out
  obtain ⟨y2_0, y2_1, y2_z⟩ := Y2.out
  go_wp2_with fail
  refine (HN.out _ (ht.out.below (grow A2.out _))).mono ?_
  rintro e w3 ⟨⟨v, rfl, Q⟩, hb⟩
  obtain ⟨o, cp, rfl⟩ := Sl.shape Q
  have A3 := Lib.hid (down (grow A2.out _) hb)
  have X3 := Lib.hid ((X2.out.old _).keep hb)
  have Y3 := Lib.hid ((Y2.out.old _).keep hb)
  have M3 := Lib.hid (Two.new hb)
  clear hb A2 X2 Y2 x2_0 x2_1 x2_z y2_0 y2_1 y2_z
  obtain ⟨x3_0, x3_1, x3_z⟩ := X3.out
  obtain ⟨y3_0, y3_1, y3_z⟩ := Y3.out
  obtain ⟨m3_0, m3_1, m3_z⟩ := M3.out
  have Q3 := Lib.hid Q
  clear Q
  clear HN HM AW
  go_wp2
  go_loopw [9, 29] (fun l i wr => ∃ k : Nat, k ≤ L.length ∧ l = .int .i64 (F k) ∧ i = .int .i64 k ∧ Hid (Below w.heap.size w wr) ∧ Hid (Two wr (w.heap.size) (.int .i64 (a)) (.int .i64 (b))) ∧ Hid (Two wr (w.heap.size + 1) (.int .i64 (c)) (.int .i64 (d))) ∧ Hid (Two wr (w2.heap.size) (.int .i64 (mf)) (.int .i64 (mt))) ∧ Hid (PairS 0 wr (.slice o L.length cp) L)) (fun _ i _ => L.length - (intOf i).toNat)
  case atStart => exact ⟨0, Nat.zero_le _, by rw [F0.out]; rfl, rfl, A3.out, X3.out, Y3.out, M3.out, Sl.weak Q3.out (Nat.zero_le _)⟩
  case round =>
    obtain ⟨k, hk, rfl, rfl, HA, HX, HY, HM, HQ⟩ := hrel
    clear x3_0 x3_1 x3_z y3_0 y3_1 y3_z m3_0 m3_1 m3_z A3 X3 Y3 M3 Q3
    by_cases z : k < L.length
    · have kz : decide ((k : Int) < (L.length : Int)) = true := decide_eq_true (by omega)
      obtain ⟨b', off, rfl, bl, cs⟩ := pairs_here HQ.out z
      obtain ⟨c0, c1⟩ := cs k z
      have hh := fun w ht => Hhas.out k z w ht
      have st := Lib.hid (Fst.out k z)
      have fk := Fle.out k
      clear cs Hhas Fst Fle F0 FL
      generalize (L.getD k (0, 0)).1 = p1 at *
      generalize (L.getD k (0, 0)).2 = p2 at *
      obtain ⟨w4, hw4⟩ : ∃ w4 : World, wr.alloc (.cells #[.int .i64 p1, .int .i64 p2] 23) = w4 := ⟨_, rfl⟩
      have A4 : Hid (Below w.heap.size w w4) := by rw [← hw4]; exact grow HA.out _
      have X4 : Hid (Two w4 (w.heap.size) (.int .i64 (a)) (.int .i64 (b))) := by rw [← hw4]; exact HX.out.old _
      have Y4 : Hid (Two w4 (w.heap.size + 1) (.int .i64 (c)) (.int .i64 (d))) := by rw [← hw4]; exact HY.out.old _
      have M4 : Hid (Two w4 (w2.heap.size) (.int .i64 (mf)) (.int .i64 (mt))) := by rw [← hw4]; exact HM.out.old _
      have Q4 : Hid (PairS 0 w4 (.slice (some ⟨b', off, none⟩) L.length cp) L) := by rw [← hw4]; exact HQ.out.keep (grow (here wr) _)
      have S4 : Two w4 wr.heap.size (.int .i64 p1) (.int .i64 p2) := by rw [← hw4]; exact Two.new (here _)
      obtain ⟨s0, s1, sl⟩ := S4
      have hh' := Lib.hid (hh w4 (ht.out.below A4.out))
      clear HA HX HY HM HQ hh
      generalize F k = fk' at *
      cases q : hsB p1 p2 x
      · rw [q] at hh' st
        clear q
        go_wp2_with fail
        refine hh'.out.mono ?_
        rintro e w5 ⟨rfl, hb⟩
        have A5 := Lib.hid (down A4.out hb)
        have X5 := Lib.hid (X4.out.keep hb)
        have Y5 := Lib.hid (Y4.out.keep hb)
        have M5 := Lib.hid (M4.out.keep hb)
        have Q5 := Lib.hid (Q4.out.keep hb)
        clear hb A4 X4 Y4 M4 Q4 s0 s1 sl hh' c0 c1 hw4
        go_wp2
        go_roundw
        case rel => exact ⟨k + 1, by omega, by rw [st.out]; rfl, by go_num, A5, X5, Y5, M5, Q5⟩
        case measure => simp [intOf]; omega
      · rw [q] at hh' st
        clear q
        go_wp2_with fail
        refine hh'.out.mono ?_
        rintro e w5 ⟨rfl, hb⟩
        have A5 := Lib.hid (down A4.out hb)
        have X5 := Lib.hid (X4.out.keep hb)
        have Y5 := Lib.hid (Y4.out.keep hb)
        have M5 := Lib.hid (M4.out.keep hb)
        have Q5 := Lib.hid (Q4.out.keep hb)
        clear hb A4 X4 Y4 M4 Q4 s0 s1 sl hh' c0 c1 hw4
        go_wp2
        go_roundw
        case rel => exact ⟨k + 1, by omega, by rw [st.out]; go_num, by go_num, A5, X5, Y5, M5, Q5⟩
        case measure => simp [intOf]; omega
    · have kz : decide ((k : Int) < (L.length : Int)) = false := decide_eq_false (by omega)
      have fe : Hid (((F k : Nat) : Int) = 1) := by show _ = _; rw [show k = L.length by omega, FL.out]; rfl
      rw [fe.out]
      have A10 := HA
      have X10 := HX
      have Y10 := HY
      have M10 := HM
      clear HA HX HY HM HQ Hhas Fst Fle F0 FL fe
      obtain ⟨w10, hw10⟩ : ∃ u : World, u = wr := ⟨_, rfl⟩
      subst hw10
      obtain ⟨x10_0, x10_1, x10_z⟩ := X10.out
      obtain ⟨y10_0, y10_1, y10_z⟩ := Y10.out
      obtain ⟨m10_0, m10_1, m10_z⟩ := M10.out
      go_wp2_with fail
      refine (HH.out _ (ht.out.below A10.out)).mono ?_
      rintro e w11 ⟨rfl, hb⟩
      have A11 := Lib.hid (down A10.out hb)
      have X11 := Lib.hid (X10.out.keep hb)
      have Y11 := Lib.hid (Y10.out.keep hb)
      have M11 := Lib.hid (M10.out.keep hb)
      clear hb A10 X10 Y10 M10 x10_0 x10_1 x10_z y10_0 y10_1 y10_z m10_0 m10_1 m10_z
      obtain ⟨x11_0, x11_1, x11_z⟩ := X11.out
      obtain ⟨y11_0, y11_1, y11_z⟩ := Y11.out
      obtain ⟨m11_0, m11_1, m11_z⟩ := M11.out
      go_wp2_with fail
      refine (HVA.out _ (ht.out.below (grow A11.out _))).mono ?_
      rintro e w12 ⟨rfl, hb⟩
      have A12 := Lib.hid (down (grow A11.out _) hb)
      have X12 := Lib.hid ((X11.out.old _).keep hb)
      have Y12 := Lib.hid ((Y11.out.old _).keep hb)
      have M12 := Lib.hid ((M11.out.old _).keep hb)
      have H12 := Lib.hid (Two.new hb)
      clear hb A11 X11 Y11 M11 x11_0 x11_1 x11_z y11_0 y11_1 y11_z m11_0 m11_1 m11_z
      obtain ⟨x12_0, x12_1, x12_z⟩ := X12.out
      obtain ⟨y12_0, y12_1, y12_z⟩ := Y12.out
      obtain ⟨m12_0, m12_1, m12_z⟩ := M12.out
      obtain ⟨h12_0, h12_1, h12_z⟩ := H12.out
      go_wp2_with fail
      refine (HVB.out _ (ht.out.below A12.out)).mono ?_
      rintro e w13 ⟨rfl, hb⟩
      have A13 := Lib.hid (down A12.out hb)
      have X13 := Lib.hid (X12.out.keep hb)
      have Y13 := Lib.hid (Y12.out.keep hb)
      have M13 := Lib.hid (M12.out.keep hb)
      have H13 := Lib.hid (H12.out.keep hb)
      clear hb A12 X12 Y12 M12 H12 x12_0 x12_1 x12_z y12_0 y12_1 y12_z m12_0 m12_1 m12_z h12_0 h12_1 h12_z
      obtain ⟨x13_0, x13_1, x13_z⟩ := X13.out
      obtain ⟨y13_0, y13_1, y13_z⟩ := Y13.out
      obtain ⟨m13_0, m13_1, m13_z⟩ := M13.out
      obtain ⟨h13_0, h13_1, h13_z⟩ := H13.out
      go_wp2
      have G1 : Hid (∀ y : Kept w13, _) := fun y => HIA.out y.wd (ht.out.below (down A13.out y.ok))
      have G2 : Hid (∀ y : Kept w13, _) := fun y => HIB.out y.wd (ht.out.below (down A13.out y.ok))
      have kx0 : ∀ x : Kept w13, x.wd.cell? ⟨w.heap.size, 0, none⟩ = some (.int .i64 (a)) := fun x => (X13.out.keep x.ok).c0
      have kx1 : ∀ x : Kept w13, x.wd.cell? ⟨w.heap.size, 1, none⟩ = some (.int .i64 (b)) := fun x => (X13.out.keep x.ok).c1
      have ky0 : ∀ x : Kept w13, x.wd.cell? ⟨w.heap.size + 1, 0, none⟩ = some (.int .i64 (c)) := fun x => (Y13.out.keep x.ok).c0
      have ky1 : ∀ x : Kept w13, x.wd.cell? ⟨w.heap.size + 1, 1, none⟩ = some (.int .i64 (d)) := fun x => (Y13.out.keep x.ok).c1
      have km0 : ∀ x : Kept w13, x.wd.cell? ⟨w2.heap.size, 0, none⟩ = some (.int .i64 (mf)) := fun x => (M13.out.keep x.ok).c0
      have km1 : ∀ x : Kept w13, x.wd.cell? ⟨w2.heap.size, 1, none⟩ = some (.int .i64 (mt)) := fun x => (M13.out.keep x.ok).c1
      have kh0 : ∀ x : Kept w13, x.wd.cell? ⟨w11.heap.size, 0, none⟩ = some (.int .i64 (hf)) := fun x => (H13.out.keep x.ok).c0
      have kh1 : ∀ x : Kept w13, x.wd.cell? ⟨w11.heap.size, 1, none⟩ = some (.int .i64 (hu)) := fun x => (H13.out.keep x.ok).c1
      refine wp_region_kept (by kernel_rfl) (by kernel_rfl) ?_
      repeat (go_big_quiet_step (first
        | (go_at_call 29; with_reducible exact kept_call _ (G1.out _))
        | (go_at_call 29; with_reducible exact kept_call _ (G2.out _))))
      refine wpQuiet_nil ?_
      intro w14 hx
      obtain ⟨⟨xx, hb⟩, hw⟩ := hx
      replace hw : w14 = xx := hw
      subst xx
      clear kx0 kx1 ky0 ky1 km0 km1 kh0 kh1
      have A14 := Lib.hid (down A13.out hb)
      have X14 := Lib.hid (X13.out.keep hb)
      have Y14 := Lib.hid (Y13.out.keep hb)
      have M14 := Lib.hid (M13.out.keep hb)
      have H14 := Lib.hid (H13.out.keep hb)
      clear hb A13 X13 Y13 M13 H13 x13_0 x13_1 x13_z y13_0 y13_1 y13_z m13_0 m13_1 m13_z h13_0 h13_1 h13_z
      obtain ⟨x14_0, x14_1, x14_z⟩ := X14.out
      obtain ⟨y14_0, y14_1, y14_z⟩ := Y14.out
      obtain ⟨m14_0, m14_1, m14_z⟩ := M14.out
      obtain ⟨h14_0, h14_1, h14_z⟩ := H14.out
      clear G1 G2
      go_wp2_with fail
      refine (HMX.out _ (ht.out.below A14.out)).mono ?_
      rintro e w15 ⟨rfl, hb⟩
      have A15 := Lib.hid (down A14.out hb)
      have X15 := Lib.hid (X14.out.keep hb)
      have Y15 := Lib.hid (Y14.out.keep hb)
      have M15 := Lib.hid (M14.out.keep hb)
      have H15 := Lib.hid (H14.out.keep hb)
      clear hb A14 X14 Y14 M14 H14 x14_0 x14_1 x14_z y14_0 y14_1 y14_z m14_0 m14_1 m14_z h14_0 h14_1 h14_z
      obtain ⟨x15_0, x15_1, x15_z⟩ := X15.out
      obtain ⟨y15_0, y15_1, y15_z⟩ := Y15.out
      obtain ⟨m15_0, m15_1, m15_z⟩ := M15.out
      obtain ⟨h15_0, h15_1, h15_z⟩ := H15.out
      go_upto_region 17 with (fail)
      rcases ends with ⟨u1, v1⟩ | ⟨u1, u2, v1⟩ | ⟨u1, v1, v2⟩ | ⟨u1, u2, v1, v2⟩
      all_goals
        go_wp2
        have G3 : Hid (∀ y : Kept w15, _) := fun y => HHX.out y.wd (ht.out.below (down A15.out y.ok))
        have G4 : Hid (∀ y : Kept w15, _) := fun y => HLH.out y.wd (ht.out.below (down A15.out y.ok))
        have G5 : Hid (∀ y : Kept w15, _) := fun y => HLA.out y.wd (ht.out.below (down A15.out y.ok))
        have G6 : Hid (∀ y : Kept w15, _) := fun y => HLB.out y.wd (ht.out.below (down A15.out y.ok))
        have kx0 : ∀ x : Kept w15, x.wd.cell? ⟨w.heap.size, 0, none⟩ = some (.int .i64 (a)) := fun x => (X15.out.keep x.ok).c0
        have kx1 : ∀ x : Kept w15, x.wd.cell? ⟨w.heap.size, 1, none⟩ = some (.int .i64 (b)) := fun x => (X15.out.keep x.ok).c1
        have ky0 : ∀ x : Kept w15, x.wd.cell? ⟨w.heap.size + 1, 0, none⟩ = some (.int .i64 (c)) := fun x => (Y15.out.keep x.ok).c0
        have ky1 : ∀ x : Kept w15, x.wd.cell? ⟨w.heap.size + 1, 1, none⟩ = some (.int .i64 (d)) := fun x => (Y15.out.keep x.ok).c1
        have km0 : ∀ x : Kept w15, x.wd.cell? ⟨w2.heap.size, 0, none⟩ = some (.int .i64 (mf)) := fun x => (M15.out.keep x.ok).c0
        have km1 : ∀ x : Kept w15, x.wd.cell? ⟨w2.heap.size, 1, none⟩ = some (.int .i64 (mt)) := fun x => (M15.out.keep x.ok).c1
        have kh0 : ∀ x : Kept w15, x.wd.cell? ⟨w11.heap.size, 0, none⟩ = some (.int .i64 (hf)) := fun x => (H15.out.keep x.ok).c0
        have kh1 : ∀ x : Kept w15, x.wd.cell? ⟨w11.heap.size, 1, none⟩ = some (.int .i64 (hu)) := fun x => (H15.out.keep x.ok).c1
        refine wp_region_kept (by kernel_rfl) (by kernel_rfl) ?_
        repeat (go_big_quiet_step (first
          | (go_at_call 29; first | (with_reducible exact kept_call _ (G3.out _)) | exact kept_call _ (G3.out _))
          | (go_at_call 30; with_reducible exact kept_call _ (G4.out _))
          | (go_at_call 30; with_reducible exact kept_call _ (G5.out _))
          | (go_at_call 30; with_reducible exact kept_call _ (G6.out _))))
        refine wpQuiet_nil ?_
        intro w16 hx
        obtain ⟨⟨xx, hb⟩, hw⟩ := hx
        replace hw : w16 = xx := hw
        subst xx
        clear kx0 kx1 ky0 ky1 km0 km1 kh0 kh1
        have A16 := Lib.hid (down A15.out hb)
        have X16 := Lib.hid (X15.out.keep hb)
        have Y16 := Lib.hid (Y15.out.keep hb)
        have M16 := Lib.hid (M15.out.keep hb)
        have H16 := Lib.hid (H15.out.keep hb)
        clear hb A15 X15 Y15 M15 H15 x15_0 x15_1 x15_z y15_0 y15_1 y15_z m15_0 m15_1 m15_z h15_0 h15_1 h15_z
        obtain ⟨x16_0, x16_1, x16_z⟩ := X16.out
        obtain ⟨y16_0, y16_1, y16_z⟩ := Y16.out
        obtain ⟨m16_0, m16_1, m16_z⟩ := M16.out
        obtain ⟨h16_0, h16_1, h16_z⟩ := H16.out
        go_wp2
        go_ret
        exact ⟨rfl, by first | exact A16.out | exact grow A16.out _ | exact below_drewN A16.out _ | exact grow (grow A16.out _) _ | exact grow (grow (grow A16.out _) _) _⟩
set_option maxRecDepth 100000 in
set_option maxHeartbeats 4000000 in
theorem cov_101 (a b c d x : Int) (ha : I64 a) (hb : I64 b) (hc : I64 c) (hd : I64 d) (hx : I64 x) (va : ivB a b = true) (vb : ivB c d = true) (hmb : mtB a b c d = true) (hnA : hsB a b x = false) (hnB : hsB c d x = true) (w : World) (ht : Tabs w) :
    Calls Tryd.prog 8 #[.agg #[.int .i64 a, .int .i64 b], .agg #[.int .i64 c, .int .i64 d], .int .i64 x] w fun e w' => e = .returned (.bool true) ∧ Below w.heap.size w w' := by
  have AW := Lib.hid (fun w ht => awake_all w ht)
  replace ht := Lib.hid ht
  have wfL := mn_wf ha hb hc hd
  have HM := fun w ht => uvmeet a b c d ha hb hc hd w ht
  have HN := fun w ht => uvminus a b c d ha hb hc hd w ht
  have HH := fun w ht => uvhull a b c d ha hb hc hd w ht
  have HVA := fun w ht => uvvalid a b ha hb w ht
  have HVB := fun w ht => uvvalid c d hc hd w ht
  have Hhas := fun k (hk : k < (mnL a b c d).length) w ht => uvhas ((mnL a b c d).getD k (0, 0)).1 ((mnL a b c d).getD k (0, 0)).2 (wfL k hk).1 (wfL k hk).2 x hx w ht
  have F0 : cfN x (mnL a b c d) 0 = 0 := rfl
  have Fst := fun k (hk : k < (mnL a b c d).length) => cf_step x (mnL a b c d) hk
  have n2 : (mnL a b c d).length ≤ 2 := by
    unfold mnL mnA mnZ
    split
    · rw [List.length_append]; split <;> split <;> simp
    · simp
  have Fle := fun k => Nat.le_trans (cf_le x (mnL a b c d) k) n2
  have FL : cfN x (mnL a b c d) (mnL a b c d).length = ((mnL a b c d).filter (fun p => hsB p.1 p.2 x)).length := by unfold cfN; rw [List.take_length]
  have va' := va
  obtain ⟨i1, i2, i3⟩ := ivB_iff.1 va
  obtain ⟨j1, j2, j3⟩ := ivB_iff.1 vb
  obtain ⟨cv1, cv2⟩ := iv_covers va vb x
  have e1 : hlF a b c d = hiV a c := by unfold hlF; rw [va, vb]; rfl
  have e2 : hlT a b c d = loV b d := by unfold hlT; rw [va, vb]; rfl
  have e3 : hlE a b c d = 0 := by unfold hlE; rw [va, vb]; rfl
  have b1 := hiV_bd a c
  have b2 := loV_bd b d
  rw [cv2] at FL
  rw [e1, e2, e3] at HH
  rw [va] at HVA
  rw [vb] at HVB
  have wm : I64 (mtF a b c d) ∧ I64 (mtT a b c d) := by
    have q1 := loV_bd a c
    have q2 := hiV_bd b d
    unfold mtF mtT I64
    split <;> omega
  have HMX := fun w ht => uvhas (mtF a b c d) (mtT a b c d) wm.1 wm.2 x hx w ht
  have HIA := fun w ht => uvhas a b ha hb x hx w ht
  have HIB := fun w ht => uvhas c d hc hd x hx w ht
  have HHX := fun w ht => uvhas (hiV a c) (loV b d) ⟨by omega, by omega⟩ ⟨by omega, by omega⟩ x hx w ht
  have HLH := fun w ht => uvlen (hiV a c) (loV b d) ⟨by omega, by omega⟩ ⟨by omega, by omega⟩ w ht
  have HLA := fun w ht => uvlen a b ha hb w ht
  have HLB := fun w ht => uvlen c d hc hd w ht
  have vh : ivB (hiV a c) (loV b d) = true := ivB_iff.2 (by omega)
  have l1 : lnV (hiV a c) (loV b d) = loV b d - hiV a c := by unfold lnV; rw [vh]; rfl
  have l2 : lnV a b = b - a := by unfold lnV; rw [va]; rfl
  have l3 : lnV c d = d - c := by unfold lnV; rw [vb]; rfl
  have hhx : (hsB a b x || hsB c d x) = true → hsB (hiV a c) (loV b d) x = true := by
    rw [Bool.or_eq_true, hsB_iff, hsB_iff, hsB_iff]
    rintro (q | q) <;> exact ⟨vh, by omega, by omega⟩
  have ends : ((hiV a c == a) = true ∧ (loV b d == b) = true) ∨ ((hiV a c == a) = false ∧ (hiV a c == c) = true ∧ (loV b d == b) = true) ∨ ((hiV a c == a) = true ∧ (loV b d == b) = false ∧ (loV b d == d) = true) ∨ ((hiV a c == a) = false ∧ (hiV a c == c) = true ∧ (loV b d == b) = false ∧ (loV b d == d) = true) := by
    simp only [beq_iff_eq, beq_eq_false_iff_ne]
    omega
  obtain ⟨Mx, hM⟩ : ∃ Mx, (if lnV a b < lnV c d then lnV c d else lnV a b) = Mx := ⟨_, rfl⟩
  have hM' : max (lnV a b) (lnV c d) = Mx := by rw [← hM]; split <;> omega
  have kM : decide (Mx ≤ lnV (hiV a c) (loV b d)) = true := by
    refine decide_eq_true ?_
    rw [← hM, l1, l2, l3]
    split <;> omega
  have kl : I64 (lnV a b) ∧ I64 (lnV c d) ∧ I64 (lnV (hiV a c) (loV b d)) := by rw [l1, l2, l3]; unfold I64; omega
  clear wfL wm l1 l2 l3 vh va' e1 e2 e3 cv2 b1 b2 i1 i2 i3 j1 j2 j3 va vb
  generalize hsB (hiV a c) (loV b d) x = hh at *
  generalize lnV (hiV a c) (loV b d) = lh at *
  generalize lnV a b = la at *
  generalize lnV c d = lb at *
  generalize hiV a c = hf at *
  generalize loV b d = hu at *
  generalize hsB (mtF a b c d) (mtT a b c d) x = hm at *
  generalize hsB a b x = nA at *
  generalize hsB c d x = nB at *
  generalize cfN x (mnL a b c d) = F at *
  generalize mnL a b c d = L at *
  generalize mtF a b c d = mf at *
  generalize mtT a b c d = mt at *
  generalize mtB a b c d = mb at *
  obtain ⟨x0, x1⟩ := hx
  obtain ⟨⟨la0, la1⟩, ⟨lb0, lb1⟩, lh0, lh1⟩ := kl
  clear ha hb hc hd
  subst hmb
  subst hnA hnB
  replace FL : F L.length = 0 := FL
  obtain rfl : hm = false := by simpa using cv1
  obtain rfl := hhx rfl
  clear cv1 hhx
  replace HM := Lib.hid HM
  replace HN := Lib.hid HN
  replace HH := Lib.hid HH
  replace Hhas := Lib.hid Hhas
  replace F0 := Lib.hid F0
  replace Fst := Lib.hid Fst
  replace Fle := Lib.hid Fle
  replace FL := Lib.hid FL
  replace HVA := Lib.hid HVA
  replace HVB := Lib.hid HVB
  replace HMX := Lib.hid HMX
  replace HIA := Lib.hid HIA
  replace HIB := Lib.hid HIB
  replace HHX := Lib.hid HHX
  replace HLH := Lib.hid HLH
  replace HLA := Lib.hid HLA
  replace HLB := Lib.hid HLB
  go_enter Tryd.func8, Tryd.ntmps8
  go_wp2_with fail
  refine (AW.out _ (ht.out.below (grow (grow (here w) _) _))).mono ?_
  rintro e w1 ⟨rfl, hb⟩
  have A1 := Lib.hid (down (grow (grow (here w) _) _) hb)
  have X1 := Lib.hid (Two.fst hb)
  have Y1 := Lib.hid (Two.snd hb)
  clear hb
  obtain ⟨x1_0, x1_1, x1_z⟩ := X1.out
  obtain ⟨y1_0, y1_1, y1_z⟩ := Y1.out
  go_wp2_with fail
  refine (HM.out _ (ht.out.below A1.out)).mono ?_
  rintro e w2 ⟨rfl, hb⟩
  have A2 := Lib.hid (down A1.out hb)
  have X2 := Lib.hid (X1.out.keep hb)
  have Y2 := Lib.hid (Y1.out.keep hb)
  clear hb A1 X1 Y1 x1_0 x1_1 x1_z y1_0 y1_1 y1_z
  obtain ⟨x2_0, x2_1, x2_z⟩ := X2.out
  obtain ⟨y2_0, y2_1, y2_z⟩ := Y2.out
  go_wp2_with fail
  refine (HN.out _ (ht.out.below (grow A2.out _))).mono ?_
  rintro e w3 ⟨⟨v, rfl, Q⟩, hb⟩
  obtain ⟨o, cp, rfl⟩ := Sl.shape Q
  have A3 := Lib.hid (down (grow A2.out _) hb)
  have X3 := Lib.hid ((X2.out.old _).keep hb)
  have Y3 := Lib.hid ((Y2.out.old _).keep hb)
  have M3 := Lib.hid (Two.new hb)
  clear hb A2 X2 Y2 x2_0 x2_1 x2_z y2_0 y2_1 y2_z
  obtain ⟨x3_0, x3_1, x3_z⟩ := X3.out
  obtain ⟨y3_0, y3_1, y3_z⟩ := Y3.out
  obtain ⟨m3_0, m3_1, m3_z⟩ := M3.out
  have Q3 := Lib.hid Q
  clear Q
  clear HN HM AW
  go_wp2
  go_loopw [9, 29] (fun l i wr => ∃ k : Nat, k ≤ L.length ∧ l = .int .i64 (F k) ∧ i = .int .i64 k ∧ Hid (Below w.heap.size w wr) ∧ Hid (Two wr (w.heap.size) (.int .i64 (a)) (.int .i64 (b))) ∧ Hid (Two wr (w.heap.size + 1) (.int .i64 (c)) (.int .i64 (d))) ∧ Hid (Two wr (w2.heap.size) (.int .i64 (mf)) (.int .i64 (mt))) ∧ Hid (PairS 0 wr (.slice o L.length cp) L)) (fun _ i _ => L.length - (intOf i).toNat)
  case atStart => exact ⟨0, Nat.zero_le _, by rw [F0.out]; rfl, rfl, A3.out, X3.out, Y3.out, M3.out, Sl.weak Q3.out (Nat.zero_le _)⟩
  case round =>
    obtain ⟨k, hk, rfl, rfl, HA, HX, HY, HM, HQ⟩ := hrel
    clear x3_0 x3_1 x3_z y3_0 y3_1 y3_z m3_0 m3_1 m3_z A3 X3 Y3 M3 Q3
    by_cases z : k < L.length
    · have kz : decide ((k : Int) < (L.length : Int)) = true := decide_eq_true (by omega)
      obtain ⟨b', off, rfl, bl, cs⟩ := pairs_here HQ.out z
      obtain ⟨c0, c1⟩ := cs k z
      have hh := fun w ht => Hhas.out k z w ht
      have st := Lib.hid (Fst.out k z)
      have fk := Fle.out k
      clear cs Hhas Fst Fle F0 FL
      generalize (L.getD k (0, 0)).1 = p1 at *
      generalize (L.getD k (0, 0)).2 = p2 at *
      obtain ⟨w4, hw4⟩ : ∃ w4 : World, wr.alloc (.cells #[.int .i64 p1, .int .i64 p2] 23) = w4 := ⟨_, rfl⟩
      have A4 : Hid (Below w.heap.size w w4) := by rw [← hw4]; exact grow HA.out _
      have X4 : Hid (Two w4 (w.heap.size) (.int .i64 (a)) (.int .i64 (b))) := by rw [← hw4]; exact HX.out.old _
      have Y4 : Hid (Two w4 (w.heap.size + 1) (.int .i64 (c)) (.int .i64 (d))) := by rw [← hw4]; exact HY.out.old _
      have M4 : Hid (Two w4 (w2.heap.size) (.int .i64 (mf)) (.int .i64 (mt))) := by rw [← hw4]; exact HM.out.old _
      have Q4 : Hid (PairS 0 w4 (.slice (some ⟨b', off, none⟩) L.length cp) L) := by rw [← hw4]; exact HQ.out.keep (grow (here wr) _)
      have S4 : Two w4 wr.heap.size (.int .i64 p1) (.int .i64 p2) := by rw [← hw4]; exact Two.new (here _)
      obtain ⟨s0, s1, sl⟩ := S4
      have hh' := Lib.hid (hh w4 (ht.out.below A4.out))
      clear HA HX HY HM HQ hh
      generalize F k = fk' at *
      cases q : hsB p1 p2 x
      · rw [q] at hh' st
        clear q
        go_wp2_with fail
        refine hh'.out.mono ?_
        rintro e w5 ⟨rfl, hb⟩
        have A5 := Lib.hid (down A4.out hb)
        have X5 := Lib.hid (X4.out.keep hb)
        have Y5 := Lib.hid (Y4.out.keep hb)
        have M5 := Lib.hid (M4.out.keep hb)
        have Q5 := Lib.hid (Q4.out.keep hb)
        clear hb A4 X4 Y4 M4 Q4 s0 s1 sl hh' c0 c1 hw4
        go_wp2
        go_roundw
        case rel => exact ⟨k + 1, by omega, by rw [st.out]; rfl, by go_num, A5, X5, Y5, M5, Q5⟩
        case measure => simp [intOf]; omega
      · rw [q] at hh' st
        clear q
        go_wp2_with fail
        refine hh'.out.mono ?_
        rintro e w5 ⟨rfl, hb⟩
        have A5 := Lib.hid (down A4.out hb)
        have X5 := Lib.hid (X4.out.keep hb)
        have Y5 := Lib.hid (Y4.out.keep hb)
        have M5 := Lib.hid (M4.out.keep hb)
        have Q5 := Lib.hid (Q4.out.keep hb)
        clear hb A4 X4 Y4 M4 Q4 s0 s1 sl hh' c0 c1 hw4
        go_wp2
        go_roundw
        case rel => exact ⟨k + 1, by omega, by rw [st.out]; go_num, by go_num, A5, X5, Y5, M5, Q5⟩
        case measure => simp [intOf]; omega
    · have kz : decide ((k : Int) < (L.length : Int)) = false := decide_eq_false (by omega)
      have fe : Hid (((F k : Nat) : Int) = 0) := by show _ = _; rw [show k = L.length by omega, FL.out]; rfl
      rw [fe.out]
      have A10 := HA
      have X10 := HX
      have Y10 := HY
      have M10 := HM
      clear HA HX HY HM HQ Hhas Fst Fle F0 FL fe
      obtain ⟨w10, hw10⟩ : ∃ u : World, u = wr := ⟨_, rfl⟩
      subst hw10
      obtain ⟨x10_0, x10_1, x10_z⟩ := X10.out
      obtain ⟨y10_0, y10_1, y10_z⟩ := Y10.out
      obtain ⟨m10_0, m10_1, m10_z⟩ := M10.out
      go_wp2_with fail
      refine (HH.out _ (ht.out.below A10.out)).mono ?_
      rintro e w11 ⟨rfl, hb⟩
      have A11 := Lib.hid (down A10.out hb)
      have X11 := Lib.hid (X10.out.keep hb)
      have Y11 := Lib.hid (Y10.out.keep hb)
      have M11 := Lib.hid (M10.out.keep hb)
      clear hb A10 X10 Y10 M10 x10_0 x10_1 x10_z y10_0 y10_1 y10_z m10_0 m10_1 m10_z
      obtain ⟨x11_0, x11_1, x11_z⟩ := X11.out
      obtain ⟨y11_0, y11_1, y11_z⟩ := Y11.out
      obtain ⟨m11_0, m11_1, m11_z⟩ := M11.out
      go_wp2_with fail
      refine (HVA.out _ (ht.out.below (grow A11.out _))).mono ?_
      rintro e w12 ⟨rfl, hb⟩
      have A12 := Lib.hid (down (grow A11.out _) hb)
      have X12 := Lib.hid ((X11.out.old _).keep hb)
      have Y12 := Lib.hid ((Y11.out.old _).keep hb)
      have M12 := Lib.hid ((M11.out.old _).keep hb)
      have H12 := Lib.hid (Two.new hb)
      clear hb A11 X11 Y11 M11 x11_0 x11_1 x11_z y11_0 y11_1 y11_z m11_0 m11_1 m11_z
      obtain ⟨x12_0, x12_1, x12_z⟩ := X12.out
      obtain ⟨y12_0, y12_1, y12_z⟩ := Y12.out
      obtain ⟨m12_0, m12_1, m12_z⟩ := M12.out
      obtain ⟨h12_0, h12_1, h12_z⟩ := H12.out
      go_wp2_with fail
      refine (HVB.out _ (ht.out.below A12.out)).mono ?_
      rintro e w13 ⟨rfl, hb⟩
      have A13 := Lib.hid (down A12.out hb)
      have X13 := Lib.hid (X12.out.keep hb)
      have Y13 := Lib.hid (Y12.out.keep hb)
      have M13 := Lib.hid (M12.out.keep hb)
      have H13 := Lib.hid (H12.out.keep hb)
      clear hb A12 X12 Y12 M12 H12 x12_0 x12_1 x12_z y12_0 y12_1 y12_z m12_0 m12_1 m12_z h12_0 h12_1 h12_z
      obtain ⟨x13_0, x13_1, x13_z⟩ := X13.out
      obtain ⟨y13_0, y13_1, y13_z⟩ := Y13.out
      obtain ⟨m13_0, m13_1, m13_z⟩ := M13.out
      obtain ⟨h13_0, h13_1, h13_z⟩ := H13.out
      go_wp2
      have G1 : Hid (∀ y : Kept w13, _) := fun y => HIA.out y.wd (ht.out.below (down A13.out y.ok))
      have G2 : Hid (∀ y : Kept w13, _) := fun y => HIB.out y.wd (ht.out.below (down A13.out y.ok))
      have kx0 : ∀ x : Kept w13, x.wd.cell? ⟨w.heap.size, 0, none⟩ = some (.int .i64 (a)) := fun x => (X13.out.keep x.ok).c0
      have kx1 : ∀ x : Kept w13, x.wd.cell? ⟨w.heap.size, 1, none⟩ = some (.int .i64 (b)) := fun x => (X13.out.keep x.ok).c1
      have ky0 : ∀ x : Kept w13, x.wd.cell? ⟨w.heap.size + 1, 0, none⟩ = some (.int .i64 (c)) := fun x => (Y13.out.keep x.ok).c0
      have ky1 : ∀ x : Kept w13, x.wd.cell? ⟨w.heap.size + 1, 1, none⟩ = some (.int .i64 (d)) := fun x => (Y13.out.keep x.ok).c1
      have km0 : ∀ x : Kept w13, x.wd.cell? ⟨w2.heap.size, 0, none⟩ = some (.int .i64 (mf)) := fun x => (M13.out.keep x.ok).c0
      have km1 : ∀ x : Kept w13, x.wd.cell? ⟨w2.heap.size, 1, none⟩ = some (.int .i64 (mt)) := fun x => (M13.out.keep x.ok).c1
      have kh0 : ∀ x : Kept w13, x.wd.cell? ⟨w11.heap.size, 0, none⟩ = some (.int .i64 (hf)) := fun x => (H13.out.keep x.ok).c0
      have kh1 : ∀ x : Kept w13, x.wd.cell? ⟨w11.heap.size, 1, none⟩ = some (.int .i64 (hu)) := fun x => (H13.out.keep x.ok).c1
      refine wp_region_kept (by kernel_rfl) (by kernel_rfl) ?_
      repeat (go_big_quiet_step (first
        | (go_at_call 29; with_reducible exact kept_call _ (G1.out _))
        | (go_at_call 29; with_reducible exact kept_call _ (G2.out _))))
      refine wpQuiet_nil ?_
      intro w14 hx
      obtain ⟨⟨xx, hb⟩, hw⟩ := hx
      replace hw : w14 = xx := hw
      subst xx
      clear kx0 kx1 ky0 ky1 km0 km1 kh0 kh1
      have A14 := Lib.hid (down A13.out hb)
      have X14 := Lib.hid (X13.out.keep hb)
      have Y14 := Lib.hid (Y13.out.keep hb)
      have M14 := Lib.hid (M13.out.keep hb)
      have H14 := Lib.hid (H13.out.keep hb)
      clear hb A13 X13 Y13 M13 H13 x13_0 x13_1 x13_z y13_0 y13_1 y13_z m13_0 m13_1 m13_z h13_0 h13_1 h13_z
      obtain ⟨x14_0, x14_1, x14_z⟩ := X14.out
      obtain ⟨y14_0, y14_1, y14_z⟩ := Y14.out
      obtain ⟨m14_0, m14_1, m14_z⟩ := M14.out
      obtain ⟨h14_0, h14_1, h14_z⟩ := H14.out
      clear G1 G2
      go_wp2_with fail
      refine (HMX.out _ (ht.out.below A14.out)).mono ?_
      rintro e w15 ⟨rfl, hb⟩
      have A15 := Lib.hid (down A14.out hb)
      have X15 := Lib.hid (X14.out.keep hb)
      have Y15 := Lib.hid (Y14.out.keep hb)
      have M15 := Lib.hid (M14.out.keep hb)
      have H15 := Lib.hid (H14.out.keep hb)
      clear hb A14 X14 Y14 M14 H14 x14_0 x14_1 x14_z y14_0 y14_1 y14_z m14_0 m14_1 m14_z h14_0 h14_1 h14_z
      obtain ⟨x15_0, x15_1, x15_z⟩ := X15.out
      obtain ⟨y15_0, y15_1, y15_z⟩ := Y15.out
      obtain ⟨m15_0, m15_1, m15_z⟩ := M15.out
      obtain ⟨h15_0, h15_1, h15_z⟩ := H15.out
      go_upto_region 17 with (fail)
      rcases ends with ⟨u1, v1⟩ | ⟨u1, u2, v1⟩ | ⟨u1, v1, v2⟩ | ⟨u1, u2, v1, v2⟩
      all_goals
        go_wp2
        have G3 : Hid (∀ y : Kept w15, _) := fun y => HHX.out y.wd (ht.out.below (down A15.out y.ok))
        have G4 : Hid (∀ y : Kept w15, _) := fun y => HLH.out y.wd (ht.out.below (down A15.out y.ok))
        have G5 : Hid (∀ y : Kept w15, _) := fun y => HLA.out y.wd (ht.out.below (down A15.out y.ok))
        have G6 : Hid (∀ y : Kept w15, _) := fun y => HLB.out y.wd (ht.out.below (down A15.out y.ok))
        have kx0 : ∀ x : Kept w15, x.wd.cell? ⟨w.heap.size, 0, none⟩ = some (.int .i64 (a)) := fun x => (X15.out.keep x.ok).c0
        have kx1 : ∀ x : Kept w15, x.wd.cell? ⟨w.heap.size, 1, none⟩ = some (.int .i64 (b)) := fun x => (X15.out.keep x.ok).c1
        have ky0 : ∀ x : Kept w15, x.wd.cell? ⟨w.heap.size + 1, 0, none⟩ = some (.int .i64 (c)) := fun x => (Y15.out.keep x.ok).c0
        have ky1 : ∀ x : Kept w15, x.wd.cell? ⟨w.heap.size + 1, 1, none⟩ = some (.int .i64 (d)) := fun x => (Y15.out.keep x.ok).c1
        have km0 : ∀ x : Kept w15, x.wd.cell? ⟨w2.heap.size, 0, none⟩ = some (.int .i64 (mf)) := fun x => (M15.out.keep x.ok).c0
        have km1 : ∀ x : Kept w15, x.wd.cell? ⟨w2.heap.size, 1, none⟩ = some (.int .i64 (mt)) := fun x => (M15.out.keep x.ok).c1
        have kh0 : ∀ x : Kept w15, x.wd.cell? ⟨w11.heap.size, 0, none⟩ = some (.int .i64 (hf)) := fun x => (H15.out.keep x.ok).c0
        have kh1 : ∀ x : Kept w15, x.wd.cell? ⟨w11.heap.size, 1, none⟩ = some (.int .i64 (hu)) := fun x => (H15.out.keep x.ok).c1
        refine wp_region_kept (by kernel_rfl) (by kernel_rfl) ?_
        repeat (go_big_quiet_step (first
          | (go_at_call 29; first | (with_reducible exact kept_call _ (G3.out _)) | exact kept_call _ (G3.out _))
          | (go_at_call 30; with_reducible exact kept_call _ (G4.out _))
          | (go_at_call 30; with_reducible exact kept_call _ (G5.out _))
          | (go_at_call 30; with_reducible exact kept_call _ (G6.out _))))
        refine wpQuiet_nil ?_
        intro w16 hx
        obtain ⟨⟨xx, hb⟩, hw⟩ := hx
        replace hw : w16 = xx := hw
        subst xx
        clear kx0 kx1 ky0 ky1 km0 km1 kh0 kh1
        have A16 := Lib.hid (down A15.out hb)
        have X16 := Lib.hid (X15.out.keep hb)
        have Y16 := Lib.hid (Y15.out.keep hb)
        have M16 := Lib.hid (M15.out.keep hb)
        have H16 := Lib.hid (H15.out.keep hb)
        clear hb A15 X15 Y15 M15 H15 x15_0 x15_1 x15_z y15_0 y15_1 y15_z m15_0 m15_1 m15_z h15_0 h15_1 h15_z
        obtain ⟨x16_0, x16_1, x16_z⟩ := X16.out
        obtain ⟨y16_0, y16_1, y16_z⟩ := Y16.out
        obtain ⟨m16_0, m16_1, m16_z⟩ := M16.out
        obtain ⟨h16_0, h16_1, h16_z⟩ := H16.out
        go_wp2
        go_ret
        exact ⟨rfl, by first | exact A16.out | exact grow A16.out _ | exact below_drewN A16.out _ | exact grow (grow A16.out _) _ | exact grow (grow (grow A16.out _) _) _⟩
set_option maxRecDepth 100000 in
set_option maxHeartbeats 4000000 in
theorem cov_100 (a b c d x : Int) (ha : I64 a) (hb : I64 b) (hc : I64 c) (hd : I64 d) (hx : I64 x) (va : ivB a b = true) (vb : ivB c d = true) (hmb : mtB a b c d = true) (hnA : hsB a b x = false) (hnB : hsB c d x = false) (w : World) (ht : Tabs w) :
    Calls Tryd.prog 8 #[.agg #[.int .i64 a, .int .i64 b], .agg #[.int .i64 c, .int .i64 d], .int .i64 x] w fun e w' => e = .returned (.bool true) ∧ Below w.heap.size w w' := by
  have AW := Lib.hid (fun w ht => awake_all w ht)
  replace ht := Lib.hid ht
  have wfL := mn_wf ha hb hc hd
  have HM := fun w ht => uvmeet a b c d ha hb hc hd w ht
  have HN := fun w ht => uvminus a b c d ha hb hc hd w ht
  have HH := fun w ht => uvhull a b c d ha hb hc hd w ht
  have HVA := fun w ht => uvvalid a b ha hb w ht
  have HVB := fun w ht => uvvalid c d hc hd w ht
  have Hhas := fun k (hk : k < (mnL a b c d).length) w ht => uvhas ((mnL a b c d).getD k (0, 0)).1 ((mnL a b c d).getD k (0, 0)).2 (wfL k hk).1 (wfL k hk).2 x hx w ht
  have F0 : cfN x (mnL a b c d) 0 = 0 := rfl
  have Fst := fun k (hk : k < (mnL a b c d).length) => cf_step x (mnL a b c d) hk
  have n2 : (mnL a b c d).length ≤ 2 := by
    unfold mnL mnA mnZ
    split
    · rw [List.length_append]; split <;> split <;> simp
    · simp
  have Fle := fun k => Nat.le_trans (cf_le x (mnL a b c d) k) n2
  have FL : cfN x (mnL a b c d) (mnL a b c d).length = ((mnL a b c d).filter (fun p => hsB p.1 p.2 x)).length := by unfold cfN; rw [List.take_length]
  have va' := va
  obtain ⟨i1, i2, i3⟩ := ivB_iff.1 va
  obtain ⟨j1, j2, j3⟩ := ivB_iff.1 vb
  obtain ⟨cv1, cv2⟩ := iv_covers va vb x
  have e1 : hlF a b c d = hiV a c := by unfold hlF; rw [va, vb]; rfl
  have e2 : hlT a b c d = loV b d := by unfold hlT; rw [va, vb]; rfl
  have e3 : hlE a b c d = 0 := by unfold hlE; rw [va, vb]; rfl
  have b1 := hiV_bd a c
  have b2 := loV_bd b d
  rw [cv2] at FL
  rw [e1, e2, e3] at HH
  rw [va] at HVA
  rw [vb] at HVB
  have wm : I64 (mtF a b c d) ∧ I64 (mtT a b c d) := by
    have q1 := loV_bd a c
    have q2 := hiV_bd b d
    unfold mtF mtT I64
    split <;> omega
  have HMX := fun w ht => uvhas (mtF a b c d) (mtT a b c d) wm.1 wm.2 x hx w ht
  have HIA := fun w ht => uvhas a b ha hb x hx w ht
  have HIB := fun w ht => uvhas c d hc hd x hx w ht
  have HHX := fun w ht => uvhas (hiV a c) (loV b d) ⟨by omega, by omega⟩ ⟨by omega, by omega⟩ x hx w ht
  have HLH := fun w ht => uvlen (hiV a c) (loV b d) ⟨by omega, by omega⟩ ⟨by omega, by omega⟩ w ht
  have HLA := fun w ht => uvlen a b ha hb w ht
  have HLB := fun w ht => uvlen c d hc hd w ht
  have vh : ivB (hiV a c) (loV b d) = true := ivB_iff.2 (by omega)
  have l1 : lnV (hiV a c) (loV b d) = loV b d - hiV a c := by unfold lnV; rw [vh]; rfl
  have l2 : lnV a b = b - a := by unfold lnV; rw [va]; rfl
  have l3 : lnV c d = d - c := by unfold lnV; rw [vb]; rfl
  have hhx : (hsB a b x || hsB c d x) = true → hsB (hiV a c) (loV b d) x = true := by
    rw [Bool.or_eq_true, hsB_iff, hsB_iff, hsB_iff]
    rintro (q | q) <;> exact ⟨vh, by omega, by omega⟩
  have ends : ((hiV a c == a) = true ∧ (loV b d == b) = true) ∨ ((hiV a c == a) = false ∧ (hiV a c == c) = true ∧ (loV b d == b) = true) ∨ ((hiV a c == a) = true ∧ (loV b d == b) = false ∧ (loV b d == d) = true) ∨ ((hiV a c == a) = false ∧ (hiV a c == c) = true ∧ (loV b d == b) = false ∧ (loV b d == d) = true) := by
    simp only [beq_iff_eq, beq_eq_false_iff_ne]
    omega
  obtain ⟨Mx, hM⟩ : ∃ Mx, (if lnV a b < lnV c d then lnV c d else lnV a b) = Mx := ⟨_, rfl⟩
  have hM' : max (lnV a b) (lnV c d) = Mx := by rw [← hM]; split <;> omega
  have kM : decide (Mx ≤ lnV (hiV a c) (loV b d)) = true := by
    refine decide_eq_true ?_
    rw [← hM, l1, l2, l3]
    split <;> omega
  have kl : I64 (lnV a b) ∧ I64 (lnV c d) ∧ I64 (lnV (hiV a c) (loV b d)) := by rw [l1, l2, l3]; unfold I64; omega
  clear wfL wm l1 l2 l3 vh va' e1 e2 e3 cv2 b1 b2 i1 i2 i3 j1 j2 j3 va vb
  generalize hsB (hiV a c) (loV b d) x = hh at *
  generalize lnV (hiV a c) (loV b d) = lh at *
  generalize lnV a b = la at *
  generalize lnV c d = lb at *
  generalize hiV a c = hf at *
  generalize loV b d = hu at *
  generalize hsB (mtF a b c d) (mtT a b c d) x = hm at *
  generalize hsB a b x = nA at *
  generalize hsB c d x = nB at *
  generalize cfN x (mnL a b c d) = F at *
  generalize mnL a b c d = L at *
  generalize mtF a b c d = mf at *
  generalize mtT a b c d = mt at *
  generalize mtB a b c d = mb at *
  obtain ⟨x0, x1⟩ := hx
  obtain ⟨⟨la0, la1⟩, ⟨lb0, lb1⟩, lh0, lh1⟩ := kl
  clear ha hb hc hd
  subst hmb
  subst hnA hnB
  replace FL : F L.length = 0 := FL
  obtain rfl : hm = false := by simpa using cv1
  clear cv1 hhx
  replace HM := Lib.hid HM
  replace HN := Lib.hid HN
  replace HH := Lib.hid HH
  replace Hhas := Lib.hid Hhas
  replace F0 := Lib.hid F0
  replace Fst := Lib.hid Fst
  replace Fle := Lib.hid Fle
  replace FL := Lib.hid FL
  replace HVA := Lib.hid HVA
  replace HVB := Lib.hid HVB
  replace HMX := Lib.hid HMX
  replace HIA := Lib.hid HIA
  replace HIB := Lib.hid HIB
  replace HHX := Lib.hid HHX
  replace HLH := Lib.hid HLH
  replace HLA := Lib.hid HLA
  replace HLB := Lib.hid HLB
  go_enter Tryd.func8, Tryd.ntmps8
  go_wp2_with fail
  refine (AW.out _ (ht.out.below (grow (grow (here w) _) _))).mono ?_
  rintro e w1 ⟨rfl, hb⟩
  have A1 := Lib.hid (down (grow (grow (here w) _) _) hb)
  have X1 := Lib.hid (Two.fst hb)
  have Y1 := Lib.hid (Two.snd hb)
  clear hb
  obtain ⟨x1_0, x1_1, x1_z⟩ := X1.out
  obtain ⟨y1_0, y1_1, y1_z⟩ := Y1.out
  go_wp2_with fail
  refine (HM.out _ (ht.out.below A1.out)).mono ?_
  rintro e w2 ⟨rfl, hb⟩
  have A2 := Lib.hid (down A1.out hb)
  have X2 := Lib.hid (X1.out.keep hb)
  have Y2 := Lib.hid (Y1.out.keep hb)
  clear hb A1 X1 Y1 x1_0 x1_1 x1_z y1_0 y1_1 y1_z
  obtain ⟨x2_0, x2_1, x2_z⟩ := X2.out
  obtain ⟨y2_0, y2_1, y2_z⟩ := Y2.out
  go_wp2_with fail
  refine (HN.out _ (ht.out.below (grow A2.out _))).mono ?_
  rintro e w3 ⟨⟨v, rfl, Q⟩, hb⟩
  obtain ⟨o, cp, rfl⟩ := Sl.shape Q
  have A3 := Lib.hid (down (grow A2.out _) hb)
  have X3 := Lib.hid ((X2.out.old _).keep hb)
  have Y3 := Lib.hid ((Y2.out.old _).keep hb)
  have M3 := Lib.hid (Two.new hb)
  clear hb A2 X2 Y2 x2_0 x2_1 x2_z y2_0 y2_1 y2_z
  obtain ⟨x3_0, x3_1, x3_z⟩ := X3.out
  obtain ⟨y3_0, y3_1, y3_z⟩ := Y3.out
  obtain ⟨m3_0, m3_1, m3_z⟩ := M3.out
  have Q3 := Lib.hid Q
  clear Q
  clear HN HM AW
  go_wp2
  go_loopw [9, 29] (fun l i wr => ∃ k : Nat, k ≤ L.length ∧ l = .int .i64 (F k) ∧ i = .int .i64 k ∧ Hid (Below w.heap.size w wr) ∧ Hid (Two wr (w.heap.size) (.int .i64 (a)) (.int .i64 (b))) ∧ Hid (Two wr (w.heap.size + 1) (.int .i64 (c)) (.int .i64 (d))) ∧ Hid (Two wr (w2.heap.size) (.int .i64 (mf)) (.int .i64 (mt))) ∧ Hid (PairS 0 wr (.slice o L.length cp) L)) (fun _ i _ => L.length - (intOf i).toNat)
  case atStart => exact ⟨0, Nat.zero_le _, by rw [F0.out]; rfl, rfl, A3.out, X3.out, Y3.out, M3.out, Sl.weak Q3.out (Nat.zero_le _)⟩
  case round =>
    obtain ⟨k, hk, rfl, rfl, HA, HX, HY, HM, HQ⟩ := hrel
    clear x3_0 x3_1 x3_z y3_0 y3_1 y3_z m3_0 m3_1 m3_z A3 X3 Y3 M3 Q3
    by_cases z : k < L.length
    · have kz : decide ((k : Int) < (L.length : Int)) = true := decide_eq_true (by omega)
      obtain ⟨b', off, rfl, bl, cs⟩ := pairs_here HQ.out z
      obtain ⟨c0, c1⟩ := cs k z
      have hh := fun w ht => Hhas.out k z w ht
      have st := Lib.hid (Fst.out k z)
      have fk := Fle.out k
      clear cs Hhas Fst Fle F0 FL
      generalize (L.getD k (0, 0)).1 = p1 at *
      generalize (L.getD k (0, 0)).2 = p2 at *
      obtain ⟨w4, hw4⟩ : ∃ w4 : World, wr.alloc (.cells #[.int .i64 p1, .int .i64 p2] 23) = w4 := ⟨_, rfl⟩
      have A4 : Hid (Below w.heap.size w w4) := by rw [← hw4]; exact grow HA.out _
      have X4 : Hid (Two w4 (w.heap.size) (.int .i64 (a)) (.int .i64 (b))) := by rw [← hw4]; exact HX.out.old _
      have Y4 : Hid (Two w4 (w.heap.size + 1) (.int .i64 (c)) (.int .i64 (d))) := by rw [← hw4]; exact HY.out.old _
      have M4 : Hid (Two w4 (w2.heap.size) (.int .i64 (mf)) (.int .i64 (mt))) := by rw [← hw4]; exact HM.out.old _
      have Q4 : Hid (PairS 0 w4 (.slice (some ⟨b', off, none⟩) L.length cp) L) := by rw [← hw4]; exact HQ.out.keep (grow (here wr) _)
      have S4 : Two w4 wr.heap.size (.int .i64 p1) (.int .i64 p2) := by rw [← hw4]; exact Two.new (here _)
      obtain ⟨s0, s1, sl⟩ := S4
      have hh' := Lib.hid (hh w4 (ht.out.below A4.out))
      clear HA HX HY HM HQ hh
      generalize F k = fk' at *
      cases q : hsB p1 p2 x
      · rw [q] at hh' st
        clear q
        go_wp2_with fail
        refine hh'.out.mono ?_
        rintro e w5 ⟨rfl, hb⟩
        have A5 := Lib.hid (down A4.out hb)
        have X5 := Lib.hid (X4.out.keep hb)
        have Y5 := Lib.hid (Y4.out.keep hb)
        have M5 := Lib.hid (M4.out.keep hb)
        have Q5 := Lib.hid (Q4.out.keep hb)
        clear hb A4 X4 Y4 M4 Q4 s0 s1 sl hh' c0 c1 hw4
        go_wp2
        go_roundw
        case rel => exact ⟨k + 1, by omega, by rw [st.out]; rfl, by go_num, A5, X5, Y5, M5, Q5⟩
        case measure => simp [intOf]; omega
      · rw [q] at hh' st
        clear q
        go_wp2_with fail
        refine hh'.out.mono ?_
        rintro e w5 ⟨rfl, hb⟩
        have A5 := Lib.hid (down A4.out hb)
        have X5 := Lib.hid (X4.out.keep hb)
        have Y5 := Lib.hid (Y4.out.keep hb)
        have M5 := Lib.hid (M4.out.keep hb)
        have Q5 := Lib.hid (Q4.out.keep hb)
        clear hb A4 X4 Y4 M4 Q4 s0 s1 sl hh' c0 c1 hw4
        go_wp2
        go_roundw
        case rel => exact ⟨k + 1, by omega, by rw [st.out]; go_num, by go_num, A5, X5, Y5, M5, Q5⟩
        case measure => simp [intOf]; omega
    · have kz : decide ((k : Int) < (L.length : Int)) = false := decide_eq_false (by omega)
      have fe : Hid (((F k : Nat) : Int) = 0) := by show _ = _; rw [show k = L.length by omega, FL.out]; rfl
      rw [fe.out]
      have A10 := HA
      have X10 := HX
      have Y10 := HY
      have M10 := HM
      clear HA HX HY HM HQ Hhas Fst Fle F0 FL fe
      obtain ⟨w10, hw10⟩ : ∃ u : World, u = wr := ⟨_, rfl⟩
      subst hw10
      obtain ⟨x10_0, x10_1, x10_z⟩ := X10.out
      obtain ⟨y10_0, y10_1, y10_z⟩ := Y10.out
      obtain ⟨m10_0, m10_1, m10_z⟩ := M10.out
      go_wp2_with fail
      refine (HH.out _ (ht.out.below A10.out)).mono ?_
      rintro e w11 ⟨rfl, hb⟩
      have A11 := Lib.hid (down A10.out hb)
      have X11 := Lib.hid (X10.out.keep hb)
      have Y11 := Lib.hid (Y10.out.keep hb)
      have M11 := Lib.hid (M10.out.keep hb)
      clear hb A10 X10 Y10 M10 x10_0 x10_1 x10_z y10_0 y10_1 y10_z m10_0 m10_1 m10_z
      obtain ⟨x11_0, x11_1, x11_z⟩ := X11.out
      obtain ⟨y11_0, y11_1, y11_z⟩ := Y11.out
      obtain ⟨m11_0, m11_1, m11_z⟩ := M11.out
      go_wp2_with fail
      refine (HVA.out _ (ht.out.below (grow A11.out _))).mono ?_
      rintro e w12 ⟨rfl, hb⟩
      have A12 := Lib.hid (down (grow A11.out _) hb)
      have X12 := Lib.hid ((X11.out.old _).keep hb)
      have Y12 := Lib.hid ((Y11.out.old _).keep hb)
      have M12 := Lib.hid ((M11.out.old _).keep hb)
      have H12 := Lib.hid (Two.new hb)
      clear hb A11 X11 Y11 M11 x11_0 x11_1 x11_z y11_0 y11_1 y11_z m11_0 m11_1 m11_z
      obtain ⟨x12_0, x12_1, x12_z⟩ := X12.out
      obtain ⟨y12_0, y12_1, y12_z⟩ := Y12.out
      obtain ⟨m12_0, m12_1, m12_z⟩ := M12.out
      obtain ⟨h12_0, h12_1, h12_z⟩ := H12.out
      go_wp2_with fail
      refine (HVB.out _ (ht.out.below A12.out)).mono ?_
      rintro e w13 ⟨rfl, hb⟩
      have A13 := Lib.hid (down A12.out hb)
      have X13 := Lib.hid (X12.out.keep hb)
      have Y13 := Lib.hid (Y12.out.keep hb)
      have M13 := Lib.hid (M12.out.keep hb)
      have H13 := Lib.hid (H12.out.keep hb)
      clear hb A12 X12 Y12 M12 H12 x12_0 x12_1 x12_z y12_0 y12_1 y12_z m12_0 m12_1 m12_z h12_0 h12_1 h12_z
      obtain ⟨x13_0, x13_1, x13_z⟩ := X13.out
      obtain ⟨y13_0, y13_1, y13_z⟩ := Y13.out
      obtain ⟨m13_0, m13_1, m13_z⟩ := M13.out
      obtain ⟨h13_0, h13_1, h13_z⟩ := H13.out
      go_wp2
      have G1 : Hid (∀ y : Kept w13, _) := fun y => HIA.out y.wd (ht.out.below (down A13.out y.ok))
      have G2 : Hid (∀ y : Kept w13, _) := fun y => HIB.out y.wd (ht.out.below (down A13.out y.ok))
      have kx0 : ∀ x : Kept w13, x.wd.cell? ⟨w.heap.size, 0, none⟩ = some (.int .i64 (a)) := fun x => (X13.out.keep x.ok).c0
      have kx1 : ∀ x : Kept w13, x.wd.cell? ⟨w.heap.size, 1, none⟩ = some (.int .i64 (b)) := fun x => (X13.out.keep x.ok).c1
      have ky0 : ∀ x : Kept w13, x.wd.cell? ⟨w.heap.size + 1, 0, none⟩ = some (.int .i64 (c)) := fun x => (Y13.out.keep x.ok).c0
      have ky1 : ∀ x : Kept w13, x.wd.cell? ⟨w.heap.size + 1, 1, none⟩ = some (.int .i64 (d)) := fun x => (Y13.out.keep x.ok).c1
      have km0 : ∀ x : Kept w13, x.wd.cell? ⟨w2.heap.size, 0, none⟩ = some (.int .i64 (mf)) := fun x => (M13.out.keep x.ok).c0
      have km1 : ∀ x : Kept w13, x.wd.cell? ⟨w2.heap.size, 1, none⟩ = some (.int .i64 (mt)) := fun x => (M13.out.keep x.ok).c1
      have kh0 : ∀ x : Kept w13, x.wd.cell? ⟨w11.heap.size, 0, none⟩ = some (.int .i64 (hf)) := fun x => (H13.out.keep x.ok).c0
      have kh1 : ∀ x : Kept w13, x.wd.cell? ⟨w11.heap.size, 1, none⟩ = some (.int .i64 (hu)) := fun x => (H13.out.keep x.ok).c1
      refine wp_region_kept (by kernel_rfl) (by kernel_rfl) ?_
      repeat (go_big_quiet_step (first
        | (go_at_call 29; with_reducible exact kept_call _ (G1.out _))
        | (go_at_call 29; with_reducible exact kept_call _ (G2.out _))))
      refine wpQuiet_nil ?_
      intro w14 hx
      obtain ⟨⟨xx, hb⟩, hw⟩ := hx
      replace hw : w14 = xx := hw
      subst xx
      clear kx0 kx1 ky0 ky1 km0 km1 kh0 kh1
      have A14 := Lib.hid (down A13.out hb)
      have X14 := Lib.hid (X13.out.keep hb)
      have Y14 := Lib.hid (Y13.out.keep hb)
      have M14 := Lib.hid (M13.out.keep hb)
      have H14 := Lib.hid (H13.out.keep hb)
      clear hb A13 X13 Y13 M13 H13 x13_0 x13_1 x13_z y13_0 y13_1 y13_z m13_0 m13_1 m13_z h13_0 h13_1 h13_z
      obtain ⟨x14_0, x14_1, x14_z⟩ := X14.out
      obtain ⟨y14_0, y14_1, y14_z⟩ := Y14.out
      obtain ⟨m14_0, m14_1, m14_z⟩ := M14.out
      obtain ⟨h14_0, h14_1, h14_z⟩ := H14.out
      clear G1 G2
      go_wp2_with fail
      refine (HMX.out _ (ht.out.below A14.out)).mono ?_
      rintro e w15 ⟨rfl, hb⟩
      have A15 := Lib.hid (down A14.out hb)
      have X15 := Lib.hid (X14.out.keep hb)
      have Y15 := Lib.hid (Y14.out.keep hb)
      have M15 := Lib.hid (M14.out.keep hb)
      have H15 := Lib.hid (H14.out.keep hb)
      clear hb A14 X14 Y14 M14 H14 x14_0 x14_1 x14_z y14_0 y14_1 y14_z m14_0 m14_1 m14_z h14_0 h14_1 h14_z
      obtain ⟨x15_0, x15_1, x15_z⟩ := X15.out
      obtain ⟨y15_0, y15_1, y15_z⟩ := Y15.out
      obtain ⟨m15_0, m15_1, m15_z⟩ := M15.out
      obtain ⟨h15_0, h15_1, h15_z⟩ := H15.out
      go_upto_region 17 with (fail)
      rcases ends with ⟨u1, v1⟩ | ⟨u1, u2, v1⟩ | ⟨u1, v1, v2⟩ | ⟨u1, u2, v1, v2⟩
      all_goals
        go_wp2
        have G3 : Hid (∀ y : Kept w15, _) := fun y => HHX.out y.wd (ht.out.below (down A15.out y.ok))
        have G4 : Hid (∀ y : Kept w15, _) := fun y => HLH.out y.wd (ht.out.below (down A15.out y.ok))
        have G5 : Hid (∀ y : Kept w15, _) := fun y => HLA.out y.wd (ht.out.below (down A15.out y.ok))
        have G6 : Hid (∀ y : Kept w15, _) := fun y => HLB.out y.wd (ht.out.below (down A15.out y.ok))
        have kx0 : ∀ x : Kept w15, x.wd.cell? ⟨w.heap.size, 0, none⟩ = some (.int .i64 (a)) := fun x => (X15.out.keep x.ok).c0
        have kx1 : ∀ x : Kept w15, x.wd.cell? ⟨w.heap.size, 1, none⟩ = some (.int .i64 (b)) := fun x => (X15.out.keep x.ok).c1
        have ky0 : ∀ x : Kept w15, x.wd.cell? ⟨w.heap.size + 1, 0, none⟩ = some (.int .i64 (c)) := fun x => (Y15.out.keep x.ok).c0
        have ky1 : ∀ x : Kept w15, x.wd.cell? ⟨w.heap.size + 1, 1, none⟩ = some (.int .i64 (d)) := fun x => (Y15.out.keep x.ok).c1
        have km0 : ∀ x : Kept w15, x.wd.cell? ⟨w2.heap.size, 0, none⟩ = some (.int .i64 (mf)) := fun x => (M15.out.keep x.ok).c0
        have km1 : ∀ x : Kept w15, x.wd.cell? ⟨w2.heap.size, 1, none⟩ = some (.int .i64 (mt)) := fun x => (M15.out.keep x.ok).c1
        have kh0 : ∀ x : Kept w15, x.wd.cell? ⟨w11.heap.size, 0, none⟩ = some (.int .i64 (hf)) := fun x => (H15.out.keep x.ok).c0
        have kh1 : ∀ x : Kept w15, x.wd.cell? ⟨w11.heap.size, 1, none⟩ = some (.int .i64 (hu)) := fun x => (H15.out.keep x.ok).c1
        refine wp_region_kept (by kernel_rfl) (by kernel_rfl) ?_
        repeat (go_big_quiet_step (first
          | (go_at_call 29; first | (with_reducible exact kept_call _ (G3.out _)) | exact kept_call _ (G3.out _))
          | (go_at_call 30; with_reducible exact kept_call _ (G4.out _))
          | (go_at_call 30; with_reducible exact kept_call _ (G5.out _))
          | (go_at_call 30; with_reducible exact kept_call _ (G6.out _))))
        refine wpQuiet_nil ?_
        intro w16 hx
        obtain ⟨⟨xx, hb⟩, hw⟩ := hx
        replace hw : w16 = xx := hw
        subst xx
        clear kx0 kx1 ky0 ky1 km0 km1 kh0 kh1
        have A16 := Lib.hid (down A15.out hb)
        have X16 := Lib.hid (X15.out.keep hb)
        have Y16 := Lib.hid (Y15.out.keep hb)
        have M16 := Lib.hid (M15.out.keep hb)
        have H16 := Lib.hid (H15.out.keep hb)
        clear hb A15 X15 Y15 M15 H15 x15_0 x15_1 x15_z y15_0 y15_1 y15_z m15_0 m15_1 m15_z h15_0 h15_1 h15_z
        obtain ⟨x16_0, x16_1, x16_z⟩ := X16.out
        obtain ⟨y16_0, y16_1, y16_z⟩ := Y16.out
        obtain ⟨m16_0, m16_1, m16_z⟩ := M16.out
        obtain ⟨h16_0, h16_1, h16_z⟩ := H16.out
        go_wp2
        go_ret
        exact ⟨rfl, by first | exact A16.out | exact grow A16.out _ | exact below_drewN A16.out _ | exact grow (grow A16.out _) _ | exact grow (grow (grow A16.out _) _) _⟩
end Go.Proofs.YtknlhhjooamfhaaDoor

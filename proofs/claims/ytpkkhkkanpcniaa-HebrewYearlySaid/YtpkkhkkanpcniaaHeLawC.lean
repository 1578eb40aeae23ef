/- The month behind another one; the walk of HebrewMolads: the Go text returns true, at every input. -/
import Derived.Test.YtpkkhkkanpcniaaHeAwake
namespace Go.Proofs.Ytpkkhkkanpcniaa
open Go.RowKit
set_option linter.unusedVariables false

/-- The month behind another one. -/
def hfolY (y m : Int) : Int := if m = 6 then y + 1 else y
def hfolM (y m : Int) : Int := if m = 6 then 7 else if 12 ≤ m ∧ m = hmn y then 1 else m + 1
set_option maxHeartbeats 1000000 in
theorem ufol (y m : Int) (y0 : 1 ≤ y) (y1 : y ≤ 20000) (m0 : 1 ≤ m) (m1 : m ≤ 13) (w : World) (ht : Tabs w) :
    Calls Try.prog 36 #[.int .i64 y, .int .i64 m] w fun e w' => e = .returned (.tuple #[.int .i64 (hfolY y m), .int .i64 (hfolM y m)]) ∧ Below w.heap.size w w' := by
  have HM := fun w ht => uhmonths y ⟨by omega, by omega⟩ w ht
  have nb := hmn_bd y
  unfold hfolY hfolM
  generalize hmn y = n at *
  obtain ⟨nb0, nb1⟩ := nb
  replace HM := Lib.hid HM
  by_cases a : m = 6
  · rw [if_pos a, if_pos a]
    subst a
    go_enter Try.func36, Try.ntmps36
    go_wp2
    go_ret2
    exact ⟨rfl, here _⟩
  · rw [if_neg a, if_neg a]
    have k : (m == 6) = false := by simpa using a
    clear a
    by_cases b : 12 ≤ m
    · have k2 : decide (12 ≤ m) = true := decide_eq_true b
      by_cases c : m = n
      · rw [if_pos ⟨b, c⟩]
        have k3 : (m == n) = true := by simpa using c
        clear b c
        go_enter Try.func36, Try.ntmps36
        go_wp2_with fail
        refine (HM.out _ ht).mono ?_
        rintro e w1 ⟨rfl, hb⟩
        go_wp2
        go_ret2
        exact ⟨rfl, hb⟩
      · rw [if_neg (fun q => c q.2)]
        have k3 : (m == n) = false := by simpa using c
        clear b c
        go_enter Try.func36, Try.ntmps36
        go_wp2_with fail
        refine (HM.out _ ht).mono ?_
        rintro e w1 ⟨rfl, hb⟩
        go_wp2
        go_ret2
        exact ⟨rfl, hb⟩
    · rw [if_neg (fun q => b q.1)]
      have k2 : decide (12 ≤ m) = false := decide_eq_false b
      clear b
      go_enter Try.func36, Try.ntmps36
      go_wp2
      go_ret2
      exact ⟨rfl, here _⟩
theorem hmolB_iff {y m : Int} : hmolB y m = true ↔ 1 ≤ m ∧ m ≤ hmn y := by unfold hmolB; exact decide_eq_true_iff
theorem hmolB_yr {y m : Int} (h : hmolB y m = true) : hyr y = true := by
  have q := hmolB_iff.1 h
  cases z : hyr y
  · rw [hmn_out z] at q; omega
  · rfl
theorem hmol_bd (y m : Int) : -3000000 ≤ hmolN y m ∧ hmolN y m ≤ 9000000 ∧ 0 ≤ hmolR y m ∧ hmolR y m < 25920 := by
  unfold hmolN hmolR
  cases h : hmolB y m
  · simp
  · have q := hmolB_iff.1 h
    have r := hyr_iff.1 (hmolB_yr h)
    have n := hmn_bd y
    have a := hM_bd (y := y) (by omega) (by omega)
    have b : hM y ≤ 250000 := by unfold hM; omega
    have c : hM (y + 1) ≤ 250000 := by unfold hM; omega
    have d : -20 ≤ hM y := by unfold hM; omega
    have e : -20 ≤ hM (y + 1) := by unfold hM; omega
    have p : -100000000 ≤ hmolP y m ∧ hmolP y m ≤ 200000000000 := by unfold hmolP; split <;> omega
    simp only [if_true]
    omega
theorem hmol_next {y m : Int} (h : hmolB y m = true) (h' : hmolB (hfolY y m) (hfolM y m) = true) :
    (hmolN (hfolY y m) (hfolM y m) - hmolN y m) * 25920 + hmolR (hfolY y m) (hfolM y m) - hmolR y m = 765433 := by
  have q := hmolB_iff.1 h
  have hy := hmolB_yr h
  have s := hM_succ y
  have p : hmolP (hfolY y m) (hfolM y m) = hmolP y m + 765433 := by
    unfold hmolP hfolY hfolM
    by_cases a : m = 6
    · subst a; simp only [if_true]; rw [if_neg (by omega), if_pos (by omega)]; omega
    · rw [if_neg a, if_neg a]
      by_cases b : 12 ≤ m ∧ m = hmn y
      · rw [if_pos b, if_pos (by omega), if_neg (by omega), s]
        rcases hmn_in hy with ⟨c, d⟩ | ⟨c, d⟩ <;> rw [c] <;> rw [d] at b <;> simp only [hk] <;> simp <;> omega
      · rw [if_neg b]
        by_cases c : m < 6
        · rw [if_pos (by omega), if_pos (by omega)]; omega
        · rw [if_neg (by omega), if_neg (by omega)]; omega
  unfold hmolN hmolR
  rw [if_pos h, if_pos h, if_pos h', if_pos h', p]
  omega
namespace HebrewMolads
set_option maxRecDepth 100000 in
set_option maxHeartbeats 2000000 in
theorem bad (y m n : Int) (hm : I64 m) (n1 : n ≤ 13) (n0 : 0 ≤ n) (t : decide (m < 1) = true ∨ decide (m < 1) = false ∧ decide (n < m) = true) (H1 : ∀ w, Tabs w → Calls Try.prog 26 #[.int .i64 y, .int .i64 m] w fun e w' => e = .returned (.tuple #[.int .i64 0, .int .i64 0, .int .i64 2]) ∧ Below w.heap.size w w')
    (H2 : ∀ w, Tabs w → Calls Try.prog 19 #[.int .i64 y] w fun e w' => e = .returned (.int .i64 n) ∧ Below w.heap.size w w') (w : World) (ht : Tabs w) :
    Calls Try.prog 11 #[.int .i64 y, .int .i64 m] w fun e w' => e = .returned (.bool true) ∧ Below w.heap.size w w' := by
  obtain ⟨hm0, hm1⟩ := hm
  have AW := Lib.hid (fun w ht => awake_all w ht)
  replace ht := Lib.hid ht
  replace H1 := Lib.hid H1
  replace H2 := Lib.hid H2
  rcases t with t | ⟨t, t2⟩
  · go_enter Try.func11, Try.ntmps11
    go_wp2_with fail
    refine (AW.out _ (ht.out.below (here w))).mono ?_
    rintro e w1 ⟨rfl, hb⟩
    have A1 := Lib.hid (down (here w) hb)
    clear hb
    go_wp2_with fail
    refine (H1.out _ (ht.out.below A1.out)).mono ?_
    rintro e w2 ⟨rfl, hb⟩
    have A2 := Lib.hid (down A1.out hb)
    clear hb A1
    go_wp2
    go_ret
    exact ⟨rfl, by first | exact A2.out | exact grow A2.out _ | exact below_drewN A2.out _ | exact grow (grow A2.out _) _ | exact grow (grow (grow A2.out _) _) _⟩
  · go_enter Try.func11, Try.ntmps11
    go_wp2_with fail
    refine (AW.out _ (ht.out.below (here w))).mono ?_
    rintro e w1 ⟨rfl, hb⟩
    have A1 := Lib.hid (down (here w) hb)
    clear hb
    go_wp2_with fail
    refine (H1.out _ (ht.out.below A1.out)).mono ?_
    rintro e w2 ⟨rfl, hb⟩
    have A2 := Lib.hid (down A1.out hb)
    clear hb A1
    go_wp2_with fail
    refine (H2.out _ (ht.out.below A2.out)).mono ?_
    rintro e w3 ⟨rfl, hb⟩
    have A3 := Lib.hid (down A2.out hb)
    clear hb A2
    go_wp2
    go_ret
    exact ⟨rfl, by first | exact A3.out | exact grow A3.out _ | exact below_drewN A3.out _ | exact grow (grow A3.out _) _ | exact grow (grow (grow A3.out _) _) _⟩
set_option maxRecDepth 100000 in
set_option maxHeartbeats 2000000 in
theorem good_end (y m N R y2 m2 N2 R2 S F G : Int) (b0 : -3000000 ≤ N) (b1 : N ≤ 9000000) (r0 : 0 ≤ R) (r1 : R < 25920) (c0 : -3000000 ≤ N2) (c1 : N2 ≤ 9000000) (d0 : 0 ≤ R2) (d1 : R2 < 25920) (f0 : -3000000 ≤ F) (f1 : F ≤ 9000000) (s0 : F ≤ S) (s1 : S ≤ F + 2)
    (H1 : ∀ w, Tabs w → Calls Try.prog 26 #[.int .i64 y, .int .i64 m] w fun e w' => e = .returned (.tuple #[.int .i64 N, .int .i64 R, .int .i64 0]) ∧ Below w.heap.size w w') (H2 : ∀ w, Tabs w → Calls Try.prog 36 #[.int .i64 y, .int .i64 m] w fun e w' => e = .returned (.tuple #[.int .i64 y2, .int .i64 m2]) ∧ Below w.heap.size w w')
    (H3 : ∀ w, Tabs w → Calls Try.prog 26 #[.int .i64 y2, .int .i64 m2] w fun e w' => e = .returned (.tuple #[.int .i64 N2, .int .i64 R2, .int .i64 2]) ∧ Below w.heap.size w w')
    (H4 : ∀ w, Tabs w → Calls Try.prog 16 #[.int .i64 y] w fun e w' => e = .returned (.tuple #[.int .i64 S, .int .i64 0]) ∧ Below w.heap.size w w') (H5 : ∀ w, Tabs w → Calls Try.prog 26 #[.int .i64 y, .int .i64 7] w fun e w' => e = .returned (.tuple #[.int .i64 F, .int .i64 G, .int .i64 0]) ∧ Below w.heap.size w w') (w : World) (ht : Tabs w) :
    Calls Try.prog 11 #[.int .i64 y, .int .i64 m] w fun e w' => e = .returned (.bool true) ∧ Below w.heap.size w w' := by
  have u1 : decide (R < 0) = false := decide_eq_false (by omega)
  have u2 : decide (25920 ≤ R) = false := decide_eq_false (by omega)
  have u3 : decide (0 ≤ S - F) = true := decide_eq_true (by omega)
  have u4 : decide (S - F ≤ 2) = true := decide_eq_true (by omega)
  have AW := Lib.hid (fun w ht => awake_all w ht)
  replace ht := Lib.hid ht
  replace H1 := Lib.hid H1
  replace H2 := Lib.hid H2
  replace H3 := Lib.hid H3
  replace H4 := Lib.hid H4
  replace H5 := Lib.hid H5
  go_enter Try.func11, Try.ntmps11
  go_wp2_with fail
  refine (AW.out _ (ht.out.below (here w))).mono ?_
  rintro e w1 ⟨rfl, hb⟩
  have A1 := Lib.hid (down (here w) hb)
  clear hb
  go_wp2_with fail
  refine (H1.out _ (ht.out.below A1.out)).mono ?_
  rintro e w2 ⟨rfl, hb⟩
  have A2 := Lib.hid (down A1.out hb)
  clear hb A1
  go_wp2_with fail
  refine (H2.out _ (ht.out.below A2.out)).mono ?_
  rintro e w3 ⟨rfl, hb⟩
  have A3 := Lib.hid (down A2.out hb)
  clear hb A2
  go_wp2_with fail
  refine (H3.out _ (ht.out.below A3.out)).mono ?_
  rintro e w4 ⟨rfl, hb⟩
  have A4 := Lib.hid (down A3.out hb)
  clear hb A3
  go_wp2_with fail
  refine (H4.out _ (ht.out.below A4.out)).mono ?_
  rintro e w5 ⟨rfl, hb⟩
  have A5 := Lib.hid (down A4.out hb)
  clear hb A4
  go_wp2_with fail
  refine (H5.out _ (ht.out.below A5.out)).mono ?_
  rintro e w6 ⟨rfl, hb⟩
  have A6 := Lib.hid (down A5.out hb)
  clear hb A5
  go_wp2
  go_ret
  exact ⟨rfl, by first | exact A6.out | exact grow A6.out _ | exact below_drewN A6.out _ | exact grow (grow A6.out _) _ | exact grow (grow (grow A6.out _) _) _⟩
set_option maxRecDepth 100000 in
set_option maxHeartbeats 2000000 in
theorem good_on (y m N R y2 m2 N2 R2 S F G : Int) (b0 : -3000000 ≤ N) (b1 : N ≤ 9000000) (r0 : 0 ≤ R) (r1 : R < 25920) (c0 : -3000000 ≤ N2) (c1 : N2 ≤ 9000000) (d0 : 0 ≤ R2) (d1 : R2 < 25920) (f0 : -3000000 ≤ F) (f1 : F ≤ 9000000) (s0 : F ≤ S) (s1 : S ≤ F + 2)
    (H1 : ∀ w, Tabs w → Calls Try.prog 26 #[.int .i64 y, .int .i64 m] w fun e w' => e = .returned (.tuple #[.int .i64 N, .int .i64 R, .int .i64 0]) ∧ Below w.heap.size w w') (H2 : ∀ w, Tabs w → Calls Try.prog 36 #[.int .i64 y, .int .i64 m] w fun e w' => e = .returned (.tuple #[.int .i64 y2, .int .i64 m2]) ∧ Below w.heap.size w w')
    (H3 : ∀ w, Tabs w → Calls Try.prog 26 #[.int .i64 y2, .int .i64 m2] w fun e w' => e = .returned (.tuple #[.int .i64 N2, .int .i64 R2, .int .i64 0]) ∧ Below w.heap.size w w') (kv : (N2 - N) * 25920 + R2 - R = 765433)
    (H4 : ∀ w, Tabs w → Calls Try.prog 16 #[.int .i64 y] w fun e w' => e = .returned (.tuple #[.int .i64 S, .int .i64 0]) ∧ Below w.heap.size w w') (H5 : ∀ w, Tabs w → Calls Try.prog 26 #[.int .i64 y, .int .i64 7] w fun e w' => e = .returned (.tuple #[.int .i64 F, .int .i64 G, .int .i64 0]) ∧ Below w.heap.size w w') (w : World) (ht : Tabs w) :
    Calls Try.prog 11 #[.int .i64 y, .int .i64 m] w fun e w' => e = .returned (.bool true) ∧ Below w.heap.size w w' := by
  have u1 : decide (R < 0) = false := decide_eq_false (by omega)
  have u2 : decide (25920 ≤ R) = false := decide_eq_false (by omega)
  have u3 : decide (0 ≤ S - F) = true := decide_eq_true (by omega)
  have u4 : decide (S - F ≤ 2) = true := decide_eq_true (by omega)
  have u5 : ((N2 - N) * 25920 + R2 - R != 765433) = false := by rw [kv]; rfl
  clear kv
  have AW := Lib.hid (fun w ht => awake_all w ht)
  replace ht := Lib.hid ht
  replace H1 := Lib.hid H1
  replace H2 := Lib.hid H2
  replace H3 := Lib.hid H3
  replace H4 := Lib.hid H4
  replace H5 := Lib.hid H5
  go_enter Try.func11, Try.ntmps11
  go_wp2_with fail
  refine (AW.out _ (ht.out.below (here w))).mono ?_
  rintro e w1 ⟨rfl, hb⟩
  have A1 := Lib.hid (down (here w) hb)
  clear hb
  go_wp2_with fail
  refine (H1.out _ (ht.out.below A1.out)).mono ?_
  rintro e w2 ⟨rfl, hb⟩
  have A2 := Lib.hid (down A1.out hb)
  clear hb A1
  go_wp2_with fail
  refine (H2.out _ (ht.out.below A2.out)).mono ?_
  rintro e w3 ⟨rfl, hb⟩
  have A3 := Lib.hid (down A2.out hb)
  clear hb A2
  go_wp2_with fail
  refine (H3.out _ (ht.out.below A3.out)).mono ?_
  rintro e w4 ⟨rfl, hb⟩
  have A4 := Lib.hid (down A3.out hb)
  clear hb A3
  go_wp2_with fail
  refine (H4.out _ (ht.out.below A4.out)).mono ?_
  rintro e w5 ⟨rfl, hb⟩
  have A5 := Lib.hid (down A4.out hb)
  clear hb A4
  go_wp2_with fail
  refine (H5.out _ (ht.out.below A5.out)).mono ?_
  rintro e w6 ⟨rfl, hb⟩
  have A6 := Lib.hid (down A5.out hb)
  clear hb A5
  go_wp2
  go_ret
  exact ⟨rfl, by first | exact A6.out | exact grow A6.out _ | exact below_drewN A6.out _ | exact grow (grow A6.out _) _ | exact grow (grow (grow A6.out _) _) _⟩
theorem walk (y m : Int) (hy : (Lit.int .i64 y).wf = true) (hm : (Lit.int .i64 m).wf = true) (w : World) (ht : Tabs w) :
    Calls Try.prog 11 #[.int .i64 y, .int .i64 m] w fun e w' => e = .returned (.bool true) ∧ Below w.heap.size w w' := by
  replace hy := i64_wf hy
  replace hm := i64_wf hm
  have H1 := fun w ht => uhmol y m hy hm w ht
  have nb := hmn_bd y
  cases h : hmolB y m
  · rw [show hmolN y m = 0 by unfold hmolN; rw [h]; rfl, show hmolR y m = 0 by unfold hmolR; rw [h]; rfl, show hmolE y m = 2 by unfold hmolE; rw [h]; rfl] at H1
    refine bad y m (hmn y) hm nb.2 nb.1 ?_ H1 (fun w ht => uhmonths y hy w ht) w ht
    have q : ¬ (1 ≤ m ∧ m ≤ hmn y) := fun q => by rw [hmolB_iff.2 q] at h; exact absurd h (by simp)
    by_cases z : m < 1
    · exact .inl (decide_eq_true z)
    · exact .inr ⟨decide_eq_false z, decide_eq_true (by omega)⟩
  · have q := hmolB_iff.1 h
    have hyt := hmolB_yr h
    obtain ⟨y0, y1⟩ := hyr_iff.1 hyt
    rw [show hmolE y m = 0 by unfold hmolE; rw [h]; rfl] at H1
    have b := hmol_bd y m
    have b2 := hmol_bd (hfolY y m) (hfolM y m)
    have b7 := hmol_bd y 7
    have h7 : hmolB y 7 = true := hmolB_iff.2 ⟨by omega, by rcases hmn_in hyt with ⟨-, z⟩ | ⟨-, z⟩ <;> omega⟩
    have fy : 1 ≤ hfolY y m ∧ hfolY y m ≤ 20001 := by unfold hfolY; split <;> omega
    have fm : 1 ≤ hfolM y m ∧ hfolM y m ≤ 20 := by unfold hfolM; split <;> (try split) <;> omega
    have H2 := fun w ht => ufol y m y0 y1 q.1 (by omega) w ht
    have H3 := fun w ht => uhmol (hfolY y m) (hfolM y m) ⟨by omega, by omega⟩ ⟨by omega, by omega⟩ w ht
    have H4 := fun w ht => uhnew y hy w ht
    rw [show hnwN y = hN y by unfold hnwN; rw [hyt]; rfl, show hyE y = 0 by unfold hyE; rw [hyt]; rfl] at H4
    have H5 := fun w ht => uhmol y 7 hy ⟨by omega, by omega⟩ w ht
    rw [show hmolE y 7 = 0 by unfold hmolE; rw [h7]; rfl] at H5
    have e7 : hmolN y 7 = -2092590 + (765433 * hM y - 876) / 25920 := by
      unfold hmolN hmolP; rw [if_pos h7, if_neg (by omega), show (7 : Int) - 7 + hM y = hM y by omega]
    have s := (hyear y).2.2.1
    cases h' : hmolB (hfolY y m) (hfolM y m)
    · rw [show hmolE (hfolY y m) (hfolM y m) = 2 by unfold hmolE; rw [h']; rfl] at H3
      exact good_end y m _ _ _ _ _ _ _ _ _ b.1 b.2.1 b.2.2.1 b.2.2.2 b2.1 b2.2.1 b2.2.2.1 b2.2.2.2 b7.1 b7.2.1 (by omega) (by omega) H1 H2 H3 H4 H5 w ht
    · rw [show hmolE (hfolY y m) (hfolM y m) = 0 by unfold hmolE; rw [h']; rfl] at H3
      exact good_on y m _ _ _ _ _ _ _ _ _ b.1 b.2.1 b.2.2.1 b.2.2.2 b2.1 b2.2.1 b2.2.2.1 b2.2.2.2 b7.1 b7.2.1 (by omega) (by omega) H1 H2 H3 (hmol_next h h') H4 H5 w ht
end HebrewMolads
end Go.Proofs.Ytpkkhkkanpcniaa

/- The contract of package civil's Nth. -/
import Derived.Test.YtdhedkcbkchpgaaDoorCivB
import Derived.Test.YtdhedkcbkchpgaaDoorRefH
namespace Go.Proofs.YtdhedkcbkchpgaaDoor
open Go.RowKit
set_option linter.unusedVariables false

set_option maxHeartbeats 800000 in
theorem cnth_bad (y mo v n : Int) (hy : I64 y) (hm : I64 mo) (hv : I64 v) (h : lenM y mo = 0 ∨ v < 1 ∨ 7 < v ∨ n = 0) (w : World) (ht : Lens w) :
    Calls Tryd.prog 31 #[.int .i64 y, .int .i64 mo, .int .i64 v, .int .i64 n] w fun e w' => e = .returned (.tuple #[.int .i64 0, .int .i64 1]) ∧ Below w.heap.size w w' := by
  have HL := Lib.hid (clen y mo hy hm w ht)
  generalize lenM y mo = l at *
  obtain ⟨a, ha⟩ : ∃ a, (l == 0) = a := ⟨_, rfl⟩
  obtain ⟨b, hb⟩ : ∃ a, decide (v < 1) = a := ⟨_, rfl⟩
  obtain ⟨c, hc⟩ : ∃ a, decide (7 < v) = a := ⟨_, rfl⟩
  obtain ⟨d, hd⟩ : ∃ a, (n == 0) = a := ⟨_, rfl⟩
  have ho : (((a || b) || c) || d) = true := by rw [← ha, ← hb, ← hc, ← hd]; simp only [Bool.or_eq_true, decide_eq_true_eq, beq_iff_eq]; omega
  clear h ht
  go_enter Tryd.func31, Tryd.ntmps31
  go_wp2_with fail
  refine HL.out.mono ?_
  rintro e w' ⟨rfl, rfl⟩
  cases a <;> cases b <;> cases c <;> cases d <;> first | (exact absurd ho (by decide)) | skip
  all_goals clear ho
  all_goals go_wp2
  all_goals go_ret2
  all_goals exact ⟨rfl, Below.refl _ _⟩
theorem cnth_far (y mo v n l : Int) (hy : I64 y) (hm : I64 mo) (hl : lenM y mo = l) (l0 : l ≠ 0) (v0 : 1 ≤ v) (v1 : v ≤ 7) (hn : I64 n) (h : n < -5 ∨ 5 < n) (w : World) (ht : Lens w) :
    Calls Tryd.prog 31 #[.int .i64 y, .int .i64 mo, .int .i64 v, .int .i64 n] w fun e w' => e = .returned (.tuple #[.int .i64 0, .int .i64 7]) ∧ Below w.heap.size w w' := by
  have HL := clen y mo hy hm w ht
  rw [hl] at HL
  replace HL := Lib.hid HL
  have k1 : (l == 0) = false := by simp; omega
  have k2 : decide (v < 1) = false := decide_eq_false (by omega)
  have k3 : decide (7 < v) = false := decide_eq_false (by omega)
  have k4 : (n == 0) = false := by simp; omega
  clear hl l0 ht
  rcases h with h | h
  · have k5 : decide (n < -5) = true := decide_eq_true h
    go_enter Tryd.func31, Tryd.ntmps31
    go_wp2_with fail
    refine HL.out.mono ?_
    rintro e w' ⟨rfl, rfl⟩
    go_wp2
    go_ret2
    exact ⟨rfl, Below.refl _ _⟩
  · have k5 : decide (n < -5) = false := decide_eq_false (by omega)
    have k6 : decide (5 < n) = true := decide_eq_true h
    go_enter Tryd.func31, Tryd.ntmps31
    go_wp2_with fail
    refine HL.out.mono ?_
    rintro e w' ⟨rfl, rfl⟩
    go_wp2
    go_ret2
    exact ⟨rfl, Below.refl _ _⟩
set_option maxHeartbeats 1600000 in
/-- Counted from the first day of the month. -/
theorem cnth_near (y mo v n s l o : Int) (hl : lenM y mo = l) (hs : dayN y mo 1 = s) (l0 : 1 ≤ l) (v0 : 1 ≤ v) (v1 : v ≤ 7) (n0 : 1 ≤ n) (n1 : n ≤ 5) (ho : (v - 1 - (s + 719162)) % 7 = o) (w : World) (ht : Lens w) :
    Calls Tryd.prog 31 #[.int .i64 y, .int .i64 mo, .int .i64 v, .int .i64 n] w fun e w' =>
      e = .returned (.tuple #[.int .i64 (nthD s l o n), .int .i64 (nthE l o n)]) ∧ Below w.heap.size w w' := by
  have hv : vld y mo 1 = true := vld_iff.2 ⟨by omega, by omega⟩
  have hve : vld y mo l = true := vld_iff.2 ⟨by omega, by omega⟩
  obtain ⟨y0, y1, m0, m1, -, -⟩ := vld_bd hv
  obtain ⟨-, -, -, -, -, l1⟩ := vld_bd hve
  have r0 := (day_range hv).1
  have r1 := (day_range hve).2
  have hse : dayN y mo l = s + l - 1 := by rw [← hs]; unfold dayN; omega
  rw [hse] at r1
  rw [hs] at r0
  have HL := fun w ht => clen y mo ⟨by omega, by omega⟩ ⟨by omega, by omega⟩ w ht
  rw [hl] at HL
  replace HL := Lib.hid HL
  have HD := fun w ht => cday_yes y mo 1 hv w ht
  rw [hs] at HD
  replace HD := Lib.hid HD
  have hwk : wkd s = (s + 719162) % 7 + 1 := by unfold wkd; rw [if_neg (by omega)]
  have HW := fun w => cweekday s ⟨by omega, by omega⟩ w
  rw [hwk] at HW
  obtain ⟨x, hx⟩ : ∃ x, (s + 719162) % 7 + 1 = x := ⟨_, rfl⟩
  rw [hx] at HW
  replace HW := Lib.hid HW
  have HM := fun w => cmod7 (v - x) ⟨by omega, by omega⟩ w
  have hxo : (v - x) % 7 = o := by omega
  rw [hxo] at HM
  replace HM := Lib.hid HM
  have o0 : 0 ≤ o ∧ o ≤ 6 := by omega
  have x0 : 1 ≤ x ∧ x ≤ 7 := by omega
  have k1 : (l == 0) = false := by simp; omega
  have k2 : decide (v < 1) = false := decide_eq_false (by omega)
  have k3 : decide (7 < v) = false := decide_eq_false (by omega)
  have k4 : (n == 0) = false := by simp; omega
  have k5 : decide (n < -5) = false := decide_eq_false (by omega)
  have k6 : decide (5 < n) = false := decide_eq_false (by omega)
  have k7 : decide (n < 0) = false := decide_eq_false (by omega)
  have k8 : decide (s + o + 7 * (n - 1) < s) = false := decide_eq_false (by omega)
  have hD : Hid (nthD s l o n = if o + 7 * (n - 1) < l then s + o + 7 * (n - 1) else 0) := rfl
  have hE : Hid (nthE l o n = if o + 7 * (n - 1) < l then 0 else 7) := rfl
  replace ht := Lib.hid ht
  clear hl hs hse hv hve hwk hx hxo ho
  obtain ⟨o0, o1⟩ := o0
  obtain ⟨x0, x1⟩ := x0
  by_cases z : o + 7 * (n - 1) < l
  · have k9 : decide (s + l - 1 < s + o + 7 * (n - 1)) = false := decide_eq_false (by omega)
    have hD : Hid (nthD s l o n = s + o + 7 * (n - 1)) := by show nthD s l o n = _; rw [hD.out, if_pos z]
    have hE : Hid (nthE l o n = 0) := by show nthE l o n = _; rw [hE.out, if_pos z]
    clear z
    go_enter Tryd.func31, Tryd.ntmps31
    go_wp2_with fail
    refine (HL.out _ ht.out).mono ?_
    rintro e w' ⟨rfl, rfl⟩
    go_wp2_with fail
    refine (HD.out _ ht.out).mono ?_
    rintro e w1 ⟨rfl, hb⟩
    have ht2 := Lib.hid (lens_below ht.out hb)
    go_wp2_with fail
    refine (HL.out _ ht2.out).mono ?_
    rintro e w' ⟨rfl, rfl⟩
    go_wp2_with fail
    refine (HW.out _).mono ?_
    rintro e w' ⟨rfl, j1, rfl⟩
    go_wp2_with fail
    refine (HM.out _).mono ?_
    rintro e w' ⟨rfl, j2, rfl⟩
    go_wp2
    go_ret2
    exact ⟨by rw [hD.out, hE.out]; rfl, below_drewN hb _⟩
  · have k9 : decide (s + l - 1 < s + o + 7 * (n - 1)) = true := decide_eq_true (by omega)
    have hD : Hid (nthD s l o n = 0) := by show nthD s l o n = _; rw [hD.out, if_neg z]
    have hE : Hid (nthE l o n = 7) := by show nthE l o n = _; rw [hE.out, if_neg z]
    clear z
    go_enter Tryd.func31, Tryd.ntmps31
    go_wp2_with fail
    refine (HL.out _ ht.out).mono ?_
    rintro e w' ⟨rfl, rfl⟩
    go_wp2_with fail
    refine (HD.out _ ht.out).mono ?_
    rintro e w1 ⟨rfl, hb⟩
    have ht2 := Lib.hid (lens_below ht.out hb)
    go_wp2_with fail
    refine (HL.out _ ht2.out).mono ?_
    rintro e w' ⟨rfl, rfl⟩
    go_wp2_with fail
    refine (HW.out _).mono ?_
    rintro e w' ⟨rfl, j1, rfl⟩
    go_wp2_with fail
    refine (HM.out _).mono ?_
    rintro e w' ⟨rfl, j2, rfl⟩
    go_wp2
    go_ret2
    exact ⟨by rw [hD.out, hE.out]; rfl, below_drewN hb _⟩
set_option maxHeartbeats 1600000 in
/-- Counted from the last day of the month. -/
theorem cnth_back (y mo v n s l o : Int) (hl : lenM y mo = l) (hs : dayN y mo 1 = s) (l0 : 1 ≤ l) (v0 : 1 ≤ v) (v1 : v ≤ 7) (n0 : n ≤ -1) (n1 : -5 ≤ n) (ho : (s + l - 1 + 719162 - (v - 1)) % 7 = o) (w : World) (ht : Lens w) :
    Calls Tryd.prog 31 #[.int .i64 y, .int .i64 mo, .int .i64 v, .int .i64 n] w fun e w' =>
      e = .returned (.tuple #[.int .i64 (nthB s l o (-n)), .int .i64 (nthE l o (-n))]) ∧ Below w.heap.size w w' := by
  have hv : vld y mo 1 = true := vld_iff.2 ⟨by omega, by omega⟩
  have hve : vld y mo l = true := vld_iff.2 ⟨by omega, by omega⟩
  obtain ⟨y0, y1, m0, m1, -, -⟩ := vld_bd hv
  obtain ⟨-, -, -, -, -, l1⟩ := vld_bd hve
  have r0 := (day_range hv).1
  have r1 := (day_range hve).2
  have hse : dayN y mo l = s + l - 1 := by rw [← hs]; unfold dayN; omega
  rw [hse] at r1
  rw [hs] at r0
  have HL := fun w ht => clen y mo ⟨by omega, by omega⟩ ⟨by omega, by omega⟩ w ht
  rw [hl] at HL
  replace HL := Lib.hid HL
  have HD := fun w ht => cday_yes y mo 1 hv w ht
  rw [hs] at HD
  replace HD := Lib.hid HD
  have hwk : wkd s = (s + 719162) % 7 + 1 := by unfold wkd; rw [if_neg (by omega)]
  have HW := fun w => cweekday s ⟨by omega, by omega⟩ w
  rw [hwk] at HW
  obtain ⟨x, hx⟩ : ∃ x, (s + 719162) % 7 + 1 = x := ⟨_, rfl⟩
  rw [hx] at HW
  replace HW := Lib.hid HW
  have HM := fun w => cmod7 (v - x) ⟨by omega, by omega⟩ w
  obtain ⟨t, hxt⟩ : ∃ t, (v - x) % 7 = t := ⟨_, rfl⟩
  rw [hxt] at HM
  replace HM := Lib.hid HM
  have hwk2 : wkd (s + l - 1) = (s + l - 1 + 719162) % 7 + 1 := by unfold wkd; rw [if_neg (by omega)]
  have HW2 := fun w => cweekday (s + l - 1) ⟨by omega, by omega⟩ w
  rw [hwk2] at HW2
  obtain ⟨p, hp⟩ : ∃ x, (s + l - 1 + 719162) % 7 + 1 = x := ⟨_, rfl⟩
  rw [hp] at HW2
  replace HW2 := Lib.hid HW2
  have HM2 := fun w => cmod7 (p - v) ⟨by omega, by omega⟩ w
  have hpo : (p - v) % 7 = o := by omega
  rw [hpo] at HM2
  replace HM2 := Lib.hid HM2
  have o0 : 0 ≤ o ∧ o ≤ 6 := by omega
  have x0 : 1 ≤ x ∧ x ≤ 7 := by omega
  have p0 : 1 ≤ p ∧ p ≤ 7 := by omega
  have t0 : 0 ≤ t ∧ t ≤ 6 := by omega
  have k1 : (l == 0) = false := by simp; omega
  have k2 : decide (v < 1) = false := decide_eq_false (by omega)
  have k3 : decide (7 < v) = false := decide_eq_false (by omega)
  have k4 : (n == 0) = false := by simp; omega
  have k5 : decide (n < -5) = false := decide_eq_false (by omega)
  have k6 : decide (5 < n) = false := decide_eq_false (by omega)
  have k7 : decide (n < 0) = true := decide_eq_true (by omega)
  have k9 : decide (s + l - 1 < s + l - 1 - o + 7 * (n + 1)) = false := decide_eq_false (by omega)
  have hD : Hid (nthB s l o (-n) = if o + 7 * (-n - 1) < l then s + l - 1 - (o + 7 * (-n - 1)) else 0) := rfl
  have hE : Hid (nthE l o (-n) = if o + 7 * (-n - 1) < l then 0 else 7) := rfl
  replace ht := Lib.hid ht
  clear hl hs hse hv hve hwk hx hxt hwk2 hp hpo ho
  obtain ⟨o0, o1⟩ := o0
  obtain ⟨x0, x1⟩ := x0
  obtain ⟨p0, p1⟩ := p0
  obtain ⟨t0, t1⟩ := t0
  by_cases z : o + 7 * (-n - 1) < l
  · have k8 : decide (s + l - 1 - o + 7 * (n + 1) < s) = false := decide_eq_false (by omega)
    have hD : Hid (nthB s l o (-n) = s + l - 1 - o + 7 * (n + 1)) := by show nthB s l o (-n) = _; rw [hD.out, if_pos z]; omega
    have hE : Hid (nthE l o (-n) = 0) := by show nthE l o (-n) = _; rw [hE.out, if_pos z]
    clear z
    go_enter Tryd.func31, Tryd.ntmps31
    go_wp2_with fail
    refine (HL.out _ ht.out).mono ?_
    rintro e w' ⟨rfl, rfl⟩
    go_wp2_with fail
    refine (HD.out _ ht.out).mono ?_
    rintro e w1 ⟨rfl, hb⟩
    have ht2 := Lib.hid (lens_below ht.out hb)
    go_wp2_with fail
    refine (HL.out _ ht2.out).mono ?_
    rintro e w' ⟨rfl, rfl⟩
    go_wp2_with fail
    refine (HW.out _).mono ?_
    rintro e w' ⟨rfl, j1, rfl⟩
    go_wp2_with fail
    refine (HM.out _).mono ?_
    rintro e w' ⟨rfl, j2, rfl⟩
    go_wp2_with fail
    refine (HW2.out _).mono ?_
    rintro e w' ⟨rfl, j3, rfl⟩
    go_wp2_with fail
    refine (HM2.out _).mono ?_
    rintro e w' ⟨rfl, j4, rfl⟩
    go_wp2
    go_ret2
    exact ⟨by rw [hD.out, hE.out]; rfl, below_drewN hb _⟩
  · have k8 : decide (s + l - 1 - o + 7 * (n + 1) < s) = true := decide_eq_true (by omega)
    have hD : Hid (nthB s l o (-n) = 0) := by show nthB s l o (-n) = _; rw [hD.out, if_neg z]
    have hE : Hid (nthE l o (-n) = 7) := by show nthE l o (-n) = _; rw [hE.out, if_neg z]
    clear z
    go_enter Tryd.func31, Tryd.ntmps31
    go_wp2_with fail
    refine (HL.out _ ht.out).mono ?_
    rintro e w' ⟨rfl, rfl⟩
    go_wp2_with fail
    refine (HD.out _ ht.out).mono ?_
    rintro e w1 ⟨rfl, hb⟩
    have ht2 := Lib.hid (lens_below ht.out hb)
    go_wp2_with fail
    refine (HL.out _ ht2.out).mono ?_
    rintro e w' ⟨rfl, rfl⟩
    go_wp2_with fail
    refine (HW.out _).mono ?_
    rintro e w' ⟨rfl, j1, rfl⟩
    go_wp2_with fail
    refine (HM.out _).mono ?_
    rintro e w' ⟨rfl, j2, rfl⟩
    go_wp2_with fail
    refine (HW2.out _).mono ?_
    rintro e w' ⟨rfl, j3, rfl⟩
    go_wp2_with fail
    refine (HM2.out _).mono ?_
    rintro e w' ⟨rfl, j4, rfl⟩
    go_wp2
    go_ret2
    exact ⟨by rw [hD.out, hE.out]; rfl, below_drewN hb _⟩
/-- The n-th date with a weekday, for any n from 1 on, and from -1 down. -/
theorem cnth_pos (y mo v n s l o : Int) (hl : lenM y mo = l) (hs : dayN y mo 1 = s) (l0 : 1 ≤ l) (v0 : 1 ≤ v) (v1 : v ≤ 7) (n0 : 1 ≤ n) (n1 : I64 n) (ho : (v - 1 - (s + 719162)) % 7 = o) (w : World) (ht : Lens w) :
    Calls Tryd.prog 31 #[.int .i64 y, .int .i64 mo, .int .i64 v, .int .i64 n] w fun e w' =>
      e = .returned (.tuple #[.int .i64 (nthD s l o n), .int .i64 (nthE l o n)]) ∧ Below w.heap.size w w' := by
  by_cases z : n ≤ 5
  · exact cnth_near y mo v n s l o hl hs l0 v0 v1 n0 z ho w ht
  · have hve : vld y mo l = true := vld_iff.2 ⟨by omega, by omega⟩
    obtain ⟨y0, y1, m0, m1, -, l1⟩ := vld_bd hve
    have e1 : nthD s l o n = 0 := by unfold nthD; rw [if_neg (by omega)]
    have e2 : nthE l o n = 7 := by unfold nthE; rw [if_neg (by omega)]
    rw [e1, e2]
    exact cnth_far y mo v n l ⟨by omega, by omega⟩ ⟨by omega, by omega⟩ hl (by omega) v0 v1 n1 (.inr (by omega)) w ht
theorem cnth_neg (y mo v n s l o : Int) (hl : lenM y mo = l) (hs : dayN y mo 1 = s) (l0 : 1 ≤ l) (v0 : 1 ≤ v) (v1 : v ≤ 7) (n0 : n < 0) (n1 : I64 n) (ho : (s + l - 1 + 719162 - (v - 1)) % 7 = o) (w : World) (ht : Lens w) :
    Calls Tryd.prog 31 #[.int .i64 y, .int .i64 mo, .int .i64 v, .int .i64 n] w fun e w' =>
      e = .returned (.tuple #[.int .i64 (nthB s l o (-n)), .int .i64 (nthE l o (-n))]) ∧ Below w.heap.size w w' := by
  by_cases z : -5 ≤ n
  · exact cnth_back y mo v n s l o hl hs l0 v0 v1 (by omega) z ho w ht
  · have hve : vld y mo l = true := vld_iff.2 ⟨by omega, by omega⟩
    obtain ⟨y0, y1, m0, m1, -, l1⟩ := vld_bd hve
    have e1 : nthB s l o (-n) = 0 := by unfold nthB; rw [if_neg (by omega)]
    have e2 : nthE l o (-n) = 7 := by unfold nthE; rw [if_neg (by omega)]
    rw [e1, e2]
    exact cnth_far y mo v n l ⟨by omega, by omega⟩ ⟨by omega, by omega⟩ hl (by omega) v0 v1 n1 (.inl (by omega)) w ht
end Go.Proofs.YtdhedkcbkchpgaaDoor

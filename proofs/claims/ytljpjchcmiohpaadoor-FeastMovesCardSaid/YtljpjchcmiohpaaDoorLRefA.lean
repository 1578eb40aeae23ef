/- Contracts of civiltimeref02: Leap, Length, Weekday, Valid, YearDay, Day, Date. -/
import Derived.Test.YtljpjchcmiohpaaDoorProg

import Derived.Test.YtljpjchcmiohpaaDoorLGen

import Derived.Test.YtljpjchcmiohpaaDoorLCal

import Derived.WalkKit

import Derived.Outline

import Derived.Deep.QuietTactic

import Derived.BigQuiet

import Derived.Deep.RegionWith

import Derived.Laws.BitsLemmas

namespace Go.Proofs.YtljpjchcmiohpaaDoor

open Go.RowKit

set_option linter.unusedVariables false


theorem refleap (y : Int) (h0 : -9223372036854775808 ≤ y) (h1 : y ≤ 9223372036854775807) (w : World) :
    Calls Tryd.prog 64 #[.int .i64 y] w fun e w' => e = .returned (.bool (leapB y)) ∧ w = w' := by
  by_cases a : y < 1
  · have k : decide (y < 1) = true := decide_eq_true a
    have e : leapB y = false := by rw [← Bool.not_eq_true, leapB_iff]; omega
    rw [e]
    go_enter Tryd.func64, Tryd.ntmps64
    go_wp2
    go_ret
    exact ⟨rfl, rfl⟩
  · have k : decide (y < 1) = false := decide_eq_false a
    by_cases b : 9999 < y
    · have k2 : decide (9999 < y) = true := decide_eq_true b
      have e : leapB y = false := by rw [← Bool.not_eq_true, leapB_iff]; omega
      rw [e]
      go_enter Tryd.func64, Tryd.ntmps64
      go_wp2
      go_ret
      exact ⟨rfl, rfl⟩
    · have k2 : decide (9999 < y) = false := decide_eq_false b
      have e : leapB y = ((y % 400 == 0) || ((y % 4 == 0) && (y % 100 != 0))) := by
        rw [Bool.eq_iff_iff, leapB_iff]
        simp only [Bool.or_eq_true, Bool.and_eq_true, beq_iff_eq, bne_iff_ne]
        omega
      rw [e]
      obtain ⟨p, hp⟩ : ∃ p, (y % 400 == 0) = p := ⟨_, rfl⟩
      obtain ⟨q, hq⟩ : ∃ p, (y % 4 == 0) = p := ⟨_, rfl⟩
      obtain ⟨r, hr⟩ : ∃ p, (y % 100 != 0) = p := ⟨_, rfl⟩
      rw [hp, hq, hr]
      cases p <;> cases q <;> cases r
      all_goals
        go_enter Tryd.func64, Tryd.ntmps64
        go_wp2
        go_ret
        exact ⟨rfl, rfl⟩
theorem reffirst (y : Int) (h0 : 1 ≤ y) (h1 : y ≤ 10000) (w : World) :
    Calls Tryd.prog 54 #[.int .i64 y] w fun e w' => e = .returned (.int .i64 (first y)) ∧ w = w' := by
  have hf : first y = -719162 + 365 * (y - 1) + (y - 1) / 4 - (y - 1) / 100 + (y - 1) / 400 := rfl
  replace hf := Lib.hid hf
  go_enter Tryd.func54, Tryd.ntmps54
  go_wp2
  go_ret
  exact ⟨by rw [hf.out]; rfl, rfl⟩
set_option maxHeartbeats 400000 in
theorem reflen (y m : Int) (h0 : -9223372036854775808 ≤ y) (h1 : y ≤ 9223372036854775807) (h2 : -9223372036854775808 ≤ m) (h3 : m ≤ 9223372036854775807) (w : World) :
    Calls Tryd.prog 59 #[.int .i64 y, .int .i64 m] w fun e w' => e = .returned (.int .i64 (lenM y m)) ∧ w = w' := by
  have HL := Lib.hid (fun w => refleap y h0 h1 w)
  obtain ⟨a, ha⟩ : ∃ a, decide (y < 1) = a := ⟨_, rfl⟩
  obtain ⟨b, hb⟩ : ∃ a, decide (9999 < y) = a := ⟨_, rfl⟩
  obtain ⟨c, hc⟩ : ∃ a, decide (m < 1) = a := ⟨_, rfl⟩
  obtain ⟨d, hd⟩ : ∃ a, decide (12 < m) = a := ⟨_, rfl⟩
  by_cases k : y < 1 ∨ 9999 < y ∨ m < 1 ∨ 12 < m
  · rw [lenM_out k]
    have t : (a || b || c || d) = true := by
      subst ha; subst hb; subst hc; subst hd; simp only [Bool.or_eq_true, decide_eq_true_eq]; omega
    clear k
    cases a <;> cases b <;> cases c <;> cases d <;> (try cases t)
    all_goals
      go_enter Tryd.func59, Tryd.ntmps59
      go_wp2
      go_ret
      exact ⟨rfl, rfl⟩
  · have t : a = false ∧ b = false ∧ c = false ∧ d = false := by
      subst ha; subst hb; subst hc; subst hd; simp only [decide_eq_false_iff_not]; omega
    obtain ⟨rfl, rfl, rfl, rfl⟩ := t
    have e : lenM y m = if m = 2 then 28 + lp y else if m = 4 ∨ m = 6 ∨ m = 9 ∨ m = 11 then 30 else 31 := by unfold lenM; rw [if_neg k]
    by_cases m2 : m = 2
    · subst m2
      rw [if_pos rfl] at e
      have e' : Hid (lenM y 2 = 28 + lp y) := e
      clear e k
      obtain ⟨l, hl⟩ : ∃ l, leapB y = l := ⟨_, rfl⟩
      have hlp : Hid (lp y = if l then 1 else 0) := by show lp y = _; unfold lp; rw [hl]
      rw [hl] at HL
      clear hl
      cases l
      all_goals
        go_enter Tryd.func59, Tryd.ntmps59
        go_wp2_with fail
        refine (HL.out _).mono ?_
        rintro e w' ⟨rfl, rfl⟩
        go_wp2
        go_ret
        exact ⟨by rw [e'.out, hlp.out]; rfl, rfl⟩
    · rw [if_neg m2] at e
      have k2 : (m == 2) = false := by simpa using m2
      by_cases s : m = 4 ∨ m = 6 ∨ m = 9 ∨ m = 11
      · rw [if_pos s] at e
        replace e := Lib.hid e
        clear HL k m2
        rcases s with rfl | rfl | rfl | rfl
        all_goals
          go_enter Tryd.func59, Tryd.ntmps59
          go_wp2
          go_ret
          exact ⟨by rw [e.out]; rfl, rfl⟩
      · rw [if_neg s] at e
        replace e := Lib.hid e
        have k4 : (m == 4) = false := by simp; omega
        have k6 : (m == 6) = false := by simp; omega
        have k9 : (m == 9) = false := by simp; omega
        have k11 : (m == 11) = false := by simp; omega
        clear HL k m2 s
        go_enter Tryd.func59, Tryd.ntmps59
        go_wp2
        go_ret
        exact ⟨by rw [e.out]; rfl, rfl⟩
theorem refweekday (n : Int) (h0 : -9223372036854775808 ≤ n) (h1 : n ≤ 9223372036854775807) (w : World) :
    Calls Tryd.prog 56 #[.int .i64 n] w fun e w' => e = .returned (.int .i64 (wkd n)) ∧ w = w' := by
  by_cases k : n < -719162 ∨ 2932897 ≤ n
  · have e : Hid (wkd n = 0) := by show wkd n = 0; unfold wkd; rw [if_pos k]
    rcases k with k | k
    · have k1 : decide (n < -719162) = true := decide_eq_true k
      go_enter Tryd.func56, Tryd.ntmps56
      go_wp2
      go_ret
      exact ⟨by rw [e.out]; rfl, rfl⟩
    · have k1 : decide (n < -719162) = false := decide_eq_false (by omega)
      have k2 : decide (2932897 ≤ n) = true := decide_eq_true k
      go_enter Tryd.func56, Tryd.ntmps56
      go_wp2
      go_ret
      exact ⟨by rw [e.out]; rfl, rfl⟩
  · have e : Hid (wkd n = (n + 719162) % 7 + 1) := by show wkd n = _; unfold wkd; rw [if_neg k]
    have k1 : decide (n < -719162) = false := decide_eq_false (by omega)
    have k2 : decide (2932897 ≤ n) = false := decide_eq_false (by omega)
    go_enter Tryd.func56, Tryd.ntmps56
    go_wp2
    go_ret
    exact ⟨by rw [e.out]; rfl, rfl⟩
theorem refvalid (y m d : Int) (hy : I64 y) (hm : I64 m) (hd : I64 d) (w : World) :
    Calls Tryd.prog 53 #[.agg #[.int .i64 y, .int .i64 m, .int .i64 d]] w fun e w' => e = .returned (.bool (vld y m d)) ∧ Below w.heap.size w w' := by
  have HL := Lib.hid (fun w => reflen y m hy.1 hy.2 hm.1 hm.2 w)
  rw [vld_split]
  generalize lenM y m = l at *
  by_cases a : 1 ≤ d
  · have k : decide (1 ≤ d) = true := decide_eq_true a
    rw [k]
    go_enter Tryd.func53, Tryd.ntmps53
    go_wp2
    go_quiet ((go_at_call 59; exact qleft (HL.out _)))
    go_wp2
    go_ret
    exact ⟨rfl, below_drewN ((Below.refl _ _).alloc (Nat.le_refl _) _) _⟩
  · have k : decide (1 ≤ d) = false := decide_eq_false a
    rw [k]
    go_enter Tryd.func53, Tryd.ntmps53
    go_wp2
    go_quiet (fail)
    go_wp2
    go_ret
    exact ⟨rfl, below_drewN ((Below.refl _ _).alloc (Nat.le_refl _) _) _⟩
theorem refyearday_no (y m d : Int) (hy : I64 y) (hm : I64 m) (hd : I64 d) (h : vld y m d = false) (w : World) :
    Calls Tryd.prog 55 #[.agg #[.int .i64 y, .int .i64 m, .int .i64 d]] w fun e w' => e = .returned (.int .i64 0) ∧ Below w.heap.size w w' := by
  have HV := fun w => refvalid y m d hy hm hd w
  rw [h] at HV
  replace HV := Lib.hid HV
  go_enter Tryd.func55, Tryd.ntmps55
  go_wp2_with fail
  refine (HV.out _).mono ?_
  rintro e w1 ⟨rfl, hb⟩
  have hb2 := box_below hb
  obtain ⟨c0, c1, c2⟩ := box_cells hb
  go_wp2
  go_ret
  exact ⟨rfl, hb2⟩
set_option maxHeartbeats 400000 in
theorem refyearday_yes (y m d : Int) (h : vld y m d = true) (w : World) :
    Calls Tryd.prog 55 #[.agg #[.int .i64 y, .int .i64 m, .int .i64 d]] w fun e w' => e = .returned (.int .i64 (cum y m + d)) ∧ Below w.heap.size w w' := by
  obtain ⟨y0, y1, m0, m1, d0, d1⟩ := vld_bd h
  have HV := fun w => refvalid y m d ⟨by omega, by omega⟩ ⟨by omega, by omega⟩ ⟨by omega, by omega⟩ w
  rw [h] at HV
  replace HV := Lib.hid HV
  clear h
  go_enter Tryd.func55, Tryd.ntmps55
  go_wp2_with fail
  refine (HV.out _).mono ?_
  rintro e w1 ⟨rfl, hb⟩
  have hb2 := box_below hb
  obtain ⟨c0, c1, c2⟩ := box_cells hb
  clear hb HV
  go_wp2
  go_loop [3, 4] (fun a b => ∃ (k n : Int), 1 ≤ k ∧ k ≤ m ∧ 0 ≤ n ∧ n ≤ 366 ∧ Hid (n = cum y k) ∧ a = .int .i64 (d + n) ∧ b = .int .i64 k) (fun _ b => (m - intOf b).toNat)
  case atStart => exact ⟨1, 0, by omega, m0, by omega, by omega, (cum_one y).symm, by rw [Int.add_zero], rfl⟩
  case round =>
    obtain ⟨k, n, k0, k1, n0, n1, HC, rfl, rfl⟩ := hrel
    by_cases z : k < m
    · have kz : decide (k < m) = true := decide_eq_true z
      have HS := cum_succ y0 y1 k0 (by omega)
      have hl := lenM_in y0 y1 k0 (show k ≤ 12 by omega)
      have hbd := cum_bd y0 y1 (m := k + 1) (by omega) (by omega)
      rw [HS, ← HC.out] at hbd
      have HC' : Hid (n + lenM y k = cum y (k + 1)) := by show n + lenM y k = cum y (k + 1); rw [HS, ← HC.out]
      have HL := Lib.hid (fun w => reflen y k (by omega) (by omega) (by omega) (by omega) w)
      clear HS HC
      generalize lenM y k = l at *
      obtain ⟨hl0, hl1⟩ := hl
      obtain ⟨hb0, hb1⟩ := hbd
      go_wp2_with fail
      refine (HL.out _).mono ?_
      rintro e w' ⟨rfl, rfl⟩
      go_wp2
      go_round
      case rel => exact ⟨k + 1, n + l, by omega, by omega, by omega, by omega, HC', by rw [Int.add_assoc], rfl⟩
      case measure => simp [intOf]; omega
    · obtain rfl : k = m := by omega
      have kz : decide (k < k) = false := decide_eq_false z
      have HE : Hid (cum y k + d = d + n) := by show cum y k + d = d + n; rw [← HC.out]; omega
      clear HC
      go_wp2
      go_ret
      exact ⟨by rw [HE.out]; rfl, hb2⟩
theorem refyearday (y m d : Int) (hy : I64 y) (hm : I64 m) (hd : I64 d) (w : World) :
    Calls Tryd.prog 55 #[.agg #[.int .i64 y, .int .i64 m, .int .i64 d]] w fun e w' => e = .returned (.int .i64 (ydy y m d)) ∧ Below w.heap.size w w' := by
  unfold ydy
  by_cases h : vld y m d = true
  · rw [if_pos h]; exact refyearday_yes y m d h w
  · rw [if_neg h]; exact refyearday_no y m d hy hm hd (by simpa using h) w

theorem refday_no (y m d : Int) (hy : I64 y) (hm : I64 m) (hd : I64 d) (h : vld y m d = false) (w : World) :
    Calls Tryd.prog 36 #[.agg #[.int .i64 y, .int .i64 m, .int .i64 d]] w fun e w' => e = .returned (.tuple #[.int .i64 0, .int .i64 1]) ∧ Below w.heap.size w w' := by
  have HV := fun w => refvalid y m d hy hm hd w
  rw [h] at HV
  replace HV := Lib.hid HV
  go_enter Tryd.func36, Tryd.ntmps36
  go_wp2_with fail
  refine (HV.out _).mono ?_
  rintro e w1 ⟨rfl, hb⟩
  have hb2 := box_below hb
  obtain ⟨c0, c1, c2⟩ := box_cells hb
  go_wp2
  go_ret2
  exact ⟨rfl, hb2⟩
set_option maxHeartbeats 400000 in
theorem refday_yes (y m d : Int) (h : vld y m d = true) (w : World) :
    Calls Tryd.prog 36 #[.agg #[.int .i64 y, .int .i64 m, .int .i64 d]] w fun e w' => e = .returned (.tuple #[.int .i64 (dayN y m d), .int .i64 0]) ∧ Below w.heap.size w w' := by
  obtain ⟨y0, y1, m0, m1, d0, d1⟩ := vld_bd h
  have HV := fun w => refvalid y m d ⟨by omega, by omega⟩ ⟨by omega, by omega⟩ ⟨by omega, by omega⟩ w
  have HY := Lib.hid (fun w => refyearday_yes y m d h w)
  have HF := Lib.hid (fun w => reffirst y y0 (by omega) w)
  rw [h] at HV
  replace HV := Lib.hid HV
  have hc := cum_bd y0 y1 m0 (show m ≤ 13 by omega)
  have hf := day_in h
  have hr := day_range h
  have HD : Hid (dayN y m d = first y + (cum y m + d) - 1) := by show dayN y m d = _; omega
  have hf1 := first_le (y := 1) (z := y) (by omega) y0 (by omega)
  rw [first_one] at hf1
  obtain ⟨f0, f1⟩ : -719162 ≤ first y ∧ first y ≤ 2932897 := by omega
  clear hf hr h hf1
  generalize cum y m = c at *
  generalize first y = f at *
  obtain ⟨hc0, hc1⟩ := hc
  go_enter Tryd.func36, Tryd.ntmps36
  go_wp2_with fail
  refine (HV.out _).mono ?_
  rintro e w1 ⟨rfl, hb⟩
  have hb2 := box_below hb
  obtain ⟨c0, c1, c2⟩ := box_cells hb
  clear hb HV
  go_wp2_with fail
  go_region_with (first | (go_at_call 54; refine (HF.out _).mono ?_; rintro e w' ⟨rfl, rfl⟩) | (go_at_call 55; refine (HY.out _).mono ?_; rintro e w2 ⟨rfl, hb3⟩))
  all_goals
    go_wp2
    go_ret2
    refine ⟨?_, hb2.drew.trans (hb3.mono hb2.size)⟩
    rw [HD.out]
    go_simp
    rw [IntKind.wrap_i64, IntKind.wrap_i64]
    omega

end Go.Proofs.YtljpjchcmiohpaaDoor

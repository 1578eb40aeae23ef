/- Contracts of civiltimeref02: Leap, Length, Weekday, Valid, YearDay, Day, Date. -/
import Derived.Test.YtehbegjocdahmaaGreatDoorProg

import Derived.Test.YtehbegjocdahmaaGreatDoorLGen

import Derived.Test.YtehbegjocdahmaaGreatDoorLCal

import Derived.WalkKit

import Derived.Outline

import Derived.Deep.QuietTactic

import Derived.BigQuiet

import Derived.Deep.RegionWith

import Derived.Laws.BitsLemmas

namespace Go.Proofs.YtehbegjocdahmaaGreatDoor

open Go.RowKit

set_option linter.unusedVariables false


theorem refleap (y : Int) (h0 : -9223372036854775808 ≤ y) (h1 : y ≤ 9223372036854775807) (w : World) :
    Calls Tryz.prog 61 #[.int .i64 y] w fun e w' => e = .returned (.bool (leapB y)) ∧ w = w' := by
  by_cases a : y < 1
  · have k : decide (y < 1) = true := decide_eq_true a
    have e : leapB y = false := by rw [← Bool.not_eq_true, leapB_iff]; omega
    rw [e]
    go_enter Tryz.func61, Tryz.ntmps61
    go_wp2
    go_ret
    exact ⟨rfl, rfl⟩
  · have k : decide (y < 1) = false := decide_eq_false a
    by_cases b : 9999 < y
    · have k2 : decide (9999 < y) = true := decide_eq_true b
      have e : leapB y = false := by rw [← Bool.not_eq_true, leapB_iff]; omega
      rw [e]
      go_enter Tryz.func61, Tryz.ntmps61
      go_wp2
      go_ret
      exact ⟨rfl, rfl⟩
    · have k2 : decide (9999 < y) = false := decide_eq_false b
      have e : leapB y = ((y % 400 == 0) || ((y % 4 == 0) && (y % 100 != 0))) := by
        rw [Bool.eq_iff_iff, leapB_iff]
        simp only [Bool.or_eq_true, Bool.and_eq_true, beq_iff_eq, bne_iff_ne]
        omega
      rw [e]
      obtain ⟨p, hp⟩ : ∃ p, (y % 400 == 0) = p := ⟨_, rfl⟩
      obtain ⟨q, hq⟩ : ∃ p, (y % 4 == 0) = p := ⟨_, rfl⟩
      obtain ⟨r, hr⟩ : ∃ p, (y % 100 != 0) = p := ⟨_, rfl⟩
      rw [hp, hq, hr]
      cases p <;> cases q <;> cases r
      all_goals
        go_enter Tryz.func61, Tryz.ntmps61
        go_wp2
        go_ret
        exact ⟨rfl, rfl⟩
set_option maxHeartbeats 400000 in
theorem reflen (y m : Int) (h0 : -9223372036854775808 ≤ y) (h1 : y ≤ 9223372036854775807) (h2 : -9223372036854775808 ≤ m) (h3 : m ≤ 9223372036854775807) (w : World) :
    Calls Tryz.prog 39 #[.int .i64 y, .int .i64 m] w fun e w' => e = .returned (.int .i64 (lenM y m)) ∧ w = w' := by
  have HL := Lib.hid (fun w => refleap y h0 h1 w)
  obtain ⟨a, ha⟩ : ∃ a, decide (y < 1) = a := ⟨_, rfl⟩
  obtain ⟨b, hb⟩ : ∃ a, decide (9999 < y) = a := ⟨_, rfl⟩
  obtain ⟨c, hc⟩ : ∃ a, decide (m < 1) = a := ⟨_, rfl⟩
  obtain ⟨d, hd⟩ : ∃ a, decide (12 < m) = a := ⟨_, rfl⟩
  by_cases k : y < 1 ∨ 9999 < y ∨ m < 1 ∨ 12 < m
  · rw [lenM_out k]
    have t : (a || b || c || d) = true := by
      subst ha; subst hb; subst hc; subst hd; simp only [Bool.or_eq_true, decide_eq_true_eq]; omega
    clear k
    cases a <;> cases b <;> cases c <;> cases d <;> (try cases t)
    all_goals
      go_enter Tryz.func39, Tryz.ntmps39
      go_wp2
      go_ret
      exact ⟨rfl, rfl⟩
  · have t : a = false ∧ b = false ∧ c = false ∧ d = false := by
      subst ha; subst hb; subst hc; subst hd; simp only [decide_eq_false_iff_not]; omega
    obtain ⟨rfl, rfl, rfl, rfl⟩ := t
    have e : lenM y m = if m = 2 then 28 + lp y else if m = 4 ∨ m = 6 ∨ m = 9 ∨ m = 11 then 30 else 31 := by unfold lenM; rw [if_neg k]
    by_cases m2 : m = 2
    · subst m2
      rw [if_pos rfl] at e
      have e' : Hid (lenM y 2 = 28 + lp y) := e
      clear e k
      obtain ⟨l, hl⟩ : ∃ l, leapB y = l := ⟨_, rfl⟩
      have hlp : Hid (lp y = if l then 1 else 0) := by show lp y = _; unfold lp; rw [hl]
      rw [hl] at HL
      clear hl
      cases l
      all_goals
        go_enter Tryz.func39, Tryz.ntmps39
        go_wp2_with fail
        refine (HL.out _).mono ?_
        rintro e w' ⟨rfl, rfl⟩
        go_wp2
        go_ret
        exact ⟨by rw [e'.out, hlp.out]; rfl, rfl⟩
    · rw [if_neg m2] at e
      have k2 : (m == 2) = false := by simpa using m2
      by_cases s : m = 4 ∨ m = 6 ∨ m = 9 ∨ m = 11
      · rw [if_pos s] at e
        replace e := Lib.hid e
        clear HL k m2
        rcases s with rfl | rfl | rfl | rfl
        all_goals
          go_enter Tryz.func39, Tryz.ntmps39
          go_wp2
          go_ret
          exact ⟨by rw [e.out]; rfl, rfl⟩
      · rw [if_neg s] at e
        replace e := Lib.hid e
        have k4 : (m == 4) = false := by simp; omega
        have k6 : (m == 6) = false := by simp; omega
        have k9 : (m == 9) = false := by simp; omega
        have k11 : (m == 11) = false := by simp; omega
        clear HL k m2 s
        go_enter Tryz.func39, Tryz.ntmps39
        go_wp2
        go_ret
        exact ⟨by rw [e.out]; rfl, rfl⟩
theorem refvalid (y m d : Int) (hy : I64 y) (hm : I64 m) (hd : I64 d) (w : World) :
    Calls Tryz.prog 17 #[.agg #[.int .i64 y, .int .i64 m, .int .i64 d]] w fun e w' => e = .returned (.bool (vld y m d)) ∧ Below w.heap.size w w' := by
  have HL := Lib.hid (fun w => reflen y m hy.1 hy.2 hm.1 hm.2 w)
  rw [vld_split]
  generalize lenM y m = l at *
  by_cases a : 1 ≤ d
  · have k : decide (1 ≤ d) = true := decide_eq_true a
    rw [k]
    go_enter Tryz.func17, Tryz.ntmps17
    go_wp2
    go_quiet ((go_at_call 39; exact qleft (HL.out _)))
    go_wp2
    go_ret
    exact ⟨rfl, below_drewN ((Below.refl _ _).alloc (Nat.le_refl _) _) _⟩
  · have k : decide (1 ≤ d) = false := decide_eq_false a
    rw [k]
    go_enter Tryz.func17, Tryz.ntmps17
    go_wp2
    go_quiet (fail)
    go_wp2
    go_ret
    exact ⟨rfl, below_drewN ((Below.refl _ _).alloc (Nat.le_refl _) _) _⟩
end Go.Proofs.YtehbegjocdahmaaGreatDoor

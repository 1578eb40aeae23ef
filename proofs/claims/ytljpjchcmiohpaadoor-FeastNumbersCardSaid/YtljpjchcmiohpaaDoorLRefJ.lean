/- Contracts of civiltimeref05. -/
import Derived.Test.YtljpjchcmiohpaaDoorLJuM

import Derived.Test.YtljpjchcmiohpaaDoorLGen

import Derived.Test.YtljpjchcmiohpaaDoorLRefI

import Derived.Test.YtljpjchcmiohpaaDoorProg

import Derived.WalkKit

import Derived.Outline

import Derived.Deep.QuietTactic

import Derived.BigQuiet

import Derived.Deep.RegionWith

import Derived.Laws.BitsLemmas

namespace Go.Proofs.YtljpjchcmiohpaaDoor

open Go.RowKit

set_option linter.unusedVariables false
theorem jfirst_bd {y : Int} (y0 : 1 ≤ y) (y1 : y ≤ 9999) : -719164 ≤ jfirst y ∧ jfirst y ≤ 2932970 := by unfold jfirst; omega
theorem jday_bd {y m d : Int} (h : jvld y m d = true) : -719164 ≤ jdayN y m d ∧ jdayN y m d ≤ 2933400 := by
  obtain ⟨y0, y1, m0, m1, d0, d1⟩ := jvld_bd h
  have a := jfirst_bd y0 y1
  have b := jcum_bd y0 y1 m0 (show m ≤ 13 by omega)
  unfold jdayN; omega
theorem leap_jleap {y : Int} (h : leapB y = true) : jleapB y = true := by
  have k := leapB_iff.1 h; exact jleapB_iff.2 (by omega)
theorem lenM_two {y : Int} (y0 : 1 ≤ y) (y1 : y ≤ 9999) : lenM y 2 = if leapB y then 29 else 28 := by
  unfold lenM; rw [if_neg (by omega), if_pos rfl]; unfold lp; split <;> rfl
theorem jlenM_two {y : Int} (y0 : 1 ≤ y) (y1 : y ≤ 9999) : 28 ≤ jlenM y 2 ∧ jlenM y 2 ≤ 29 ∧ (leapB y = true → jlenM y 2 = 29) := by
  have q : jlenM y 2 = 28 + jlp y := by unfold jlenM; rw [if_neg (by omega), if_pos rfl]
  have r := jlp_01 y
  refine ⟨by omega, by omega, fun h => ?_⟩
  have : jlp y = 1 := by unfold jlp; rw [if_pos (leap_jleap h)]
  omega
/-- What the reference finds for the length of a month: the Julian one, or 28. -/
theorem rjlong (y m : Int) : (m = 2 ∧ leapB y = false ∧ 0 < jlenM y m ∧ lenM y m = 28) ∨ (m = 2 ∧ jlenM y m ≤ 0 ∧ lenM y m = jlenM y m) ∨ (m = 2 ∧ 1 ≤ y ∧ y ≤ 9999 ∧ leapB y = true ∧ lenM y m = jlenM y m) ∨ (m ≠ 2 ∧ lenM y m = jlenM y m) := by
  by_cases h : m = 2
  · subst h
    by_cases k : 1 ≤ y ∧ y ≤ 9999
    · have a := lenM_two k.1 k.2
      have b := jlenM_two k.1 k.2
      cases l : leapB y
      · left; rw [l] at a; exact ⟨rfl, rfl, by omega, a⟩
      · right; right; left; rw [l] at a; exact ⟨rfl, k.1, k.2, rfl, by rw [b.2.2 l, a]; rfl⟩
    · right; left
      have a : jlenM y 2 = 0 := jlenM_out (by omega)
      have b : lenM y 2 = 0 := lenM_out (by omega)
      exact ⟨rfl, by omega, by omega⟩
  · right; right; right
    refine ⟨h, ?_⟩
    rw [lenM_jlenM, if_neg (fun q => h q.1)]
theorem first_formula {y : Int} : -719162 + 365 * (y - 1) + (y - 1) / 4 - (y - 1) / 100 + (y - 1) / 400 = first y := rfl
theorem first_bdJ {y : Int} (y0 : 1 ≤ y) (y1 : y ≤ 9999) : -719162 ≤ first y ∧ first y ≤ 2932897 := by unfold first; omega
theorem dyB_no {n : Int} (h : n < -719162 ∨ 2932897 ≤ n) : dyB n = false := by rw [← Bool.not_eq_true, dyB_iff]; omega
theorem dyB_yes {n : Int} (h0 : -719162 ≤ n) (h1 : n < 2932897) : dyB n = true := dyB_iff.2 ⟨h0, h1⟩
/-- The parts of a day in cycles of four years. -/
theorem jquot {n y : Int} (y0 : 1 ≤ y) (y1 : y ≤ 9999) (r0 : -719162 ≤ n) (a0 : jfirst y ≤ n) (a1 : n < jfirst (y + 1)) :
    ∃ q x k : Int, (n + 719164) / 1461 = q ∧ (n + 719164) % 1461 = x ∧ 0 ≤ q ∧ q ≤ 2500 ∧ 0 ≤ x ∧ x ≤ 1460 ∧ 0 ≤ k ∧ k ≤ 3 ∧ y = 4 * q + 1 + k ∧ x - 365 * k = n - jfirst y ∧ (k < 3 → x - 365 * k < 365) ∧ 0 ≤ x - 365 * k := by
  have s := jfirst_succ y0 y1
  have e := jlp_eq y0 y1
  refine ⟨_, _, y - 1 - 4 * ((n + 719164) / 1461), rfl, rfl, ?_⟩
  unfold jfirst at *
  omega
theorem day_one {y m : Int} (y0 : 1 ≤ y) (y1 : y ≤ 9999) (m0 : 1 ≤ m) (m1 : m ≤ 12) : vld y m 1 = true ∧ dayN y m 1 = first y + cum y m := by
  have := lenM_in y0 y1 m0 m1
  exact ⟨vld_iff.2 ⟨by omega, by omega⟩, by unfold dayN; omega⟩
/-- Day: the number and the error number. -/
def jdN (y m d : Int) : Int := if jvld y m d = true ∧ -719162 ≤ jdayN y m d ∧ jdayN y m d < 2932897 then jdayN y m d else 0
def jdE (y m d : Int) : Int := if jvld y m d = false then 1 else if -719162 ≤ jdayN y m d ∧ jdayN y m d < 2932897 then 0 else 2
theorem jd_bad {y m d : Int} (h : jvld y m d = false) : jdN y m d = 0 ∧ jdE y m d = 1 := by
  unfold jdN jdE; rw [if_neg (fun q => by rw [h] at q; exact absurd q.1 (by simp)), if_pos h]; exact ⟨rfl, rfl⟩
theorem jd_out {y m d : Int} (h : jvld y m d = true) (k : ¬ (-719162 ≤ jdayN y m d ∧ jdayN y m d < 2932897)) : jdN y m d = 0 ∧ jdE y m d = 2 := by
  unfold jdN jdE; rw [if_neg (fun q => k q.2), if_neg (by rw [h]; simp), if_neg k]; exact ⟨rfl, rfl⟩
theorem jd_in {y m d : Int} (h : jvld y m d = true) (k : -719162 ≤ jdayN y m d ∧ jdayN y m d < 2932897) : jdN y m d = jdayN y m d ∧ jdE y m d = 0 := by
  unfold jdN jdE; rw [if_pos ⟨h, k⟩, if_neg (by rw [h]; simp), if_pos k]; exact ⟨rfl, rfl⟩
end Go.Proofs.YtljpjchcmiohpaaDoor

/- Contracts of the reference's functions on years, months and days. -/
import Derived.Test.YtdhedkcbkchpgaaDoorProg
import Derived.Test.YtdhedkcbkchpgaaDoorCal
import Derived.WalkKit
import Derived.Outline
import Derived.Lib.Hide
import Derived.Deep.QuietTactic
import Derived.BigQuiet
namespace Go.Proofs.YtdhedkcbkchpgaaDoor
open Go.RowKit
set_option linter.unusedVariables false

theorem refleap (y : Int) (h0 : -9223372036854775808 ≤ y) (h1 : y ≤ 9223372036854775807) (w : World) :
    Calls Tryd.prog 18 #[.int .i64 y] w fun e w' => e = .returned (.bool (leapB y)) ∧ w = w' := by
  by_cases a : y < 1
  · have k : decide (y < 1) = true := decide_eq_true a
    have e : leapB y = false := by rw [← Bool.not_eq_true, leapB_iff]; omega
    rw [e]
    go_enter Tryd.func18, Tryd.ntmps18
    go_wp2
    go_ret
    exact ⟨rfl, rfl⟩
  · have k : decide (y < 1) = false := decide_eq_false a
    by_cases b : 9999 < y
    · have k2 : decide (9999 < y) = true := decide_eq_true b
      have e : leapB y = false := by rw [← Bool.not_eq_true, leapB_iff]; omega
      rw [e]
      go_enter Tryd.func18, Tryd.ntmps18
      go_wp2
      go_ret
      exact ⟨rfl, rfl⟩
    · have k2 : decide (9999 < y) = false := decide_eq_false b
      have e : leapB y = ((y % 400 == 0) || ((y % 4 == 0) && (y % 100 != 0))) := by
        rw [Bool.eq_iff_iff, leapB_iff]
        simp only [Bool.or_eq_true, Bool.and_eq_true, beq_iff_eq, bne_iff_ne]
        omega
      rw [e]
      obtain ⟨p, hp⟩ : ∃ p, (y % 400 == 0) = p := ⟨_, rfl⟩
      obtain ⟨q, hq⟩ : ∃ p, (y % 4 == 0) = p := ⟨_, rfl⟩
      obtain ⟨r, hr⟩ : ∃ p, (y % 100 != 0) = p := ⟨_, rfl⟩
      rw [hp, hq, hr]
      cases p <;> cases q <;> cases r
      all_goals
        go_enter Tryd.func18, Tryd.ntmps18
        go_wp2
        go_ret
        exact ⟨rfl, rfl⟩
theorem reffirst (y : Int) (h0 : 1 ≤ y) (h1 : y ≤ 10000) (w : World) :
    Calls Tryd.prog 42 #[.int .i64 y] w fun e w' => e = .returned (.int .i64 (first y)) ∧ w = w' := by
  have hf : first y = -719162 + 365 * (y - 1) + (y - 1) / 4 - (y - 1) / 100 + (y - 1) / 400 := rfl
  replace hf := Lib.hid hf
  go_enter Tryd.func42, Tryd.ntmps42
  go_wp2
  go_ret
  exact ⟨by rw [hf.out]; rfl, rfl⟩
set_option maxHeartbeats 400000 in
theorem reflen (y m : Int) (h0 : -9223372036854775808 ≤ y) (h1 : y ≤ 9223372036854775807) (h2 : -9223372036854775808 ≤ m) (h3 : m ≤ 9223372036854775807) (w : World) :
    Calls Tryd.prog 20 #[.int .i64 y, .int .i64 m] w fun e w' => e = .returned (.int .i64 (lenM y m)) ∧ w = w' := by
  have HL := Lib.hid (fun w => refleap y h0 h1 w)
  obtain ⟨a, ha⟩ : ∃ a, decide (y < 1) = a := ⟨_, rfl⟩
  obtain ⟨b, hb⟩ : ∃ a, decide (9999 < y) = a := ⟨_, rfl⟩
  obtain ⟨c, hc⟩ : ∃ a, decide (m < 1) = a := ⟨_, rfl⟩
  obtain ⟨d, hd⟩ : ∃ a, decide (12 < m) = a := ⟨_, rfl⟩
  by_cases k : y < 1 ∨ 9999 < y ∨ m < 1 ∨ 12 < m
  · rw [lenM_out k]
    have t : (a || b || c || d) = true := by
      subst ha; subst hb; subst hc; subst hd; simp only [Bool.or_eq_true, decide_eq_true_eq]; omega
    clear k
    cases a <;> cases b <;> cases c <;> cases d <;> (try cases t)
    all_goals
      go_enter Tryd.func20, Tryd.ntmps20
      go_wp2
      go_ret
      exact ⟨rfl, rfl⟩
  · have t : a = false ∧ b = false ∧ c = false ∧ d = false := by
      subst ha; subst hb; subst hc; subst hd; simp only [decide_eq_false_iff_not]; omega
    obtain ⟨rfl, rfl, rfl, rfl⟩ := t
    have e : lenM y m = if m = 2 then 28 + lp y else if m = 4 ∨ m = 6 ∨ m = 9 ∨ m = 11 then 30 else 31 := by unfold lenM; rw [if_neg k]
    by_cases m2 : m = 2
    · subst m2
      rw [if_pos rfl] at e
      have e' : Hid (lenM y 2 = 28 + lp y) := e
      clear e k
      obtain ⟨l, hl⟩ : ∃ l, leapB y = l := ⟨_, rfl⟩
      have hlp : Hid (lp y = if l then 1 else 0) := by show lp y = _; unfold lp; rw [hl]
      rw [hl] at HL
      clear hl
      cases l
      all_goals
        go_enter Tryd.func20, Tryd.ntmps20
        go_wp2_with fail
        refine (HL.out _).mono ?_
        rintro e w' ⟨rfl, rfl⟩
        go_wp2
        go_ret
        exact ⟨by rw [e'.out, hlp.out]; rfl, rfl⟩
    · rw [if_neg m2] at e
      have k2 : (m == 2) = false := by simpa using m2
      by_cases s : m = 4 ∨ m = 6 ∨ m = 9 ∨ m = 11
      · rw [if_pos s] at e
        replace e := Lib.hid e
        clear HL k m2
        rcases s with rfl | rfl | rfl | rfl
        all_goals
          go_enter Tryd.func20, Tryd.ntmps20
          go_wp2
          go_ret
          exact ⟨by rw [e.out]; rfl, rfl⟩
      · rw [if_neg s] at e
        replace e := Lib.hid e
        have k4 : (m == 4) = false := by simp; omega
        have k6 : (m == 6) = false := by simp; omega
        have k9 : (m == 9) = false := by simp; omega
        have k11 : (m == 11) = false := by simp; omega
        clear HL k m2 s
        go_enter Tryd.func20, Tryd.ntmps20
        go_wp2
        go_ret
        exact ⟨by rw [e.out]; rfl, rfl⟩
theorem refweekday (n : Int) (h0 : -9223372036854775808 ≤ n) (h1 : n ≤ 9223372036854775807) (w : World) :
    Calls Tryd.prog 22 #[.int .i64 n] w fun e w' => e = .returned (.int .i64 (wkd n)) ∧ w = w' := by
  by_cases k : n < -719162 ∨ 2932897 ≤ n
  · have e : Hid (wkd n = 0) := by show wkd n = 0; unfold wkd; rw [if_pos k]
    rcases k with k | k
    · have k1 : decide (n < -719162) = true := decide_eq_true k
      go_enter Tryd.func22, Tryd.ntmps22
      go_wp2
      go_ret
      exact ⟨by rw [e.out]; rfl, rfl⟩
    · have k1 : decide (n < -719162) = false := decide_eq_false (by omega)
      have k2 : decide (2932897 ≤ n) = true := decide_eq_true k
      go_enter Tryd.func22, Tryd.ntmps22
      go_wp2
      go_ret
      exact ⟨by rw [e.out]; rfl, rfl⟩
  · have e : Hid (wkd n = (n + 719162) % 7 + 1) := by show wkd n = _; unfold wkd; rw [if_neg k]
    have k1 : decide (n < -719162) = false := decide_eq_false (by omega)
    have k2 : decide (2932897 ≤ n) = false := decide_eq_false (by omega)
    go_enter Tryd.func22, Tryd.ntmps22
    go_wp2
    go_ret
    exact ⟨by rw [e.out]; rfl, rfl⟩
end Go.Proofs.YtdhedkcbkchpgaaDoor

/- Contracts of package civil: years, months, days, dates. -/
import Derived.Test.YtpkkhkkanpcniaaLIntA

import Derived.Test.YtpkkhkkanpcniaaLCal

import Derived.IntWalk

import Derived.Lib.LaidTab

import Derived.Lib.SmallJoins

import Derived.WalkLawsBesides

namespace Go.Proofs.Ytpkkhkkanpcniaa

open Go.RowKit

set_option linter.unusedVariables false

def Lens (w : World) : Prop := Lib.TabIs Try.prog w "civiltime/civil.lengths" .i64 lensTab
theorem lens_drewN {w : World} (h : Lens w) (n : Nat) : Lens (w.drewN n) := h
theorem cdayok (n : Int) (hn : I64 n) (w : World) :
    Calls Try.prog 57 #[.int .i64 n] w fun e w' => e = .returned (.bool (dyB n)) ∧ w = w' := by
  obtain ⟨h0, h1⟩ := hn
  rw [dyB_eq]
  obtain ⟨a, ha⟩ : ∃ a, decide (-719162 ≤ n) = a := ⟨_, rfl⟩
  obtain ⟨b, hb⟩ : ∃ a, decide (n < 2932897) = a := ⟨_, rfl⟩
  rw [ha, hb]
  cases a <;> cases b
  all_goals
    go_enter Try.func57, Try.ntmps57
    go_wp2
    go_ret
    exact ⟨rfl, rfl⟩
theorem cweekday (n : Int) (hn : I64 n) (w : World) :
    Calls Try.prog 37 #[.int .i64 n] w fun e w' => e = .returned (.int .i64 (wkd n)) ∧ ∃ k, w' = w.drewN k := by
  have HD := fun w => cdayok n hn w
  by_cases a : dyB n = true
  · obtain ⟨n0, n1⟩ := dyB_iff.1 a
    have e : Hid (wkd n = (n + 4 - 1) % 7 + 1) := by show wkd n = _; unfold wkd; rw [if_neg (by omega)]; omega
    rw [a] at HD
    replace HD := Lib.hid HD
    have HM := Lib.hid (fun w => cmod7 (n + 4 - 1) ⟨by omega, by omega⟩ w)
    have q : 0 ≤ (n + 4 - 1) % 7 ∧ (n + 4 - 1) % 7 ≤ 6 := by omega
    generalize (n + 4 - 1) % 7 = x at *
    obtain ⟨q0, q1⟩ := q
    clear a
    go_enter Try.func37, Try.ntmps37
    go_wp2_with fail
    refine (HD.out _).mono ?_
    rintro e w' ⟨rfl, rfl⟩
    go_wp2_with fail
    refine (HM.out _).mono ?_
    rintro e w' ⟨rfl, k, rfl⟩
    go_wp2
    go_ret
    exact ⟨by rw [e.out]; rfl, k, rfl⟩
  · have e : Hid (wkd n = 0) := by show wkd n = _; rw [dyB_iff] at a; unfold wkd; rw [if_pos (by omega)]
    rw [Bool.not_eq_true] at a
    rw [a] at HD
    replace HD := Lib.hid HD
    clear a
    go_enter Try.func37, Try.ntmps37
    go_wp2_with fail
    refine (HD.out _).mono ?_
    rintro e w' ⟨rfl, rfl⟩
    go_wp2
    go_ret
    exact ⟨by rw [e.out]; rfl, 0, rfl⟩
end Go.Proofs.Ytpkkhkkanpcniaa

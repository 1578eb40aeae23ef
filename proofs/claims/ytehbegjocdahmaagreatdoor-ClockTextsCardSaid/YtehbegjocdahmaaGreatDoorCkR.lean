/- Contracts of clock.Round and its reference. -/
import Derived.Test.YtehbegjocdahmaaGreatDoorCkA

import Derived.Test.YtehbegjocdahmaaGreatDoorLRefI

namespace Go.Proofs.YtehbegjocdahmaaGreatDoor

open Go.RowKit

set_option linter.unusedVariables false

def argB (u k : Int) : Bool := decide (1 ≤ u ∧ u ≤ 4398046511104 ∧ 1 ≤ k ∧ k ≤ 3)
theorem argB_iff {u k : Int} : argB u k = true ↔ 1 ≤ u ∧ u ≤ 4398046511104 ∧ 1 ≤ k ∧ k ≤ 3 := by unfold argB; simp
/-- What Round returns: the multiple, and the error number. -/
def rV (n u k : Int) : Int := if argB u k && linB n && linB (rndV n u k) then rndV n u k else 0
def rE (n u k : Int) : Int := if argB u k then (if linB n && linB (rndV n u k) then 0 else 2) else 1
theorem arg_no {u k : Int} (h : argB u k = false) : (decide (u < 1) || decide (4398046511104 < u) || decide (k < 1) || decide (3 < k)) = true := by
  have : ¬ (1 ≤ u ∧ u ≤ 4398046511104 ∧ 1 ≤ k ∧ k ≤ 3) := fun x => by rw [argB_iff.2 x] at h; cases h
  simp only [Bool.or_eq_true, decide_eq_true_eq]; omega
set_option maxHeartbeats 1000000 in
theorem kround_arg (n u k : Int) (hn : I64 n) (hu : I64 u) (hk : I64 k) (h : argB u k = false) (w : World) :
    Calls Tryz.prog 12 #[.int .i64 n, .int .i64 u, .int .i64 k] w fun e w' => e = .returned (.tuple #[.int .i64 0, .int .i64 1]) ∧ ∃ m, w' = w.drewN m := by
  have t := arg_no h
  obtain ⟨a, ha⟩ : ∃ a, decide (u < 1) = a := ⟨_, rfl⟩
  obtain ⟨b, hb⟩ : ∃ a, decide (4398046511104 < u) = a := ⟨_, rfl⟩
  obtain ⟨c, hc⟩ : ∃ a, decide (k < 1) = a := ⟨_, rfl⟩
  obtain ⟨d, hd⟩ : ∃ a, decide (3 < k) = a := ⟨_, rfl⟩
  rw [ha, hb, hc, hd] at t
  clear h hn hu hk
  cases a <;> cases b <;> cases c <;> cases d <;> (try cases t)
  all_goals
    go_enter Tryz.func12, Tryz.ntmps12
    go_wp2
    go_ret2
    exact ⟨rfl, 0, rfl⟩
theorem kround_range (n u k : Int) (hn : I64 n) (h : argB u k = true) (l : linB n = false) (w : World) :
    Calls Tryz.prog 12 #[.int .i64 n, .int .i64 u, .int .i64 k] w fun e w' => e = .returned (.tuple #[.int .i64 0, .int .i64 2]) ∧ ∃ m, w' = w.drewN m := by
  obtain ⟨u0, u1, k0, k1⟩ := argB_iff.1 h
  have HL := fun w => kline n hn w
  rw [l] at HL
  replace HL := Lib.hid HL
  have ha : decide (u < 1) = false := decide_eq_false (by omega)
  have hb : decide (4398046511104 < u) = false := decide_eq_false (by omega)
  have hc : decide (k < 1) = false := decide_eq_false (by omega)
  have hd : decide (3 < k) = false := decide_eq_false (by omega)
  clear h l
  go_enter Tryz.func12, Tryz.ntmps12
  go_wp2_with fail
  refine (HL.out _).mono ?_
  rintro e w1 ⟨rfl, rfl⟩
  go_wp2
  go_ret2
  exact ⟨rfl, 0, rfl⟩
set_option maxHeartbeats 2000000 in
theorem kround_in (n u k : Int) (h : argB u k = true) (l : linB n = true) (b : Bool) (hb : linB (rndV n u k) = b) (w : World) :
    Calls Tryz.prog 12 #[.int .i64 n, .int .i64 u, .int .i64 k] w fun e w' => e = .returned (.tuple #[.int .i64 (if b then rndV n u k else 0), .int .i64 (if b then 0 else 2)]) ∧ ∃ m, w' = w.drewN m := by
  obtain ⟨u0, u1, k0, k1⟩ := argB_iff.1 h
  obtain ⟨l0, l1⟩ := linB_iff.1 l
  have HL := fun w => kline n ⟨by omega, by omega⟩ w
  rw [l] at HL
  replace HL := Lib.hid HL
  have HM := fun w => mod_all n u (by omega) (by omega) (by omega) (by omega) w
  rw [dR_pos (by omega)] at HM
  obtain ⟨-, -, r0, r1⟩ := low_of (n := n) (show 0 < u by omega)
  unfold rndV at *
  generalize n % u = r at *
  replace HM := Lib.hid HM
  have ha : decide (u < 1) = false := decide_eq_false (by omega)
  have hc : decide (4398046511104 < u) = false := decide_eq_false (by omega)
  clear h l
  by_cases c : k = 2 ∧ r ≠ 0 ∨ k = 3 ∧ u ≤ 2 * r
  · rw [if_pos c] at *
    have HO := fun w => kline (n - r + u) ⟨by omega, by omega⟩ w
    rw [hb] at HO
    replace HO := Lib.hid HO
    clear hb
    rcases c with ⟨rfl, c⟩ | ⟨rfl, c⟩
    · have q : decide (0 < r) = true := decide_eq_true (by omega)
      cases b
      all_goals
        go_enter Tryz.func12, Tryz.ntmps12
        go_wp2_with fail
        refine (HL.out _).mono ?_
        rintro e w1 ⟨rfl, rfl⟩
        go_wp2_with fail
        refine (HM.out _).mono ?_
        rintro e w1 ⟨rfl, m, rfl⟩
        go_wp2_with fail
        refine (HO.out _).mono ?_
        rintro e w1 ⟨rfl, rfl⟩
        go_wp2
        go_ret2
        exact ⟨rfl, _, rfl⟩
    · have q : decide (u ≤ 2 * r) = true := decide_eq_true c
      cases b
      all_goals
        go_enter Tryz.func12, Tryz.ntmps12
        go_wp2_with fail
        refine (HL.out _).mono ?_
        rintro e w1 ⟨rfl, rfl⟩
        go_wp2_with fail
        refine (HM.out _).mono ?_
        rintro e w1 ⟨rfl, m, rfl⟩
        go_wp2_with fail
        refine (HO.out _).mono ?_
        rintro e w1 ⟨rfl, rfl⟩
        go_wp2
        go_ret2
        exact ⟨rfl, _, rfl⟩
  · rw [if_neg c] at *
    have HO := fun w => kline (n - r) ⟨by omega, by omega⟩ w
    rw [hb] at HO
    replace HO := Lib.hid HO
    clear hb
    have kk : k = 1 ∨ k = 2 ∨ k = 3 := by omega
    rcases kk with rfl | rfl | rfl
    · clear c
      cases b
      all_goals
        go_enter Tryz.func12, Tryz.ntmps12
        go_wp2_with fail
        refine (HL.out _).mono ?_
        rintro e w1 ⟨rfl, rfl⟩
        go_wp2_with fail
        refine (HM.out _).mono ?_
        rintro e w1 ⟨rfl, m, rfl⟩
        go_wp2_with fail
        refine (HO.out _).mono ?_
        rintro e w1 ⟨rfl, rfl⟩
        go_wp2
        go_ret2
        exact ⟨rfl, _, rfl⟩
    · have q : decide (0 < r) = false := decide_eq_false (by omega)
      clear c
      cases b
      all_goals
        go_enter Tryz.func12, Tryz.ntmps12
        go_wp2_with fail
        refine (HL.out _).mono ?_
        rintro e w1 ⟨rfl, rfl⟩
        go_wp2_with fail
        refine (HM.out _).mono ?_
        rintro e w1 ⟨rfl, m, rfl⟩
        go_wp2_with fail
        refine (HO.out _).mono ?_
        rintro e w1 ⟨rfl, rfl⟩
        go_wp2
        go_ret2
        exact ⟨rfl, _, rfl⟩
    · have q : decide (u ≤ 2 * r) = false := decide_eq_false (by omega)
      clear c
      cases b
      all_goals
        go_enter Tryz.func12, Tryz.ntmps12
        go_wp2_with fail
        refine (HL.out _).mono ?_
        rintro e w1 ⟨rfl, rfl⟩
        go_wp2_with fail
        refine (HM.out _).mono ?_
        rintro e w1 ⟨rfl, m, rfl⟩
        go_wp2_with fail
        refine (HO.out _).mono ?_
        rintro e w1 ⟨rfl, rfl⟩
        go_wp2
        go_ret2
        exact ⟨rfl, _, rfl⟩
theorem kround (n u k : Int) (hn : I64 n) (hu : I64 u) (hk : I64 k) (w : World) :
    Calls Tryz.prog 12 #[.int .i64 n, .int .i64 u, .int .i64 k] w fun e w' => e = .returned (.tuple #[.int .i64 (rV n u k), .int .i64 (rE n u k)]) ∧ ∃ m, w' = w.drewN m := by
  unfold rV rE
  cases h : argB u k
  · exact kround_arg n u k hn hu hk h w
  · cases l : linB n
    · exact kround_range n u k hn h l w
    · have := kround_in n u k h l _ rfl w
      cases b : linB (rndV n u k) <;> (rw [b] at this; exact this)
end Go.Proofs.YtehbegjocdahmaaGreatDoor

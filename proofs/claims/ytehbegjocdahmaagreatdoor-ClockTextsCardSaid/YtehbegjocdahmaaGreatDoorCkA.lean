/- Contracts of package clock and its reference: times of day, seconds, instants as days and seconds. -/
import Derived.Test.YtehbegjocdahmaaGreatDoorLCivA

import Derived.Test.YtehbegjocdahmaaGreatDoorLRefA

import Derived.Test.YtehbegjocdahmaaGreatDoorCkMath

import Derived.Test.YtehbegjocdahmaaGreatDoorCkGen

namespace Go.Proofs.YtehbegjocdahmaaGreatDoor

open Go.RowKit

set_option linter.unusedVariables false

theorem insB_eq {t : Int} : insB t = (decide (-62135596800 ≤ t) && decide (t < 253402300800)) := by unfold insB; simp
theorem linB_eq {t : Int} : linB t = (decide (-4398046511104 ≤ t) && decide (t ≤ 4398046511104)) := by unfold linB; simp
def secB (s : Int) : Bool := decide (0 ≤ s ∧ s < 86400)
theorem secB_eq {s : Int} : secB s = (decide (0 ≤ s) && decide (s < 86400)) := by unfold secB; simp
theorem secB_iff {s : Int} : secB s = true ↔ 0 ≤ s ∧ s < 86400 := by unfold secB; simp
theorem vldT_eq {h m s : Int} : vldT h m s = (((((decide (0 ≤ h) && decide (h < 24)) && decide (0 ≤ m)) && decide (m < 60)) && decide (0 ≤ s)) && decide (s < 60)) := by
  rw [Bool.eq_iff_iff, vldT_iff]; simp only [Bool.and_eq_true, decide_eq_true_eq]; omega
theorem vldT_eq2 {h m s : Int} : vldT h m s = (((((decide (0 ≤ h) && decide (h ≤ 23)) && decide (0 ≤ m)) && decide (m ≤ 59)) && decide (0 ≤ s)) && decide (s ≤ 59)) := by
  rw [Bool.eq_iff_iff, vldT_iff]; simp only [Bool.and_eq_true, decide_eq_true_eq]; omega
theorem kline (n : Int) (hn : I64 n) (w : World) :
    Calls Tryz.prog 32 #[.int .i64 n] w fun e w' => e = .returned (.bool (linB n)) ∧ w = w' := by
  obtain ⟨h0, h1⟩ := hn
  rw [linB_eq]
  obtain ⟨a, ha⟩ : ∃ a, decide (-4398046511104 ≤ n) = a := ⟨_, rfl⟩
  obtain ⟨b, hb⟩ : ∃ a, decide (n ≤ 4398046511104) = a := ⟨_, rfl⟩
  rw [ha, hb]
  cases a <;> cases b
  all_goals
    go_enter Tryz.func32, Tryz.ntmps32
    go_wp2
    go_ret
    exact ⟨rfl, rfl⟩
theorem ksec (n : Int) (hn : I64 n) (w : World) :
    Calls Tryz.prog 49 #[.int .i64 n] w fun e w' => e = .returned (.bool (secB n)) ∧ w = w' := by
  obtain ⟨h0, h1⟩ := hn
  rw [secB_eq]
  obtain ⟨a, ha⟩ : ∃ a, decide (0 ≤ n) = a := ⟨_, rfl⟩
  obtain ⟨b, hb⟩ : ∃ a, decide (n < 86400) = a := ⟨_, rfl⟩
  rw [ha, hb]
  cases a <;> cases b
  all_goals
    go_enter Tryz.func49, Tryz.ntmps49
    go_wp2
    go_ret
    exact ⟨rfl, rfl⟩
set_option maxHeartbeats 1000000 in
theorem rvt (h m s : Int) (hh : I64 h) (hm : I64 m) (hs : I64 s) (w : World) :
    Calls Tryz.prog 18 #[.agg #[.int .i64 h, .int .i64 m, .int .i64 s]] w fun e w' => e = .returned (.bool (vldT h m s)) ∧ Below w.heap.size w w' := by
  rw [vldT_eq]
  obtain ⟨a, ha⟩ : ∃ a, decide (0 ≤ h) = a := ⟨_, rfl⟩
  obtain ⟨b, hb⟩ : ∃ a, decide (h < 24) = a := ⟨_, rfl⟩
  obtain ⟨c, hc⟩ : ∃ a, decide (0 ≤ m) = a := ⟨_, rfl⟩
  obtain ⟨d, hd⟩ : ∃ a, decide (m < 60) = a := ⟨_, rfl⟩
  obtain ⟨e, he⟩ : ∃ a, decide (0 ≤ s) = a := ⟨_, rfl⟩
  obtain ⟨f, hf⟩ : ∃ a, decide (s < 60) = a := ⟨_, rfl⟩
  rw [ha, hb, hc, hd, he, hf]
  clear hh hm hs
  cases a
  case' true =>
    cases b
    case' true =>
      cases c
      case' true =>
        cases d
        case' true =>
          cases e
          case' true => cases f
  all_goals
    go_enter Tryz.func18, Tryz.ntmps18
    go_wp2
    go_ret
    exact ⟨rfl, grow (here w) _⟩
set_option maxHeartbeats 1000000 in
theorem kvt (h m s : Int) (hh : I64 h) (hm : I64 m) (hs : I64 s) (w : World) :
    Calls Tryz.prog 35 #[.agg #[.int .i64 h, .int .i64 m, .int .i64 s]] w fun e w' => e = .returned (.bool (vldT h m s)) ∧ Below w.heap.size w w' := by
  rw [vldT_eq2]
  obtain ⟨a, ha⟩ : ∃ a, decide (0 ≤ h) = a := ⟨_, rfl⟩
  obtain ⟨b, hb⟩ : ∃ a, decide (h ≤ 23) = a := ⟨_, rfl⟩
  obtain ⟨c, hc⟩ : ∃ a, decide (0 ≤ m) = a := ⟨_, rfl⟩
  obtain ⟨d, hd⟩ : ∃ a, decide (m ≤ 59) = a := ⟨_, rfl⟩
  obtain ⟨e, he⟩ : ∃ a, decide (0 ≤ s) = a := ⟨_, rfl⟩
  obtain ⟨f, hf⟩ : ∃ a, decide (s ≤ 59) = a := ⟨_, rfl⟩
  rw [ha, hb, hc, hd, he, hf]
  clear hh hm hs
  cases a
  case' true =>
    cases b
    case' true =>
      cases c
      case' true =>
        cases d
        case' true =>
          cases e
          case' true => cases f
  all_goals
    go_enter Tryz.func35, Tryz.ntmps35
    go_wp2
    go_ret
    exact ⟨rfl, grow (here w) _⟩
theorem ktime (n : Int) (n0 : 0 ≤ n) (n1 : n < 86400) (w : World) :
    Calls Tryz.prog 28 #[.int .i64 n] w fun e w' => e = .returned (.tuple #[.agg #[.int .i64 (tH n), .int .i64 (tM n), .int .i64 (tS n)], .int .i64 0]) ∧ Below w.heap.size w w' := by
  have HV := fun w => ksec n ⟨by omega, by omega⟩ w
  rw [secB_iff.2 ⟨n0, n1⟩] at HV
  replace HV := Lib.hid HV
  have e : Hid (tM n = n % 3600 / 60) := by show tM n = _; unfold tM; omega
  rw [e.out]
  unfold tH tS
  clear e
  go_enter Tryz.func28, Tryz.ntmps28
  go_wp2_with fail
  refine (HV.out _).mono ?_
  rintro e w1 ⟨rfl, rfl⟩
  go_wp2
  exact bodyPost_ret (v := .tuple #[.agg #[.int .i64 (n / 3600), .int .i64 (n % 3600 / 60), .int .i64 (n % 60)], .int .i64 0]) (by simp [results, Tryz.results28, go_sem]) rfl ⟨rfl, grow (here w) _⟩
theorem ktime_no (n : Int) (hn : I64 n) (h : secB n = false) (w : World) :
    Calls Tryz.prog 28 #[.int .i64 n] w fun e w' => e = .returned (.tuple #[.agg #[.int .i64 0, .int .i64 0, .int .i64 0], .int .i64 2]) ∧ Below w.heap.size w w' := by
  have HV := fun w => ksec n hn w
  rw [h] at HV
  replace HV := Lib.hid HV
  clear h
  go_enter Tryz.func28, Tryz.ntmps28
  go_wp2_with fail
  refine (HV.out _).mono ?_
  rintro e w1 ⟨rfl, rfl⟩
  go_wp2
  exact bodyPost_ret (v := .tuple #[.agg #[.int .i64 0, .int .i64 0, .int .i64 0], .int .i64 2]) (by simp [results, Tryz.results28, go_sem]) rfl ⟨rfl, grow (here w) _⟩
theorem ksplit (n : Int) (h : insB n = true) (w : World) :
    Calls Tryz.prog 26 #[.int .i64 n] w fun e w' => e = .returned (.tuple #[.int .i64 (n / 86400), .int .i64 (n % 86400), .int .i64 0]) ∧ ∃ k, w' = w.drewN k := by
  obtain ⟨h0, h1⟩ := insB_iff.1 h
  have HD := Lib.hid (fun w => cdiv n 86400 ⟨by omega, by omega⟩ (by omega) (by omega) w)
  have k : decide (n < -62135596800) = false := decide_eq_false (by omega)
  have k2 : decide (253402300800 ≤ n) = false := decide_eq_false (by omega)
  clear h
  generalize n / 86400 = a at *
  generalize n % 86400 = b at *
  go_enter Tryz.func26, Tryz.ntmps26
  go_wp2_with fail
  refine (HD.out _).mono ?_
  rintro e w' ⟨rfl, n, rfl⟩
  go_wp2
  go_ret3
  exact ⟨rfl, _, rfl⟩
theorem ksplit_no (n : Int) (hn : I64 n) (h : insB n = false) (w : World) :
    Calls Tryz.prog 26 #[.int .i64 n] w fun e w' => e = .returned (.tuple #[.int .i64 0, .int .i64 0, .int .i64 2]) ∧ w = w' := by
  obtain ⟨h0, h1⟩ := hn
  have h' : ¬ (-62135596800 ≤ n ∧ n < 253402300800) := fun x => by rw [insB_iff.2 x] at h; cases h
  clear h
  by_cases a : n < -62135596800
  · have k : decide (n < -62135596800) = true := decide_eq_true a
    go_enter Tryz.func26, Tryz.ntmps26
    go_wp2
    go_ret3
    exact ⟨rfl, rfl⟩
  · have k : decide (n < -62135596800) = false := decide_eq_false a
    have k2 : decide (253402300800 ≤ n) = true := decide_eq_true (by omega)
    clear h'
    go_enter Tryz.func26, Tryz.ntmps26
    go_wp2
    go_ret3
    exact ⟨rfl, rfl⟩
end Go.Proofs.YtehbegjocdahmaaGreatDoor

/- Contracts of package clock and its reference: times of day, seconds, instants as days and seconds. -/
import Derived.Test.YtehbegjocdahmaaDoorLCivA
import Derived.Test.YtehbegjocdahmaaDoorLRefA
import Derived.Test.YtehbegjocdahmaaDoorCkMath
import Derived.Test.YtehbegjocdahmaaDoorCkGen
namespace Go.Proofs.YtehbegjocdahmaaDoor
open Go.RowKit
set_option linter.unusedVariables false

theorem insB_eq {t : Int} : insB t = (decide (-62135596800 ≤ t) && decide (t < 253402300800)) := by unfold insB; simp
theorem linB_eq {t : Int} : linB t = (decide (-4398046511104 ≤ t) && decide (t ≤ 4398046511104)) := by unfold linB; simp
def secB (s : Int) : Bool := decide (0 ≤ s ∧ s < 86400)
theorem secB_eq {s : Int} : secB s = (decide (0 ≤ s) && decide (s < 86400)) := by unfold secB; simp
theorem secB_iff {s : Int} : secB s = true ↔ 0 ≤ s ∧ s < 86400 := by unfold secB; simp
theorem vldT_eq {h m s : Int} : vldT h m s = (((((decide (0 ≤ h) && decide (h < 24)) && decide (0 ≤ m)) && decide (m < 60)) && decide (0 ≤ s)) && decide (s < 60)) := by
  rw [Bool.eq_iff_iff, vldT_iff]; simp only [Bool.and_eq_true, decide_eq_true_eq]; omega
theorem vldT_eq2 {h m s : Int} : vldT h m s = (((((decide (0 ≤ h) && decide (h ≤ 23)) && decide (0 ≤ m)) && decide (m ≤ 59)) && decide (0 ≤ s)) && decide (s ≤ 59)) := by
  rw [Bool.eq_iff_iff, vldT_iff]; simp only [Bool.and_eq_true, decide_eq_true_eq]; omega
theorem rins (n : Int) (hn : I64 n) (w : World) :
    Calls Tryd.prog 21 #[.int .i64 n] w fun e w' => e = .returned (.bool (insB n)) ∧ w = w' := by
  obtain ⟨h0, h1⟩ := hn
  rw [insB_eq]
  obtain ⟨a, ha⟩ : ∃ a, decide (-62135596800 ≤ n) = a := ⟨_, rfl⟩
  obtain ⟨b, hb⟩ : ∃ a, decide (n < 253402300800) = a := ⟨_, rfl⟩
  rw [ha, hb]
  cases a <;> cases b
  all_goals
    go_enter Tryd.func21, Tryd.ntmps21
    go_wp2
    go_ret
    exact ⟨rfl, rfl⟩
theorem rday (n : Int) (hn : I64 n) (w : World) :
    Calls Tryd.prog 19 #[.int .i64 n] w fun e w' => e = .returned (.bool (dyB n)) ∧ w = w' := by
  obtain ⟨h0, h1⟩ := hn
  rw [dyB_eq]
  obtain ⟨a, ha⟩ : ∃ a, decide (-719162 ≤ n) = a := ⟨_, rfl⟩
  obtain ⟨b, hb⟩ : ∃ a, decide (n < 2932897) = a := ⟨_, rfl⟩
  rw [ha, hb]
  cases a <;> cases b
  all_goals
    go_enter Tryd.func19, Tryd.ntmps19
    go_wp2
    go_ret
    exact ⟨rfl, rfl⟩
theorem rline (n : Int) (hn : I64 n) (w : World) :
    Calls Tryd.prog 34 #[.int .i64 n] w fun e w' => e = .returned (.bool (linB n)) ∧ w = w' := by
  obtain ⟨h0, h1⟩ := hn
  rw [linB_eq]
  obtain ⟨a, ha⟩ : ∃ a, decide (-4398046511104 ≤ n) = a := ⟨_, rfl⟩
  obtain ⟨b, hb⟩ : ∃ a, decide (n ≤ 4398046511104) = a := ⟨_, rfl⟩
  rw [ha, hb]
  cases a <;> cases b
  all_goals
    go_enter Tryd.func34, Tryd.ntmps34
    go_wp2
    go_ret
    exact ⟨rfl, rfl⟩
theorem kline (n : Int) (hn : I64 n) (w : World) :
    Calls Tryd.prog 58 #[.int .i64 n] w fun e w' => e = .returned (.bool (linB n)) ∧ w = w' := by
  obtain ⟨h0, h1⟩ := hn
  rw [linB_eq]
  obtain ⟨a, ha⟩ : ∃ a, decide (-4398046511104 ≤ n) = a := ⟨_, rfl⟩
  obtain ⟨b, hb⟩ : ∃ a, decide (n ≤ 4398046511104) = a := ⟨_, rfl⟩
  rw [ha, hb]
  cases a <;> cases b
  all_goals
    go_enter Tryd.func58, Tryd.ntmps58
    go_wp2
    go_ret
    exact ⟨rfl, rfl⟩
theorem ksec (n : Int) (hn : I64 n) (w : World) :
    Calls Tryd.prog 42 #[.int .i64 n] w fun e w' => e = .returned (.bool (secB n)) ∧ w = w' := by
  obtain ⟨h0, h1⟩ := hn
  rw [secB_eq]
  obtain ⟨a, ha⟩ : ∃ a, decide (0 ≤ n) = a := ⟨_, rfl⟩
  obtain ⟨b, hb⟩ : ∃ a, decide (n < 86400) = a := ⟨_, rfl⟩
  rw [ha, hb]
  cases a <;> cases b
  all_goals
    go_enter Tryd.func42, Tryd.ntmps42
    go_wp2
    go_ret
    exact ⟨rfl, rfl⟩
set_option maxHeartbeats 1000000 in
theorem rvt (h m s : Int) (hh : I64 h) (hm : I64 m) (hs : I64 s) (w : World) :
    Calls Tryd.prog 14 #[.agg #[.int .i64 h, .int .i64 m, .int .i64 s]] w fun e w' => e = .returned (.bool (vldT h m s)) ∧ Below w.heap.size w w' := by
  rw [vldT_eq]
  obtain ⟨a, ha⟩ : ∃ a, decide (0 ≤ h) = a := ⟨_, rfl⟩
  obtain ⟨b, hb⟩ : ∃ a, decide (h < 24) = a := ⟨_, rfl⟩
  obtain ⟨c, hc⟩ : ∃ a, decide (0 ≤ m) = a := ⟨_, rfl⟩
  obtain ⟨d, hd⟩ : ∃ a, decide (m < 60) = a := ⟨_, rfl⟩
  obtain ⟨e, he⟩ : ∃ a, decide (0 ≤ s) = a := ⟨_, rfl⟩
  obtain ⟨f, hf⟩ : ∃ a, decide (s < 60) = a := ⟨_, rfl⟩
  rw [ha, hb, hc, hd, he, hf]
  clear hh hm hs
  cases a
  case' true =>
    cases b
    case' true =>
      cases c
      case' true =>
        cases d
        case' true =>
          cases e
          case' true => cases f
  all_goals
    go_enter Tryd.func14, Tryd.ntmps14
    go_wp2
    go_ret
    exact ⟨rfl, grow (here w) _⟩
set_option maxHeartbeats 1000000 in
theorem kvt (h m s : Int) (hh : I64 h) (hm : I64 m) (hs : I64 s) (w : World) :
    Calls Tryd.prog 41 #[.agg #[.int .i64 h, .int .i64 m, .int .i64 s]] w fun e w' => e = .returned (.bool (vldT h m s)) ∧ Below w.heap.size w w' := by
  rw [vldT_eq2]
  obtain ⟨a, ha⟩ : ∃ a, decide (0 ≤ h) = a := ⟨_, rfl⟩
  obtain ⟨b, hb⟩ : ∃ a, decide (h ≤ 23) = a := ⟨_, rfl⟩
  obtain ⟨c, hc⟩ : ∃ a, decide (0 ≤ m) = a := ⟨_, rfl⟩
  obtain ⟨d, hd⟩ : ∃ a, decide (m ≤ 59) = a := ⟨_, rfl⟩
  obtain ⟨e, he⟩ : ∃ a, decide (0 ≤ s) = a := ⟨_, rfl⟩
  obtain ⟨f, hf⟩ : ∃ a, decide (s ≤ 59) = a := ⟨_, rfl⟩
  rw [ha, hb, hc, hd, he, hf]
  clear hh hm hs
  cases a
  case' true =>
    cases b
    case' true =>
      cases c
      case' true =>
        cases d
        case' true =>
          cases e
          case' true => cases f
  all_goals
    go_enter Tryd.func41, Tryd.ntmps41
    go_wp2
    go_ret
    exact ⟨rfl, grow (here w) _⟩
theorem rsecs (h m s : Int) (v : vldT h m s = true) (w : World) :
    Calls Tryd.prog 16 #[.agg #[.int .i64 h, .int .i64 m, .int .i64 s]] w fun e w' => e = .returned (.int .i64 (secT h m s)) ∧ Below w.heap.size w w' := by
  obtain ⟨⟨a, b⟩, ⟨c, d⟩, e, f⟩ := vldT_iff.1 v
  unfold secT
  clear v
  go_enter Tryd.func16, Tryd.ntmps16
  go_wp2
  go_ret
  exact ⟨rfl, grow (here w) _⟩
theorem ksecs (h m s : Int) (v : vldT h m s = true) (w : World) :
    Calls Tryd.prog 13 #[.agg #[.int .i64 h, .int .i64 m, .int .i64 s]] w fun e w' => e = .returned (.tuple #[.int .i64 (secT h m s), .int .i64 0]) ∧ Below w.heap.size w w' := by
  obtain ⟨⟨a, b⟩, ⟨c, d⟩, e, f⟩ := vldT_iff.1 v
  have HV := fun w => kvt h m s ⟨by omega, by omega⟩ ⟨by omega, by omega⟩ ⟨by omega, by omega⟩ w
  rw [v] at HV
  replace HV := Lib.hid HV
  unfold secT
  clear v
  go_enter Tryd.func13, Tryd.ntmps13
  go_wp2_with fail
  refine (HV.out _).mono ?_
  rintro e w1 ⟨rfl, hb⟩
  have A1 := Lib.hid (down (grow (here w) _) hb)
  obtain ⟨c0, c1, c2⟩ := box_cells hb
  clear hb
  go_wp2
  go_ret2
  exact ⟨rfl, A1.out⟩
theorem ksecs_no (h m s : Int) (hh : I64 h) (hm : I64 m) (hs : I64 s) (v : vldT h m s = false) (w : World) :
    Calls Tryd.prog 13 #[.agg #[.int .i64 h, .int .i64 m, .int .i64 s]] w fun e w' => e = .returned (.tuple #[.int .i64 0, .int .i64 1]) ∧ Below w.heap.size w w' := by
  have HV := fun w => kvt h m s hh hm hs w
  rw [v] at HV
  replace HV := Lib.hid HV
  clear v
  go_enter Tryd.func13, Tryd.ntmps13
  go_wp2_with fail
  refine (HV.out _).mono ?_
  rintro e w1 ⟨rfl, hb⟩
  have A1 := Lib.hid (down (grow (here w) _) hb)
  clear hb
  go_wp2
  go_ret2
  exact ⟨rfl, A1.out⟩
theorem rtime (n : Int) (n0 : 0 ≤ n) (n1 : n < 86400) (w : World) :
    Calls Tryd.prog 17 #[.int .i64 n] w fun e w' => e = .returned (.agg #[.int .i64 (tH n), .int .i64 (tM n), .int .i64 (tS n)]) ∧ Below w.heap.size w w' := by
  unfold tH tM tS
  go_enter Tryd.func17, Tryd.ntmps17
  go_wp2
  exact bodyPost_ret (v := .agg #[.int .i64 (n / 3600), .int .i64 (n / 60 % 60), .int .i64 (n % 60)]) (by simp [results, Tryd.results17, go_sem]) rfl ⟨rfl, grow (here w) _⟩
theorem ktime (n : Int) (n0 : 0 ≤ n) (n1 : n < 86400) (w : World) :
    Calls Tryd.prog 15 #[.int .i64 n] w fun e w' => e = .returned (.tuple #[.agg #[.int .i64 (tH n), .int .i64 (tM n), .int .i64 (tS n)], .int .i64 0]) ∧ Below w.heap.size w w' := by
  have HV := fun w => ksec n ⟨by omega, by omega⟩ w
  rw [secB_iff.2 ⟨n0, n1⟩] at HV
  replace HV := Lib.hid HV
  have e : Hid (tM n = n % 3600 / 60) := by show tM n = _; unfold tM; omega
  rw [e.out]
  unfold tH tS
  clear e
  go_enter Tryd.func15, Tryd.ntmps15
  go_wp2_with fail
  refine (HV.out _).mono ?_
  rintro e w1 ⟨rfl, rfl⟩
  go_wp2
  exact bodyPost_ret (v := .tuple #[.agg #[.int .i64 (n / 3600), .int .i64 (n % 3600 / 60), .int .i64 (n % 60)], .int .i64 0]) (by simp [results, Tryd.results15, go_sem]) rfl ⟨rfl, grow (here w) _⟩
theorem ktime_no (n : Int) (hn : I64 n) (h : secB n = false) (w : World) :
    Calls Tryd.prog 15 #[.int .i64 n] w fun e w' => e = .returned (.tuple #[.agg #[.int .i64 0, .int .i64 0, .int .i64 0], .int .i64 2]) ∧ Below w.heap.size w w' := by
  have HV := fun w => ksec n hn w
  rw [h] at HV
  replace HV := Lib.hid HV
  clear h
  go_enter Tryd.func15, Tryd.ntmps15
  go_wp2_with fail
  refine (HV.out _).mono ?_
  rintro e w1 ⟨rfl, rfl⟩
  go_wp2
  exact bodyPost_ret (v := .tuple #[.agg #[.int .i64 0, .int .i64 0, .int .i64 0], .int .i64 2]) (by simp [results, Tryd.results15, go_sem]) rfl ⟨rfl, grow (here w) _⟩
theorem kat_yes (d s : Int) (d0 : -719162 ≤ d) (d1 : d < 2932897) (s0 : 0 ≤ s) (s1 : s < 86400) (w : World) :
    Calls Tryd.prog 18 #[.int .i64 d, .int .i64 s] w fun e w' => e = .returned (.tuple #[.int .i64 (86400 * d + s), .int .i64 0]) ∧ w = w' := by
  have HV := fun w => ksec s ⟨by omega, by omega⟩ w
  rw [secB_iff.2 ⟨s0, s1⟩] at HV
  replace HV := Lib.hid HV
  go_enter Tryd.func18, Tryd.ntmps18
  go_wp2_with fail
  refine (HV.out _).mono ?_
  rintro e w1 ⟨rfl, rfl⟩
  go_wp2
  go_ret2
  exact ⟨rfl, rfl⟩
theorem kat_no (d s : Int) (hd : I64 d) (hs : I64 s) (h : d < -719162 ∨ 2932897 ≤ d ∨ secB s = false) (w : World) :
    Calls Tryd.prog 18 #[.int .i64 d, .int .i64 s] w fun e w' => e = .returned (.tuple #[.int .i64 0, .int .i64 2]) ∧ w = w' := by
  have HV := fun w => ksec s hs w
  obtain ⟨h0, h1⟩ := hd
  by_cases a : d < -719162
  · have k : decide (d < -719162) = true := decide_eq_true a
    go_enter Tryd.func18, Tryd.ntmps18
    go_wp2
    go_ret2
    exact ⟨rfl, rfl⟩
  · have k : decide (d < -719162) = false := decide_eq_false a
    by_cases b : 2932897 ≤ d
    · have k2 : decide (2932897 ≤ d) = true := decide_eq_true b
      go_enter Tryd.func18, Tryd.ntmps18
      go_wp2
      go_ret2
      exact ⟨rfl, rfl⟩
    · have k2 : decide (2932897 ≤ d) = false := decide_eq_false b
      have c : secB s = false := h.elim (fun x => absurd x a) (fun x => x.elim (fun y => absurd y b) id)
      rw [c] at HV
      replace HV := Lib.hid HV
      clear h c
      go_enter Tryd.func18, Tryd.ntmps18
      go_wp2_with fail
      refine (HV.out _).mono ?_
      rintro e w1 ⟨rfl, rfl⟩
      go_wp2
      go_ret2
      exact ⟨rfl, rfl⟩
theorem ksplit (n : Int) (h : insB n = true) (w : World) :
    Calls Tryd.prog 20 #[.int .i64 n] w fun e w' => e = .returned (.tuple #[.int .i64 (n / 86400), .int .i64 (n % 86400), .int .i64 0]) ∧ ∃ k, w' = w.drewN k := by
  obtain ⟨h0, h1⟩ := insB_iff.1 h
  have HD := Lib.hid (fun w => cdiv n 86400 ⟨by omega, by omega⟩ (by omega) (by omega) w)
  have k : decide (n < -62135596800) = false := decide_eq_false (by omega)
  have k2 : decide (253402300800 ≤ n) = false := decide_eq_false (by omega)
  clear h
  generalize n / 86400 = a at *
  generalize n % 86400 = b at *
  go_enter Tryd.func20, Tryd.ntmps20
  go_wp2_with fail
  refine (HD.out _).mono ?_
  rintro e w' ⟨rfl, n, rfl⟩
  go_wp2
  go_ret3
  exact ⟨rfl, _, rfl⟩
theorem ksplit_no (n : Int) (hn : I64 n) (h : insB n = false) (w : World) :
    Calls Tryd.prog 20 #[.int .i64 n] w fun e w' => e = .returned (.tuple #[.int .i64 0, .int .i64 0, .int .i64 2]) ∧ w = w' := by
  obtain ⟨h0, h1⟩ := hn
  have h' : ¬ (-62135596800 ≤ n ∧ n < 253402300800) := fun x => by rw [insB_iff.2 x] at h; cases h
  clear h
  by_cases a : n < -62135596800
  · have k : decide (n < -62135596800) = true := decide_eq_true a
    go_enter Tryd.func20, Tryd.ntmps20
    go_wp2
    go_ret3
    exact ⟨rfl, rfl⟩
  · have k : decide (n < -62135596800) = false := decide_eq_false a
    have k2 : decide (253402300800 ≤ n) = true := decide_eq_true (by omega)
    clear h'
    go_enter Tryd.func20, Tryd.ntmps20
    go_wp2
    go_ret3
    exact ⟨rfl, rfl⟩
end Go.Proofs.YtehbegjocdahmaaDoor

/- Contracts of civiltimeref05. -/
import Derived.Test.YtocimbiidloofaaGreatDoorLJuM

import Derived.Test.YtocimbiidloofaaGreatDoorLGen

import Derived.Test.YtocimbiidloofaaGreatDoorLRefI

import Derived.Test.YtocimbiidloofaaGreatDoorProg

import Derived.WalkKit

import Derived.Outline

import Derived.Deep.QuietTactic

import Derived.BigQuiet

import Derived.Deep.RegionWith

import Derived.Laws.BitsLemmas

namespace Go.Proofs.YtocimbiidloofaaGreatDoor

open Go.RowKit

set_option linter.unusedVariables false


theorem rjleap (y : Int) (h0 : -9223372036854775808 ≤ y) (h1 : y ≤ 9223372036854775807) (w : World) :
    Calls Tryz.prog 74 #[.int .i64 y] w fun e w' => e = .returned (.bool (jleapB y)) ∧ w = w' := by
  by_cases a : 1 ≤ y
  · have k : decide (1 ≤ y) = true := decide_eq_true a
    by_cases b : y ≤ 9999
    · have k2 : decide (y ≤ 9999) = true := decide_eq_true b
      have e : jleapB y = (y % 4 == 0) := by
        rw [Bool.eq_iff_iff, jleapB_iff, beq_iff_eq]; omega
      rw [e]
      obtain ⟨p, hp⟩ : ∃ p, (y % 4 == 0) = p := ⟨_, rfl⟩
      rw [hp]
      go_enter Tryz.func74, Tryz.ntmps74
      go_wp2
      go_ret
      exact ⟨rfl, rfl⟩
    · have k2 : decide (y ≤ 9999) = false := decide_eq_false b
      have e : jleapB y = false := by rw [← Bool.not_eq_true, jleapB_iff]; omega
      rw [e]
      go_enter Tryz.func74, Tryz.ntmps74
      go_wp2
      go_ret
      exact ⟨rfl, rfl⟩
  · have k : decide (1 ≤ y) = false := decide_eq_false a
    have e : jleapB y = false := by rw [← Bool.not_eq_true, jleapB_iff]; omega
    rw [e]
    go_enter Tryz.func74, Tryz.ntmps74
    go_wp2
    go_ret
    exact ⟨rfl, rfl⟩
set_option maxHeartbeats 400000 in
theorem rjlen (y m : Int) (h0 : -9223372036854775808 ≤ y) (h1 : y ≤ 9223372036854775807) (h2 : -9223372036854775808 ≤ m) (h3 : m ≤ 9223372036854775807) (w : World) :
    Calls Tryz.prog 72 #[.int .i64 y, .int .i64 m] w fun e w' => e = .returned (.int .i64 (jlenM y m)) ∧ w = w' := by
  obtain ⟨a, ha⟩ : ∃ a, decide (y < 1) = a := ⟨_, rfl⟩
  obtain ⟨b, hb⟩ : ∃ a, decide (9999 < y) = a := ⟨_, rfl⟩
  obtain ⟨c, hc⟩ : ∃ a, decide (m < 1) = a := ⟨_, rfl⟩
  obtain ⟨d, hd⟩ : ∃ a, decide (12 < m) = a := ⟨_, rfl⟩
  by_cases k : y < 1 ∨ 9999 < y ∨ m < 1 ∨ 12 < m
  · rw [jlenM_out k]
    have t : (a || b || c || d) = true := by
      subst ha; subst hb; subst hc; subst hd; simp only [Bool.or_eq_true, decide_eq_true_eq]; omega
    clear k
    cases a <;> cases b <;> cases c <;> cases d <;> (try cases t)
    all_goals
      go_enter Tryz.func72, Tryz.ntmps72
      go_wp2
      go_ret
      exact ⟨rfl, rfl⟩
  · have t : a = false ∧ b = false ∧ c = false ∧ d = false := by
      subst ha; subst hb; subst hc; subst hd; simp only [decide_eq_false_iff_not]; omega
    have y0 : 1 ≤ y := by omega
    have y1 : y ≤ 9999 := by omega
    obtain ⟨rfl, rfl, rfl, rfl⟩ := t
    have e : jlenM y m = if m = 2 then 28 + jlp y else if m = 4 ∨ m = 6 ∨ m = 9 ∨ m = 11 then 30 else 31 := by unfold jlenM; rw [if_neg k]
    by_cases m2 : m = 2
    · subst m2
      rw [if_pos rfl] at e
      have q := jlp_eq y0 y1
      clear k
      rcases q with ⟨q, r⟩ | ⟨q, r⟩
      · have kq : (y % 4 == 0) = true := by simpa using q
        have e' : Hid (jlenM y 2 = 29) := by show jlenM y 2 = 29; omega
        clear e q r
        go_enter Tryz.func72, Tryz.ntmps72
        go_wp2
        go_ret
        exact ⟨by rw [e'.out]; rfl, rfl⟩
      · have kq : (y % 4 == 0) = false := by simpa using q
        have e' : Hid (jlenM y 2 = 28) := by show jlenM y 2 = 28; omega
        clear e q r
        go_enter Tryz.func72, Tryz.ntmps72
        go_wp2
        go_ret
        exact ⟨by rw [e'.out]; rfl, rfl⟩
    · rw [if_neg m2] at e
      have k2 : (m == 2) = false := by simpa using m2
      by_cases s : m = 4 ∨ m = 6 ∨ m = 9 ∨ m = 11
      · rw [if_pos s] at e
        replace e := Lib.hid e
        clear k m2
        rcases s with rfl | rfl | rfl | rfl
        all_goals
          go_enter Tryz.func72, Tryz.ntmps72
          go_wp2
          go_ret
          exact ⟨by rw [e.out]; rfl, rfl⟩
      · rw [if_neg s] at e
        replace e := Lib.hid e
        have k4 : (m == 4) = false := by simp; omega
        have k6 : (m == 6) = false := by simp; omega
        have k9 : (m == 9) = false := by simp; omega
        have k11 : (m == 11) = false := by simp; omega
        clear k m2 s
        go_enter Tryz.func72, Tryz.ntmps72
        go_wp2
        go_ret
        exact ⟨by rw [e.out]; rfl, rfl⟩
theorem rjright (n : Int) (h0 : -9223372036854775808 ≤ n) (h1 : n ≤ 9223372036854775807) (w : World) :
    Calls Tryz.prog 71 #[.int .i64 n] w fun e w' => e = .returned (.bool (dyB n)) ∧ w = w' := by
  rw [dyB_eq]
  obtain ⟨p, hp⟩ : ∃ p, decide (-719162 ≤ n) = p := ⟨_, rfl⟩
  obtain ⟨q, hq⟩ : ∃ p, decide (n < 2932897) = p := ⟨_, rfl⟩
  rw [hp, hq]
  cases p <;> cases q
  all_goals
    go_enter Tryz.func71, Tryz.ntmps71
    go_wp2
    go_ret
    exact ⟨rfl, rfl⟩
theorem jfirst_bd {y : Int} (y0 : 1 ≤ y) (y1 : y ≤ 9999) : -719164 ≤ jfirst y ∧ jfirst y ≤ 2932970 := by unfold jfirst; omega
theorem rjgleap (y : Int) (h0 : 1 ≤ y) (h1 : y ≤ 9999) (w : World) :
    Calls Tryz.prog 73 #[.int .i64 y] w fun e w' => e = .returned (.bool (leapB y)) ∧ w = w' := by
  have e : leapB y = ((y % 4 == 0) && ((y % 100 != 0) || (y % 400 == 0))) := by
    rw [Bool.eq_iff_iff, leapB_iff]
    simp only [Bool.or_eq_true, Bool.and_eq_true, beq_iff_eq, bne_iff_ne]
    omega
  rw [e]
  obtain ⟨p, hp⟩ : ∃ p, (y % 400 == 0) = p := ⟨_, rfl⟩
  obtain ⟨q, hq⟩ : ∃ p, (y % 4 == 0) = p := ⟨_, rfl⟩
  obtain ⟨r, hr⟩ : ∃ p, (y % 100 != 0) = p := ⟨_, rfl⟩
  rw [hp, hq, hr]
  cases p <;> cases q <;> cases r
  all_goals
    go_enter Tryz.func73, Tryz.ntmps73
    go_wp2
    go_ret
    exact ⟨rfl, rfl⟩
theorem rjgleap_any (y : Int) (h0 : -9223372036854775808 ≤ y) (h1 : y ≤ 9223372036854775807) (w : World) :
    Calls Tryz.prog 73 #[.int .i64 y] w fun e w' => (∃ b, e = .returned (.bool b)) ∧ w = w' := by
  obtain ⟨p, hp⟩ : ∃ p, (y.tmod 400 == 0) = p := ⟨_, rfl⟩
  obtain ⟨q, hq⟩ : ∃ p, (y.tmod 4 == 0) = p := ⟨_, rfl⟩
  obtain ⟨r, hr⟩ : ∃ p, (y.tmod 100 != 0) = p := ⟨_, rfl⟩
  cases p <;> cases q <;> cases r
  all_goals
    go_enter Tryz.func73, Tryz.ntmps73
    go_wp2
    go_ret
    exact ⟨⟨_, rfl⟩, rfl⟩
theorem jday_bd {y m d : Int} (h : jvld y m d = true) : -719164 ≤ jdayN y m d ∧ jdayN y m d ≤ 2933400 := by
  obtain ⟨y0, y1, m0, m1, d0, d1⟩ := jvld_bd h
  have a := jfirst_bd y0 y1
  have b := jcum_bd y0 y1 m0 (show m ≤ 13 by omega)
  unfold jdayN; omega
theorem leap_jleap {y : Int} (h : leapB y = true) : jleapB y = true := by
  have k := leapB_iff.1 h; exact jleapB_iff.2 (by omega)
theorem lenM_two {y : Int} (y0 : 1 ≤ y) (y1 : y ≤ 9999) : lenM y 2 = if leapB y then 29 else 28 := by
  unfold lenM; rw [if_neg (by omega), if_pos rfl]; unfold lp; split <;> rfl
theorem jlenM_two {y : Int} (y0 : 1 ≤ y) (y1 : y ≤ 9999) : 28 ≤ jlenM y 2 ∧ jlenM y 2 ≤ 29 ∧ (leapB y = true → jlenM y 2 = 29) := by
  have q : jlenM y 2 = 28 + jlp y := by unfold jlenM; rw [if_neg (by omega), if_pos rfl]
  have r := jlp_01 y
  refine ⟨by omega, by omega, fun h => ?_⟩
  have : jlp y = 1 := by unfold jlp; rw [if_pos (leap_jleap h)]
  omega
/-- What the reference finds for the length of a month: the Julian one, or 28. -/
theorem rjlong (y m : Int) : (m = 2 ∧ leapB y = false ∧ 0 < jlenM y m ∧ lenM y m = 28) ∨ (m = 2 ∧ jlenM y m ≤ 0 ∧ lenM y m = jlenM y m) ∨ (m = 2 ∧ 1 ≤ y ∧ y ≤ 9999 ∧ leapB y = true ∧ lenM y m = jlenM y m) ∨ (m ≠ 2 ∧ lenM y m = jlenM y m) := by
  by_cases h : m = 2
  · subst h
    by_cases k : 1 ≤ y ∧ y ≤ 9999
    · have a := lenM_two k.1 k.2
      have b := jlenM_two k.1 k.2
      cases l : leapB y
      · left; rw [l] at a; exact ⟨rfl, rfl, by omega, a⟩
      · right; right; left; rw [l] at a; exact ⟨rfl, k.1, k.2, rfl, by rw [b.2.2 l, a]; rfl⟩
    · right; left
      have a : jlenM y 2 = 0 := jlenM_out (by omega)
      have b : lenM y 2 = 0 := lenM_out (by omega)
      exact ⟨rfl, by omega, by omega⟩
  · right; right; right
    refine ⟨h, ?_⟩
    rw [lenM_jlenM, if_neg (fun q => h q.1)]
theorem first_formula {y : Int} : -719162 + 365 * (y - 1) + (y - 1) / 4 - (y - 1) / 100 + (y - 1) / 400 = first y := rfl
theorem first_bdJ {y : Int} (y0 : 1 ≤ y) (y1 : y ≤ 9999) : -719162 ≤ first y ∧ first y ≤ 2932897 := by unfold first; omega
set_option maxHeartbeats 800000 in
theorem rjgreg_no (y m d : Int) (hy : I64 y) (hm : I64 m) (hd : I64 d) (h : vld y m d = false) (w : World) :
    Calls Tryz.prog 58 #[.agg #[.int .i64 y, .int .i64 m, .int .i64 d]] w fun e w' => e = .returned (.tuple #[.int .i64 0, .bool false]) ∧ Below w.heap.size w w' := by
  have HL := Lib.hid (fun w => rjlen y m hy.1 hy.2 hm.1 hm.2 w)
  have hv : ¬ (1 ≤ d ∧ d ≤ lenM y m) := fun q => by rw [vld_iff.2 q] at h; exact absurd h (by simp)
  have hl := rjlong y m
  obtain ⟨L, hL⟩ : ∃ L, lenM y m = L := ⟨_, rfl⟩
  rw [hL] at hv hl
  have hj : -1 ≤ jlenM y m ∧ jlenM y m ≤ 31 := by
    by_cases k : y < 1 ∨ 9999 < y ∨ m < 1 ∨ 12 < m
    · rw [jlenM_out k]; omega
    · have := jlenM_in (y := y) (m := m) (by omega) (by omega) (by omega) (by omega); omega
  clear h hL
  have hg := Lib.hid (fun w => rjgleap_any y hy.1 hy.2 w)
  have hg2 : 1 ≤ y → y ≤ 9999 → ∀ w, Calls Tryz.prog 73 #[.int .i64 y] w fun e w' => e = .returned (.bool (leapB y)) ∧ w = w' := fun a b w => rjgleap y a b w
  replace hg2 := Lib.hid hg2
  have hy0 : 0 < jlenM y m → 1 ≤ y ∧ y ≤ 9999 := fun q => ⟨(jlenM_pos q).1, (jlenM_pos q).2.1⟩
  generalize jlenM y m = J at *
  obtain ⟨j0, j1⟩ := hj
  rcases hl with ⟨rfl, l, lj, rfl⟩ | ⟨rfl, lj, rfl⟩ | ⟨rfl, y0, y1, l, rfl⟩ | ⟨m2, rfl⟩
  · obtain ⟨y0, y1⟩ := hy0 lj
    have HG := fun w => hg2.out y0 y1 w
    rw [l] at HG
    replace HG := Lib.hid HG
    have kj : decide (0 < J) = true := decide_eq_true lj
    clear hg hg2 hy0 l
    by_cases a : d < 1
    · have k : decide (d < 1) = true := decide_eq_true a
      clear hv
      go_enter Tryz.func58, Tryz.ntmps58
      go_wp2_with (first | (go_at_call 72; refine (HL.out _).mono ?_; rintro e w2 ⟨rfl, rfl⟩) | (go_at_call 73; refine (HG.out _).mono ?_; rintro e w2 ⟨rfl, rfl⟩))
      go_ret2
      exact ⟨rfl, (Below.refl _ _).alloc (Nat.le_refl _) _⟩
    · have k : decide (d < 1) = false := decide_eq_false a
      have k2 : decide (28 < d) = true := decide_eq_true (by omega)
      clear hv
      go_enter Tryz.func58, Tryz.ntmps58
      go_wp2_with (first | (go_at_call 72; refine (HL.out _).mono ?_; rintro e w2 ⟨rfl, rfl⟩) | (go_at_call 73; refine (HG.out _).mono ?_; rintro e w2 ⟨rfl, rfl⟩))
      go_ret2
      exact ⟨rfl, (Below.refl _ _).alloc (Nat.le_refl _) _⟩
  · have kj : decide (0 < L) = false := decide_eq_false (by omega)
    clear hg2 hy0
    by_cases a : d < 1
    · have k : decide (d < 1) = true := decide_eq_true a
      clear hv
      go_enter Tryz.func58, Tryz.ntmps58
      go_wp2_with (fail)
      refine (HL.out _).mono ?_
      rintro e w2 ⟨rfl, rfl⟩
      go_wp2_with (fail)
      refine (hg.out _).mono ?_
      rintro e w2 ⟨⟨b, rfl⟩, rfl⟩
      cases b
      all_goals
        go_wp2
        go_ret2
        exact ⟨rfl, (Below.refl _ _).alloc (Nat.le_refl _) _⟩
    · have k : decide (d < 1) = false := decide_eq_false a
      have k2 : decide (L < d) = true := decide_eq_true (by omega)
      clear hv
      go_enter Tryz.func58, Tryz.ntmps58
      go_wp2_with (fail)
      refine (HL.out _).mono ?_
      rintro e w2 ⟨rfl, rfl⟩
      go_wp2_with (fail)
      refine (hg.out _).mono ?_
      rintro e w2 ⟨⟨b, rfl⟩, rfl⟩
      cases b
      all_goals
        go_wp2
        go_ret2
        exact ⟨rfl, (Below.refl _ _).alloc (Nat.le_refl _) _⟩
  · have HG := fun w => hg2.out y0 y1 w
    rw [l] at HG
    replace HG := Lib.hid HG
    clear hg hg2 hy0 l
    by_cases a : d < 1
    · have k : decide (d < 1) = true := decide_eq_true a
      clear hv
      go_enter Tryz.func58, Tryz.ntmps58
      go_wp2_with (first | (go_at_call 72; refine (HL.out _).mono ?_; rintro e w2 ⟨rfl, rfl⟩) | (go_at_call 73; refine (HG.out _).mono ?_; rintro e w2 ⟨rfl, rfl⟩))
      go_ret2
      exact ⟨rfl, (Below.refl _ _).alloc (Nat.le_refl _) _⟩
    · have k : decide (d < 1) = false := decide_eq_false a
      have k2 : decide (L < d) = true := decide_eq_true (by omega)
      clear hv
      go_enter Tryz.func58, Tryz.ntmps58
      go_wp2_with (first | (go_at_call 72; refine (HL.out _).mono ?_; rintro e w2 ⟨rfl, rfl⟩) | (go_at_call 73; refine (HG.out _).mono ?_; rintro e w2 ⟨rfl, rfl⟩))
      go_ret2
      exact ⟨rfl, (Below.refl _ _).alloc (Nat.le_refl _) _⟩
  · have km : (m == 2) = false := by simpa using m2
    clear hg hg2 hy0 m2
    by_cases a : d < 1
    · have k : decide (d < 1) = true := decide_eq_true a
      clear hv
      go_enter Tryz.func58, Tryz.ntmps58
      go_wp2_with (first | (go_at_call 72; refine (HL.out _).mono ?_; rintro e w2 ⟨rfl, rfl⟩))
      go_ret2
      exact ⟨rfl, (Below.refl _ _).alloc (Nat.le_refl _) _⟩
    · have k : decide (d < 1) = false := decide_eq_false a
      have k2 : decide (L < d) = true := decide_eq_true (by omega)
      clear hv
      go_enter Tryz.func58, Tryz.ntmps58
      go_wp2_with (first | (go_at_call 72; refine (HL.out _).mono ?_; rintro e w2 ⟨rfl, rfl⟩))
      go_ret2
      exact ⟨rfl, (Below.refl _ _).alloc (Nat.le_refl _) _⟩
-- gregorian, each path
set_option maxHeartbeats 800000 in
theorem rjgreg_A (y m d : Int) (h : vld y m d = true) (m2 : m = 2) (g : leapB y = false) (w : World) :
    Calls Tryz.prog 58 #[.agg #[.int .i64 y, .int .i64 m, .int .i64 d]] w fun e w' => e = .returned (.tuple #[.int .i64 (dayN y m d), .bool true]) ∧ Below w.heap.size w w' := by
  obtain ⟨y0, y1, m0, m1, d0, d1⟩ := vld_bd h
  have v := vld_iff.1 h
  have HV := vld_jvld h
  have jl := jlenM_in y0 y1 m0 m1
  have km : (m == 2) = true := by simp [m2]
  have k3 : decide (2 < m) = false := decide_eq_false (by omega)
  have kJ : decide (0 < jlenM y m) = true := decide_eq_true (by omega)
  have kd : decide (28 < d) = false := decide_eq_false (by have := lenM_two y0 y1; rw [g] at this; rw [m2] at v; simp at this; omega)
  have hc : Hid (dayN y m d = first y + jcum y m + d - 1) := by show dayN y m d = _; unfold dayN; rw [cum_jcum_early (by omega)]
  have hF : -719162 + 365 * (y - 1) + (y - 1) / 4 - (y - 1) / 100 + (y - 1) / 400 = first y := rfl
  obtain ⟨f0, f1⟩ := first_bdJ y0 y1
  have HL := fun w => rjlen y m (by omega) (by omega) (by omega) (by omega) w
  have HG := fun w => rjgleap y y0 y1 w
  rw [g] at HG
  replace HG := Lib.hid HG
  have kd1 : decide (d < 1) = false := decide_eq_false (by omega)
  clear h HV v m2 g
  replace HL := Lib.hid HL
  generalize jlenM y m = J at *
  obtain ⟨jl0, jl1⟩ := jl
  generalize first y = f at *
  go_enter Tryz.func58, Tryz.ntmps58
  go_wp2_with (first | (go_at_call 72; refine (HL.out _).mono ?_; rintro e w2 ⟨rfl, rfl⟩) | (go_at_call 73; refine (HG.out _).mono ?_; rintro e w2 ⟨rfl, rfl⟩))
  go_loop [6, 7] (fun a b => ∃ (k n : Int), 1 ≤ k ∧ k ≤ m ∧ 0 ≤ n ∧ n ≤ 366 ∧ Hid (n = jcum y k) ∧ a = .int .i64 (f + n) ∧ b = .int .i64 k) (fun _ b => (m - intOf b).toNat)
  case atStart => exact ⟨1, 0, by omega, m0, by omega, by omega, (jcum_one y).symm, by rw [Int.add_zero], rfl⟩
  case round =>
    obtain ⟨k, n, k0, k1, n0, n1, HC, rfl, rfl⟩ := hrel
    by_cases z : k < m
    · have kz : decide (k < m) = true := decide_eq_true z
      have HS := jcum_succ y0 y1 k0 (by omega)
      have hl := jlenM_in y0 y1 k0 (show k ≤ 12 by omega)
      have hbd := jcum_bd y0 y1 (m := k + 1) (by omega) (by omega)
      rw [HS, ← HC.out] at hbd
      have HC' : Hid (n + jlenM y k = jcum y (k + 1)) := by show n + jlenM y k = jcum y (k + 1); rw [HS, ← HC.out]
      have HK := Lib.hid (fun w => rjlen y k (by omega) (by omega) (by omega) (by omega) w)
      clear HS HC
      generalize jlenM y k = l at *
      obtain ⟨hl0, hl1⟩ := hl
      obtain ⟨hb0, hb1⟩ := hbd
      go_wp2_with fail
      refine (HK.out _).mono ?_
      rintro e w' ⟨rfl, rfl⟩
      go_wp2
      go_round
      case rel => exact ⟨k + 1, n + l, by omega, by omega, by omega, by omega, HC', by rw [Int.add_assoc], rfl⟩
      case measure => simp [intOf]; omega
    · obtain rfl : k = m := by omega
      have kz : decide (k < k) = false := decide_eq_false z
      have HE : Hid (dayN y k d = f + n + d - 1) := by show _ = _; rw [hc.out, ← HC.out]
      clear hc HC HL
      go_wp2_with (first | (go_at_call 73; refine (HG.out _).mono ?_; rintro e w2 ⟨rfl, rfl⟩))
      go_ret2
      exact ⟨by rw [HE.out]; rfl, (Below.refl _ _).alloc (Nat.le_refl _) _⟩
set_option maxHeartbeats 800000 in
theorem rjgreg_B (y m d : Int) (h : vld y m d = true) (m2 : m = 2) (g : leapB y = true) (w : World) :
    Calls Tryz.prog 58 #[.agg #[.int .i64 y, .int .i64 m, .int .i64 d]] w fun e w' => e = .returned (.tuple #[.int .i64 (dayN y m d), .bool true]) ∧ Below w.heap.size w w' := by
  obtain ⟨y0, y1, m0, m1, d0, d1⟩ := vld_bd h
  have v := vld_iff.1 h
  have HV := vld_jvld h
  have jl := jlenM_in y0 y1 m0 m1
  have km : (m == 2) = true := by simp [m2]
  have k3 : decide (2 < m) = false := decide_eq_false (by omega)
  have kd : decide (jlenM y m < d) = false := decide_eq_false (by have := lenM_two y0 y1; have u := (jlenM_two y0 y1).2.2 g; rw [g] at this; rw [m2] at v; rw [m2]; simp at this; omega)
  have hc : Hid (dayN y m d = first y + jcum y m + d - 1) := by show dayN y m d = _; unfold dayN; rw [cum_jcum_early (by omega)]
  have hF : -719162 + 365 * (y - 1) + (y - 1) / 4 - (y - 1) / 100 + (y - 1) / 400 = first y := rfl
  obtain ⟨f0, f1⟩ := first_bdJ y0 y1
  have HL := fun w => rjlen y m (by omega) (by omega) (by omega) (by omega) w
  have HG := fun w => rjgleap y y0 y1 w
  rw [g] at HG
  replace HG := Lib.hid HG
  have kd1 : decide (d < 1) = false := decide_eq_false (by omega)
  clear h HV v m2 g
  replace HL := Lib.hid HL
  generalize jlenM y m = J at *
  obtain ⟨jl0, jl1⟩ := jl
  generalize first y = f at *
  go_enter Tryz.func58, Tryz.ntmps58
  go_wp2_with (first | (go_at_call 72; refine (HL.out _).mono ?_; rintro e w2 ⟨rfl, rfl⟩) | (go_at_call 73; refine (HG.out _).mono ?_; rintro e w2 ⟨rfl, rfl⟩))
  go_loop [6, 7] (fun a b => ∃ (k n : Int), 1 ≤ k ∧ k ≤ m ∧ 0 ≤ n ∧ n ≤ 366 ∧ Hid (n = jcum y k) ∧ a = .int .i64 (f + n) ∧ b = .int .i64 k) (fun _ b => (m - intOf b).toNat)
  case atStart => exact ⟨1, 0, by omega, m0, by omega, by omega, (jcum_one y).symm, by rw [Int.add_zero], rfl⟩
  case round =>
    obtain ⟨k, n, k0, k1, n0, n1, HC, rfl, rfl⟩ := hrel
    by_cases z : k < m
    · have kz : decide (k < m) = true := decide_eq_true z
      have HS := jcum_succ y0 y1 k0 (by omega)
      have hl := jlenM_in y0 y1 k0 (show k ≤ 12 by omega)
      have hbd := jcum_bd y0 y1 (m := k + 1) (by omega) (by omega)
      rw [HS, ← HC.out] at hbd
      have HC' : Hid (n + jlenM y k = jcum y (k + 1)) := by show n + jlenM y k = jcum y (k + 1); rw [HS, ← HC.out]
      have HK := Lib.hid (fun w => rjlen y k (by omega) (by omega) (by omega) (by omega) w)
      clear HS HC
      generalize jlenM y k = l at *
      obtain ⟨hl0, hl1⟩ := hl
      obtain ⟨hb0, hb1⟩ := hbd
      go_wp2_with fail
      refine (HK.out _).mono ?_
      rintro e w' ⟨rfl, rfl⟩
      go_wp2
      go_round
      case rel => exact ⟨k + 1, n + l, by omega, by omega, by omega, by omega, HC', by rw [Int.add_assoc], rfl⟩
      case measure => simp [intOf]; omega
    · obtain rfl : k = m := by omega
      have kz : decide (k < k) = false := decide_eq_false z
      have HE : Hid (dayN y k d = f + n + d - 1) := by show _ = _; rw [hc.out, ← HC.out]
      clear hc HC HL
      go_wp2_with (first | (go_at_call 73; refine (HG.out _).mono ?_; rintro e w2 ⟨rfl, rfl⟩))
      go_ret2
      exact ⟨by rw [HE.out]; rfl, (Below.refl _ _).alloc (Nat.le_refl _) _⟩
set_option maxHeartbeats 800000 in
theorem rjgreg_C (y m d : Int) (h : vld y m d = true) (m2 : m = 1) (w : World) :
    Calls Tryz.prog 58 #[.agg #[.int .i64 y, .int .i64 m, .int .i64 d]] w fun e w' => e = .returned (.tuple #[.int .i64 (dayN y m d), .bool true]) ∧ Below w.heap.size w w' := by
  obtain ⟨y0, y1, m0, m1, d0, d1⟩ := vld_bd h
  have v := vld_iff.1 h
  have HV := vld_jvld h
  have jl := jlenM_in y0 y1 m0 m1
  have km : (m == 2) = false := by simp [m2]
  have k3 : decide (2 < m) = false := decide_eq_false (by omega)
  have kd : decide (jlenM y m < d) = false := decide_eq_false (by have := lenM_jlenM (y := y) (m := m); rw [if_neg (fun q => by omega)] at this; omega)
  have hc : Hid (dayN y m d = first y + jcum y m + d - 1) := by show dayN y m d = _; unfold dayN; rw [cum_jcum_early (by omega)]
  have hF : -719162 + 365 * (y - 1) + (y - 1) / 4 - (y - 1) / 100 + (y - 1) / 400 = first y := rfl
  obtain ⟨f0, f1⟩ := first_bdJ y0 y1
  have HL := fun w => rjlen y m (by omega) (by omega) (by omega) (by omega) w
  have kd1 : decide (d < 1) = false := decide_eq_false (by omega)
  clear h HV v m2
  replace HL := Lib.hid HL
  generalize jlenM y m = J at *
  obtain ⟨jl0, jl1⟩ := jl
  generalize first y = f at *
  go_enter Tryz.func58, Tryz.ntmps58
  go_wp2_with (first | (go_at_call 72; refine (HL.out _).mono ?_; rintro e w2 ⟨rfl, rfl⟩))
  go_loop [6, 7] (fun a b => ∃ (k n : Int), 1 ≤ k ∧ k ≤ m ∧ 0 ≤ n ∧ n ≤ 366 ∧ Hid (n = jcum y k) ∧ a = .int .i64 (f + n) ∧ b = .int .i64 k) (fun _ b => (m - intOf b).toNat)
  case atStart => exact ⟨1, 0, by omega, m0, by omega, by omega, (jcum_one y).symm, by rw [Int.add_zero], rfl⟩
  case round =>
    obtain ⟨k, n, k0, k1, n0, n1, HC, rfl, rfl⟩ := hrel
    by_cases z : k < m
    · have kz : decide (k < m) = true := decide_eq_true z
      have HS := jcum_succ y0 y1 k0 (by omega)
      have hl := jlenM_in y0 y1 k0 (show k ≤ 12 by omega)
      have hbd := jcum_bd y0 y1 (m := k + 1) (by omega) (by omega)
      rw [HS, ← HC.out] at hbd
      have HC' : Hid (n + jlenM y k = jcum y (k + 1)) := by show n + jlenM y k = jcum y (k + 1); rw [HS, ← HC.out]
      have HK := Lib.hid (fun w => rjlen y k (by omega) (by omega) (by omega) (by omega) w)
      clear HS HC
      generalize jlenM y k = l at *
      obtain ⟨hl0, hl1⟩ := hl
      obtain ⟨hb0, hb1⟩ := hbd
      go_wp2_with fail
      refine (HK.out _).mono ?_
      rintro e w' ⟨rfl, rfl⟩
      go_wp2
      go_round
      case rel => exact ⟨k + 1, n + l, by omega, by omega, by omega, by omega, HC', by rw [Int.add_assoc], rfl⟩
      case measure => simp [intOf]; omega
    · obtain rfl : k = m := by omega
      have kz : decide (k < k) = false := decide_eq_false z
      have HE : Hid (dayN y k d = f + n + d - 1) := by show _ = _; rw [hc.out, ← HC.out]
      clear hc HC HL
      go_wp2
      go_ret2
      exact ⟨by rw [HE.out]; rfl, (Below.refl _ _).alloc (Nat.le_refl _) _⟩
set_option maxHeartbeats 800000 in
theorem rjgreg_D (y m d : Int) (h : vld y m d = true) (m2 : 3 ≤ m) (j : jleapB y = false) (w : World) :
    Calls Tryz.prog 58 #[.agg #[.int .i64 y, .int .i64 m, .int .i64 d]] w fun e w' => e = .returned (.tuple #[.int .i64 (dayN y m d), .bool true]) ∧ Below w.heap.size w w' := by
  obtain ⟨y0, y1, m0, m1, d0, d1⟩ := vld_bd h
  have v := vld_iff.1 h
  have HV := vld_jvld h
  have jl := jlenM_in y0 y1 m0 m1
  have km : (m == 2) = false := by simp; omega
  have k3 : decide (2 < m) = true := decide_eq_true (by omega)
  have kd : decide (jlenM y m < d) = false := decide_eq_false (by have := lenM_jlenM (y := y) (m := m); rw [if_neg (fun q => by omega)] at this; omega)
  have hc : Hid (dayN y m d = first y + jcum y m + d - 1) := by show dayN y m d = _; unfold dayN; rw [cum_jcum_late m2 m1]; have := lp_le y0 y1; have := lp_01 y; have z : jlp y = 0 := (by unfold jlp; rw [j]; rfl); omega
  have hF : -719162 + 365 * (y - 1) + (y - 1) / 4 - (y - 1) / 100 + (y - 1) / 400 = first y := rfl
  obtain ⟨f0, f1⟩ := first_bdJ y0 y1
  have HL := fun w => rjlen y m (by omega) (by omega) (by omega) (by omega) w
  have HJ := fun w => rjleap y (by omega) (by omega) w
  rw [j] at HJ
  replace HJ := Lib.hid HJ
  have kd1 : decide (d < 1) = false := decide_eq_false (by omega)
  clear h HV v m2 j
  replace HL := Lib.hid HL
  generalize jlenM y m = J at *
  obtain ⟨jl0, jl1⟩ := jl
  generalize first y = f at *
  go_enter Tryz.func58, Tryz.ntmps58
  go_wp2_with (first | (go_at_call 72; refine (HL.out _).mono ?_; rintro e w2 ⟨rfl, rfl⟩))
  go_loop [6, 7] (fun a b => ∃ (k n : Int), 1 ≤ k ∧ k ≤ m ∧ 0 ≤ n ∧ n ≤ 366 ∧ Hid (n = jcum y k) ∧ a = .int .i64 (f + n) ∧ b = .int .i64 k) (fun _ b => (m - intOf b).toNat)
  case atStart => exact ⟨1, 0, by omega, m0, by omega, by omega, (jcum_one y).symm, by rw [Int.add_zero], rfl⟩
  case round =>
    obtain ⟨k, n, k0, k1, n0, n1, HC, rfl, rfl⟩ := hrel
    by_cases z : k < m
    · have kz : decide (k < m) = true := decide_eq_true z
      have HS := jcum_succ y0 y1 k0 (by omega)
      have hl := jlenM_in y0 y1 k0 (show k ≤ 12 by omega)
      have hbd := jcum_bd y0 y1 (m := k + 1) (by omega) (by omega)
      rw [HS, ← HC.out] at hbd
      have HC' : Hid (n + jlenM y k = jcum y (k + 1)) := by show n + jlenM y k = jcum y (k + 1); rw [HS, ← HC.out]
      have HK := Lib.hid (fun w => rjlen y k (by omega) (by omega) (by omega) (by omega) w)
      clear HS HC
      generalize jlenM y k = l at *
      obtain ⟨hl0, hl1⟩ := hl
      obtain ⟨hb0, hb1⟩ := hbd
      go_wp2_with fail
      refine (HK.out _).mono ?_
      rintro e w' ⟨rfl, rfl⟩
      go_wp2
      go_round
      case rel => exact ⟨k + 1, n + l, by omega, by omega, by omega, by omega, HC', by rw [Int.add_assoc], rfl⟩
      case measure => simp [intOf]; omega
    · obtain rfl : k = m := by omega
      have kz : decide (k < k) = false := decide_eq_false z
      have HE : Hid (dayN y k d = f + n + d - 1) := by show _ = _; rw [hc.out, ← HC.out]
      clear hc HC HL
      go_wp2_with (first | (go_at_call 74; refine (HJ.out _).mono ?_; rintro e w2 ⟨rfl, rfl⟩))
      go_ret2
      exact ⟨by rw [HE.out]; rfl, (Below.refl _ _).alloc (Nat.le_refl _) _⟩
set_option maxHeartbeats 800000 in
theorem rjgreg_E (y m d : Int) (h : vld y m d = true) (m2 : 3 ≤ m) (j : jleapB y = true) (g : leapB y = true) (w : World) :
    Calls Tryz.prog 58 #[.agg #[.int .i64 y, .int .i64 m, .int .i64 d]] w fun e w' => e = .returned (.tuple #[.int .i64 (dayN y m d), .bool true]) ∧ Below w.heap.size w w' := by
  obtain ⟨y0, y1, m0, m1, d0, d1⟩ := vld_bd h
  have v := vld_iff.1 h
  have HV := vld_jvld h
  have jl := jlenM_in y0 y1 m0 m1
  have km : (m == 2) = false := by simp; omega
  have k3 : decide (2 < m) = true := decide_eq_true (by omega)
  have kd : decide (jlenM y m < d) = false := decide_eq_false (by have := lenM_jlenM (y := y) (m := m); rw [if_neg (fun q => by omega)] at this; omega)
  have hc : Hid (dayN y m d = first y + jcum y m + d - 1) := by show dayN y m d = _; unfold dayN; rw [cum_jcum_late m2 m1]; unfold lp jlp; rw [g, j]; simp
  have hF : -719162 + 365 * (y - 1) + (y - 1) / 4 - (y - 1) / 100 + (y - 1) / 400 = first y := rfl
  obtain ⟨f0, f1⟩ := first_bdJ y0 y1
  have HL := fun w => rjlen y m (by omega) (by omega) (by omega) (by omega) w
  have HG := fun w => rjgleap y y0 y1 w
  rw [g] at HG
  replace HG := Lib.hid HG
  have HJ := fun w => rjleap y (by omega) (by omega) w
  rw [j] at HJ
  replace HJ := Lib.hid HJ
  have kd1 : decide (d < 1) = false := decide_eq_false (by omega)
  clear h HV v m2 g j
  replace HL := Lib.hid HL
  generalize jlenM y m = J at *
  obtain ⟨jl0, jl1⟩ := jl
  generalize first y = f at *
  go_enter Tryz.func58, Tryz.ntmps58
  go_wp2_with (first | (go_at_call 72; refine (HL.out _).mono ?_; rintro e w2 ⟨rfl, rfl⟩) | (go_at_call 73; refine (HG.out _).mono ?_; rintro e w2 ⟨rfl, rfl⟩))
  go_loop [6, 7] (fun a b => ∃ (k n : Int), 1 ≤ k ∧ k ≤ m ∧ 0 ≤ n ∧ n ≤ 366 ∧ Hid (n = jcum y k) ∧ a = .int .i64 (f + n) ∧ b = .int .i64 k) (fun _ b => (m - intOf b).toNat)
  case atStart => exact ⟨1, 0, by omega, m0, by omega, by omega, (jcum_one y).symm, by rw [Int.add_zero], rfl⟩
  case round =>
    obtain ⟨k, n, k0, k1, n0, n1, HC, rfl, rfl⟩ := hrel
    by_cases z : k < m
    · have kz : decide (k < m) = true := decide_eq_true z
      have HS := jcum_succ y0 y1 k0 (by omega)
      have hl := jlenM_in y0 y1 k0 (show k ≤ 12 by omega)
      have hbd := jcum_bd y0 y1 (m := k + 1) (by omega) (by omega)
      rw [HS, ← HC.out] at hbd
      have HC' : Hid (n + jlenM y k = jcum y (k + 1)) := by show n + jlenM y k = jcum y (k + 1); rw [HS, ← HC.out]
      have HK := Lib.hid (fun w => rjlen y k (by omega) (by omega) (by omega) (by omega) w)
      clear HS HC
      generalize jlenM y k = l at *
      obtain ⟨hl0, hl1⟩ := hl
      obtain ⟨hb0, hb1⟩ := hbd
      go_wp2_with fail
      refine (HK.out _).mono ?_
      rintro e w' ⟨rfl, rfl⟩
      go_wp2
      go_round
      case rel => exact ⟨k + 1, n + l, by omega, by omega, by omega, by omega, HC', by rw [Int.add_assoc], rfl⟩
      case measure => simp [intOf]; omega
    · obtain rfl : k = m := by omega
      have kz : decide (k < k) = false := decide_eq_false z
      have HE : Hid (dayN y k d = f + n + d - 1) := by show _ = _; rw [hc.out, ← HC.out]
      clear hc HC HL
      go_wp2_with (first | (go_at_call 73; refine (HG.out _).mono ?_; rintro e w2 ⟨rfl, rfl⟩) | (go_at_call 74; refine (HJ.out _).mono ?_; rintro e w2 ⟨rfl, rfl⟩))
      go_ret2
      exact ⟨by rw [HE.out]; rfl, (Below.refl _ _).alloc (Nat.le_refl _) _⟩
set_option maxHeartbeats 800000 in
theorem rjgreg_F (y m d : Int) (h : vld y m d = true) (m2 : 3 ≤ m) (j : jleapB y = true) (g : leapB y = false) (w : World) :
    Calls Tryz.prog 58 #[.agg #[.int .i64 y, .int .i64 m, .int .i64 d]] w fun e w' => e = .returned (.tuple #[.int .i64 (dayN y m d), .bool true]) ∧ Below w.heap.size w w' := by
  obtain ⟨y0, y1, m0, m1, d0, d1⟩ := vld_bd h
  have v := vld_iff.1 h
  have HV := vld_jvld h
  have jl := jlenM_in y0 y1 m0 m1
  have km : (m == 2) = false := by simp; omega
  have k3 : decide (2 < m) = true := decide_eq_true (by omega)
  have kd : decide (jlenM y m < d) = false := decide_eq_false (by have := lenM_jlenM (y := y) (m := m); rw [if_neg (fun q => by omega)] at this; omega)
  have hc : Hid (dayN y m d = first y + jcum y m - 1 + d - 1) := by show dayN y m d = _; unfold dayN; rw [cum_jcum_late m2 m1]; unfold lp jlp; rw [g, j]; simp; omega
  have hF : -719162 + 365 * (y - 1) + (y - 1) / 4 - (y - 1) / 100 + (y - 1) / 400 = first y := rfl
  obtain ⟨f0, f1⟩ := first_bdJ y0 y1
  have HL := fun w => rjlen y m (by omega) (by omega) (by omega) (by omega) w
  have HG := fun w => rjgleap y y0 y1 w
  rw [g] at HG
  replace HG := Lib.hid HG
  have HJ := fun w => rjleap y (by omega) (by omega) w
  rw [j] at HJ
  replace HJ := Lib.hid HJ
  have kd1 : decide (d < 1) = false := decide_eq_false (by omega)
  clear h HV v m2 g j
  replace HL := Lib.hid HL
  generalize jlenM y m = J at *
  obtain ⟨jl0, jl1⟩ := jl
  generalize first y = f at *
  go_enter Tryz.func58, Tryz.ntmps58
  go_wp2_with (first | (go_at_call 72; refine (HL.out _).mono ?_; rintro e w2 ⟨rfl, rfl⟩) | (go_at_call 73; refine (HG.out _).mono ?_; rintro e w2 ⟨rfl, rfl⟩))
  go_loop [6, 7] (fun a b => ∃ (k n : Int), 1 ≤ k ∧ k ≤ m ∧ 0 ≤ n ∧ n ≤ 366 ∧ Hid (n = jcum y k) ∧ a = .int .i64 (f + n) ∧ b = .int .i64 k) (fun _ b => (m - intOf b).toNat)
  case atStart => exact ⟨1, 0, by omega, m0, by omega, by omega, (jcum_one y).symm, by rw [Int.add_zero], rfl⟩
  case round =>
    obtain ⟨k, n, k0, k1, n0, n1, HC, rfl, rfl⟩ := hrel
    by_cases z : k < m
    · have kz : decide (k < m) = true := decide_eq_true z
      have HS := jcum_succ y0 y1 k0 (by omega)
      have hl := jlenM_in y0 y1 k0 (show k ≤ 12 by omega)
      have hbd := jcum_bd y0 y1 (m := k + 1) (by omega) (by omega)
      rw [HS, ← HC.out] at hbd
      have HC' : Hid (n + jlenM y k = jcum y (k + 1)) := by show n + jlenM y k = jcum y (k + 1); rw [HS, ← HC.out]
      have HK := Lib.hid (fun w => rjlen y k (by omega) (by omega) (by omega) (by omega) w)
      clear HS HC
      generalize jlenM y k = l at *
      obtain ⟨hl0, hl1⟩ := hl
      obtain ⟨hb0, hb1⟩ := hbd
      go_wp2_with fail
      refine (HK.out _).mono ?_
      rintro e w' ⟨rfl, rfl⟩
      go_wp2
      go_round
      case rel => exact ⟨k + 1, n + l, by omega, by omega, by omega, by omega, HC', by rw [Int.add_assoc], rfl⟩
      case measure => simp [intOf]; omega
    · obtain rfl : k = m := by omega
      have kz : decide (k < k) = false := decide_eq_false z
      have HE : Hid (dayN y k d = f + n - 1 + d - 1) := by show _ = _; rw [hc.out, ← HC.out]
      clear hc HC HL
      go_wp2_with (first | (go_at_call 73; refine (HG.out _).mono ?_; rintro e w2 ⟨rfl, rfl⟩) | (go_at_call 74; refine (HJ.out _).mono ?_; rintro e w2 ⟨rfl, rfl⟩))
      go_ret2
      exact ⟨by rw [HE.out]; rfl, (Below.refl _ _).alloc (Nat.le_refl _) _⟩
theorem rjgreg_yes (y m d : Int) (h : vld y m d = true) (w : World) :
    Calls Tryz.prog 58 #[.agg #[.int .i64 y, .int .i64 m, .int .i64 d]] w fun e w' => e = .returned (.tuple #[.int .i64 (dayN y m d), .bool true]) ∧ Below w.heap.size w w' := by
  obtain ⟨y0, y1, m0, m1, d0, d1⟩ := vld_bd h
  by_cases a : m = 2
  · cases g : leapB y
    · exact rjgreg_A y m d h a g w
    · exact rjgreg_B y m d h a g w
  · by_cases b : m = 1
    · exact rjgreg_C y m d h b w
    · cases j : jleapB y
      · exact rjgreg_D y m d h (by omega) j w
      · cases g : leapB y
        · exact rjgreg_F y m d h (by omega) j g w
        · exact rjgreg_E y m d h (by omega) j g w

theorem dyB_no {n : Int} (h : n < -719162 ∨ 2932897 ≤ n) : dyB n = false := by rw [← Bool.not_eq_true, dyB_iff]; omega
theorem dyB_yes {n : Int} (h0 : -719162 ≤ n) (h1 : n < 2932897) : dyB n = true := dyB_iff.2 ⟨h0, h1⟩
theorem rjdate_no (n : Int) (hn : I64 n) (h : n < -719162 ∨ 2932897 ≤ n) (w : World) :
    Calls Tryz.prog 56 #[.int .i64 n] w fun e w' => e = .returned (.tuple #[.agg #[.int .i64 0, .int .i64 0, .int .i64 0], .int .i64 2]) ∧ Below w.heap.size w w' := by
  have HR := fun w => rjright n hn.1 hn.2 w
  rw [dyB_no h] at HR
  replace HR := Lib.hid HR
  clear h
  go_enter Tryz.func56, Tryz.ntmps56
  go_wp2_with fail
  refine (HR.out _).mono ?_
  rintro e w' ⟨rfl, rfl⟩
  go_wp2
  exact bodyPost_ret (v := .tuple #[.agg #[.int .i64 0, .int .i64 0, .int .i64 0], .int .i64 2]) (by simp [results, Tryz.results56, go_sem]) rfl ⟨rfl, (Below.refl _ _).alloc (Nat.le_refl _) _⟩
/-- The parts of a day in cycles of four years. -/
theorem jquot {n y : Int} (y0 : 1 ≤ y) (y1 : y ≤ 9999) (r0 : -719162 ≤ n) (a0 : jfirst y ≤ n) (a1 : n < jfirst (y + 1)) :
    ∃ q x k : Int, (n + 719164) / 1461 = q ∧ (n + 719164) % 1461 = x ∧ 0 ≤ q ∧ q ≤ 2500 ∧ 0 ≤ x ∧ x ≤ 1460 ∧ 0 ≤ k ∧ k ≤ 3 ∧ y = 4 * q + 1 + k ∧ x - 365 * k = n - jfirst y ∧ (k < 3 → x - 365 * k < 365) ∧ 0 ≤ x - 365 * k := by
  have s := jfirst_succ y0 y1
  have e := jlp_eq y0 y1
  refine ⟨_, _, y - 1 - 4 * ((n + 719164) / 1461), rfl, rfl, ?_⟩
  unfold jfirst at *
  omega
set_option maxHeartbeats 1000000 in
theorem rjdate_yes (n y m d : Int) (h : jvld y m d = true) (hn : jdayN y m d = n) (r0 : -719162 ≤ n) (r1 : n < 2932897) (w : World) :
    Calls Tryz.prog 56 #[.int .i64 n] w fun e w' => e = .returned (.tuple #[.agg #[.int .i64 y, .int .i64 m, .int .i64 d], .int .i64 0]) ∧ Below w.heap.size w w' := by
  obtain ⟨y0, y1, m0, m1, d0, d1⟩ := jvld_bd h
  obtain ⟨a0, a1, a2⟩ := jday_in h
  have hlen := jvld_iff.1 h
  rw [hn] at a0 a1 a2
  obtain ⟨q, x, k, hq, hx, q0, q1, x0, x1, k0, k1, hy, hk, hk3, hk0⟩ := jquot y0 y1 r0 a0 a1
  have HR := fun w => rjright n (by omega) (by omega) w
  rw [dyB_yes r0 r1] at HR
  replace HR := Lib.hid HR
  have e5 : x - 365 * k = jcum y m + d - 1 := by omega
  have hb := jcum_bd y0 y1 m0 (show m ≤ 13 by omega)
  clear a0 a1 a2 hn h hk
  replace hk3 := Lib.hid hk3
  replace hk0 := Lib.hid hk0
  replace hy := Lib.hid hy
  replace e5 := Lib.hid e5
  replace hb := Lib.hid hb
  replace hlen := Lib.hid hlen
  have p0 : 0 ≤ n + 719164 := by omega
  go_enter Tryz.func56, Tryz.ntmps56
  go_wp2_with fail
  refine (HR.out _).mono ?_
  rintro e w' ⟨rfl, rfl⟩
  go_wp2
  go_loop [4, 5, 6] (fun a b c => ∃ j : Int, 0 ≤ j ∧ j ≤ k ∧ a = .int .i64 (x - 365 * j) ∧ b = .int .i64 (4 * q + 1 + j) ∧ c = .int .i64 j) (fun _ _ c => (k - intOf c).toNat)
  case atStart => exact ⟨0, by omega, k0, by simp [hx], by simp, rfl⟩
  case round =>
    obtain ⟨j, j0, j1, rfl, rfl, rfl⟩ := hrel
    by_cases c : j < k
    · have c3 : decide (j < 3) = true := decide_eq_true (by omega)
      have cx : decide (365 ≤ x - 365 * j) = true := decide_eq_true (by have := hk0.out; omega)
      have cx0 : 365 ≤ x - 365 * j := of_decide_eq_true cx
      go_wp2
      go_round
      case rel => exact ⟨j + 1, by omega, by omega, by congr 1; omega, by congr 1; omega, rfl⟩
      case measure => simp [intOf]; omega
    · obtain rfl : j = k := by omega
      have e6 : Hid (4 * q + 1 + j = y) := hy.out.symm
      have y0' : 1 ≤ 4 * q + 1 + j := by rw [e6.out]; exact y0
      have y1' : 4 * q + 1 + j ≤ 9999 := by rw [e6.out]; exact y1
      obtain ⟨Y, hY⟩ : ∃ Y, 4 * q + 1 + j = Y := ⟨_, rfl⟩
      obtain ⟨X, hX⟩ : ∃ X, x - 365 * j = X := ⟨_, rfl⟩
      have hX0 : 0 ≤ X ∧ X ≤ 400 := by have := e5.out; have := hb.out; omega
      obtain ⟨X0, X1⟩ := hX0
      have eY : Hid (Y = y) := by show Y = y; rw [← hY]; exact e6.out
      have eX : Hid (X = jcum y m + d - 1) := by show X = _; rw [← hX]; exact e5.out
      have hk3' := hk3.out
      rw [hX] at hk3'
      have hcase : (decide (j < 3) = true ∧ decide (365 ≤ X) = false) ∨ decide (j < 3) = false := by
        by_cases z : j < 3
        · have := hk3' z; exact Or.inl ⟨decide_eq_true z, decide_eq_false (by omega)⟩
        · exact Or.inr (decide_eq_false z)
      clear hk3 hk3' hk0 e6 y0' y1' hy e5 hq hx c j1
      rw [hX, hY]
      obtain rfl : Y = y := eY.out
      clear hX hY eY
      rcases hcase with ⟨z3, zx⟩ | z3
      all_goals
        go_wp2
        go_loop [4, 7] (fun a b => ∃ i u : Int, 1 ≤ i ∧ i ≤ m ∧ Hid (u + jcum Y i = jcum Y m + d - 1) ∧ 0 ≤ u ∧ u ≤ 400 ∧ a = .int .i64 u ∧ b = .int .i64 i) (fun _ b => (m - intOf b).toNat)
        case atStart => exact ⟨1, X, by omega, m0, by show X + jcum Y 1 = _; rw [jcum_one, eX.out]; omega, X0, X1, rfl, rfl⟩
        case round =>
          obtain ⟨i, u, i0, i1, hu, u0, u1, rfl, rfl⟩ := hrel
          have HL := Lib.hid (fun w => rjlen Y i (by omega) (by omega) (by omega) (by omega) w)
          by_cases c : i < m
          · have s := jcum_succ y0 y1 i0 (show i ≤ 12 by omega)
            have mo := jcum_mono y0 y1 (m - (i + 1)).toNat (i + 1) (by omega) (by omega)
            rw [show i + 1 + ((m - (i + 1)).toNat : Int) = m by omega] at mo
            have v : jlenM Y i ≤ u := by have := hu.out; omega
            have kq : decide (jlenM Y i ≤ u) = true := decide_eq_true v
            have hu' : Hid (u - jlenM Y i + jcum Y (i + 1) = jcum Y m + d - 1) := by show _ = _; rw [s]; have := hu.out; omega
            have hl := jlenM_in y0 y1 i0 (show i ≤ 12 by omega)
            obtain ⟨hl0, hl1⟩ := hl
            clear s mo hu
            go_wp2_with fail
            refine (HL.out _).mono ?_
            rintro e w' ⟨rfl, rfl⟩
            go_wp2_with fail
            refine (HL.out _).mono ?_
            rintro e w' ⟨rfl, rfl⟩
            go_wp2
            go_round
            case rel => exact ⟨i + 1, u - jlenM Y i, by omega, by omega, hu', by omega, by omega, rfl, rfl⟩
            case measure => simp [intOf]; omega
          · obtain rfl : i = m := by omega
            have ud : u + 1 = d := by have := hu.out; omega
            have kq : decide (jlenM Y i ≤ u) = false := decide_eq_false (by have := hlen.out; omega)
            clear hu c hb hlen eX
            go_wp2_with fail
            refine (HL.out _).mono ?_
            rintro e w' ⟨rfl, rfl⟩
            go_wp2
            exact bodyPost_ret (v := .tuple #[.agg #[.int .i64 Y, .int .i64 i, .int .i64 d], .int .i64 0]) (by simp [results, Tryz.results56, go_sem]) rfl ⟨rfl, (Below.refl _ _).alloc (Nat.le_refl _) _⟩

theorem rjfirst (y : Int) (y0 : 1 ≤ y) (y1 : y ≤ 9999) (w : World) :
    Calls Tryz.prog 57 #[.int .i64 y] w fun e w' => e = .returned (.int .i64 (first y)) ∧ Below w.heap.size w w' := by
  have h := day_first y0 y1
  have HG := fun w => rjgreg_yes y 1 1 h.1 w
  rw [h.2] at HG
  replace HG := Lib.hid HG
  clear h
  generalize first y = f at *
  go_enter Tryz.func57, Tryz.ntmps57
  go_wp2_with fail
  refine (HG.out _).mono ?_
  rintro e w1 ⟨rfl, hb⟩
  go_wp2
  go_ret
  exact ⟨rfl, hb⟩
theorem day_one {y m : Int} (y0 : 1 ≤ y) (y1 : y ≤ 9999) (m0 : 1 ≤ m) (m1 : m ≤ 12) : vld y m 1 = true ∧ dayN y m 1 = first y + cum y m := by
  have := lenM_in y0 y1 m0 m1
  exact ⟨vld_iff.2 ⟨by omega, by omega⟩, by unfold dayN; omega⟩
set_option maxHeartbeats 400000 in
theorem rjfields (n y m d : Int) (h : vld y m d = true) (hn : dayN y m d = n) (w : World) :
    Calls Tryz.prog 36 #[.int .i64 n] w fun e w' => e = .returned (.agg #[.int .i64 y, .int .i64 m, .int .i64 d]) ∧ Below w.heap.size w w' := by
  obtain ⟨y0, y1, m0, m1, d0, d1⟩ := vld_bd h
  have hv := vld_iff.1 h
  obtain ⟨r0, r1⟩ := day_range h
  obtain ⟨a0, a1, a2⟩ := day_in h
  rw [hn] at r0 r1 a0 a1 a2
  obtain ⟨Y, M, D, HJ, hj⟩ := jdate_of (n := n) (by omega) (by omega)
  obtain ⟨Y0, Y1, -⟩ := jvld_bd HJ
  have hD := Lib.hid (fun w => rjdate_yes n Y M D HJ hj r0 r1 w)
  have near : y ≤ Y + 1 := by
    have b := jday_in HJ
    rw [hj] at b
    have c := near_year Y0 Y1 b.2.1
    rcases Int.lt_or_le y (Y + 2) with z | z
    · omega
    · have := first_le (y := Y + 2) (z := y) (by omega) z (by omega); omega
  clear HJ hj h hn
  have hdec : ∀ z, y < z → z ≤ 9999 → decide (n < first z) = true := fun z z0 z1 => decide_eq_true (by have := first_le (y := y + 1) (z := z) (by omega) (by omega) (by omega); omega)
  have hdec0 : decide (n < first y) = false := decide_eq_false (by omega)
  replace hdec := Lib.hid hdec
  have hmon : ∀ z, m < z → z ≤ 12 → decide (first y + cum y z ≤ n) = false := fun z z0 z1 => decide_eq_false (by
    have s := cum_succ y0 y1 m0 m1
    have mo := cum_mono y0 y1 (z - (m + 1)).toNat (m + 1) (by omega) (by omega)
    rw [show m + 1 + ((z - (m + 1)).toNat : Int) = z by omega] at mo
    omega)
  have hmon0 : decide (first y + cum y m ≤ n) = true := decide_eq_true (by omega)
  have hres : n - (first y + cum y m) + 1 = d := by omega
  have fb : ∀ z, 1 ≤ z → z ≤ 13 → 0 ≤ cum y z ∧ cum y z ≤ 366 := fun z z0 z1 => cum_bd y0 y1 z0 z1
  have fy := first_bdJ y0 y1
  replace hmon := Lib.hid hmon
  replace hmon0 := Lib.hid hmon0
  replace hres := Lib.hid hres
  replace fb := Lib.hid fb
  replace fy := Lib.hid fy
  replace hdec0 := Lib.hid hdec0
  clear a0 a1 a2 hv
  go_enter Tryz.func36, Tryz.ntmps36
  go_wp2_with fail
  refine (hD.out _).mono ?_
  rintro e w1 ⟨rfl, hb⟩
  have A1 := Lib.hid (down (grow (here w) _) hb)
  have B1 := Lib.hid (Box.new hb)
  have F1 := Lib.hid (Free.new hb)
  clear hb
  go_wp2
  have A2 := Lib.hid (grow A1.out (Obj.cells #[Value.int IntKind.i64 Y, Value.int IntKind.i64 M, Value.int IntKind.i64 D] 45))
  have B2 := Lib.hid (B1.out.old (Obj.cells #[Value.int IntKind.i64 Y, Value.int IntKind.i64 M, Value.int IntKind.i64 D] 45))
  have F2 := Lib.hid (F1.out.keep B1.out.lt (grow (here w1) (Obj.cells #[Value.int IntKind.i64 Y, Value.int IntKind.i64 M, Value.int IntKind.i64 D] 45)))
  clear A1 B1 F1
  go_loopw [5] (fun a wr => ∃ z : Int, y ≤ z ∧ z ≤ 10000 ∧ a = .int .i64 z ∧ Hid (Below w.heap.size w wr) ∧ Hid (Box wr w.heap.size (.int .i64 0) (.int .i64 0) (.int .i64 0)) ∧ Hid (Free wr w.heap.size)) (fun a _ => (intOf a - y).toNat)
  case atStart => exact ⟨Y + 1, near, by omega, rfl, A2, B2, F2⟩
  case round =>
    obtain ⟨z, z0, z1, rfl, A4, B4, F4⟩ := hrel
    clear A2 B2 F2
    by_cases c : z = 10000
    · subst c
      clear z1
      go_wp2
      go_roundw
      case rel => exact ⟨9999, by omega, by omega, rfl, A4, B4, F4⟩
      case measure => simp [intOf]; omega
    · have c9 : decide (9999 < z) = false := decide_eq_false (by omega)
      have HF := Lib.hid (fun w => rjfirst z (by omega) (by omega) w)
      by_cases q : y < z
      · have kq := hdec.out z q (by omega)
        clear c
        generalize first z = f at *
        go_wp2_with fail
        refine (HF.out _).mono ?_
        rintro e w5 ⟨rfl, hb⟩
        have A5 := Lib.hid (down A4.out hb)
        have B5 := Lib.hid (B4.out.keep hb)
        have F5 := Lib.hid (F4.out.keep B4.out.lt hb)
        clear hb
        go_wp2
        go_roundw
        case rel => exact ⟨z - 1, by omega, by omega, rfl, A5, B5, F5⟩
        case measure => simp [intOf]; omega
      · obtain rfl : z = y := by omega
        have kq := hdec0.out
        have fz0 := fy.out.1
        have fz1 := fy.out.2
        clear c q hdec hdec0 z0 z1 near
        have HG : Hid (∀ i, 1 ≤ i → i ≤ 12 → ∀ w, Calls Tryz.prog 58 #[.agg #[.int .i64 z, .int .i64 i, .int .i64 1]] w fun e w' => e = .returned (.tuple #[.int .i64 (first z + cum z i), .bool true]) ∧ Below w.heap.size w w') := fun i i0 i1 w => by
          have h := day_one (y := z) (m := i) y0 y1 i0 i1
          have q := rjgreg_yes z i 1 h.1 w
          rw [h.2] at q
          exact q
        clear fy
        generalize first z = f at *
        go_wp2_with fail
        refine (HF.out _).mono ?_
        rintro e w5 ⟨rfl, hb⟩
        have A5 := Lib.hid (down A4.out hb)
        have B5 := Lib.hid (B4.out.keep hb)
        have F5 := Lib.hid (F4.out.keep B4.out.lt hb)
        clear hb HF A4 B4 F4
        go_wp2
        clear kq
        go_loopw [6] (fun a wr => ∃ i : Int, m ≤ i ∧ i ≤ 12 ∧ a = .int .i64 i ∧ Hid (Below w.heap.size w wr) ∧ Hid (Box wr w.heap.size (.int .i64 0) (.int .i64 0) (.int .i64 0)) ∧ Hid (Free wr w.heap.size)) (fun a _ => (intOf a - m).toNat)
        case atStart => exact ⟨12, m1, by omega, rfl, A5, B5, F5⟩
        case round =>
          obtain ⟨i, i0, i1, rfl, A6, B6, F6⟩ := hrel
          clear A5 B5 F5
          have HGi := Lib.hid (HG.out i (by omega) i1)
          have fi := fb.out i (by omega) (by omega)
          by_cases c : m < i
          · have kq := hmon.out i c i1
            generalize f + cum z i = V at *
            go_wp2_with fail
            refine (HGi.out _).mono ?_
            rintro e w7 ⟨rfl, hb⟩
            have A7 := Lib.hid (down A6.out hb)
            have B7 := Lib.hid (B6.out.keep hb)
            have F7 := Lib.hid (F6.out.keep B6.out.lt hb)
            clear hb
            go_wp2
            go_roundw
            case rel => exact ⟨i - 1, by omega, by omega, rfl, A7, B7, F7⟩
            case measure => simp [intOf]; omega
          · obtain rfl : i = m := by omega
            have kq := hmon0.out
            have hr := hres.out
            have vb : -719162 ≤ f + cum z i ∧ f + cum z i ≤ 2933400 := by omega
            clear c hmon hmon0 hres fb fi
            generalize f + cum z i = V at *
            obtain ⟨vb0, vb1⟩ := vb
            go_wp2_with fail
            refine (HGi.out _).mono ?_
            rintro e w7 ⟨rfl, hb⟩
            have A7 := Lib.hid (down A6.out hb)
            have B7 := Lib.hid (B6.out.keep hb)
            have F7 := Lib.hid (F6.out.keep B6.out.lt hb)
            clear hb A6 B6 F6
            obtain ⟨c0, c1, c2, zz⟩ := B7.out
            obtain ⟨e0, e1, e2⟩ := F7.out
            go_wp2
            exact bodyPost_ret (v := .agg #[.int .i64 z, .int .i64 i, .int .i64 d]) (by simp [results, Tryz.results36, go_sem, c0, c1, c2]) rfl ⟨rfl, ((A7.out.setCell (Nat.le_refl _) _).setCell (Nat.le_refl _) _).setCell (Nat.le_refl _) _⟩

theorem rjgreg_some (y m d : Int) (hy : I64 y) (hm : I64 m) (hd : I64 d) : ∃ (N : Int) (g : Bool), (-800000 ≤ N ∧ N ≤ 3000000) ∧
    Hid (∀ w, Calls Tryz.prog 58 #[.agg #[.int .i64 y, .int .i64 m, .int .i64 d]] w fun e w' => e = .returned (.tuple #[.int .i64 N, .bool g]) ∧ Below w.heap.size w w') := by
  cases h : vld y m d
  · exact ⟨0, false, by omega, fun w => rjgreg_no y m d hy hm hd h w⟩
  · have r := day_range h
    exact ⟨dayN y m d, true, by omega, fun w => rjgreg_yes y m d h w⟩
/-- Day: the number and the error number. -/
def jdN (y m d : Int) : Int := if jvld y m d = true ∧ -719162 ≤ jdayN y m d ∧ jdayN y m d < 2932897 then jdayN y m d else 0
def jdE (y m d : Int) : Int := if jvld y m d = false then 1 else if -719162 ≤ jdayN y m d ∧ jdayN y m d < 2932897 then 0 else 2
theorem jd_bad {y m d : Int} (h : jvld y m d = false) : jdN y m d = 0 ∧ jdE y m d = 1 := by
  unfold jdN jdE; rw [if_neg (fun q => by rw [h] at q; exact absurd q.1 (by simp)), if_pos h]; exact ⟨rfl, rfl⟩
theorem jd_out {y m d : Int} (h : jvld y m d = true) (k : ¬ (-719162 ≤ jdayN y m d ∧ jdayN y m d < 2932897)) : jdN y m d = 0 ∧ jdE y m d = 2 := by
  unfold jdN jdE; rw [if_neg (fun q => k q.2), if_neg (by rw [h]; simp), if_neg k]; exact ⟨rfl, rfl⟩
theorem jd_in {y m d : Int} (h : jvld y m d = true) (k : -719162 ≤ jdayN y m d ∧ jdayN y m d < 2932897) : jdN y m d = jdayN y m d ∧ jdE y m d = 0 := by
  unfold jdN jdE; rw [if_pos ⟨h, k⟩, if_neg (by rw [h]; simp), if_pos k]; exact ⟨rfl, rfl⟩
end Go.Proofs.YtocimbiidloofaaGreatDoor

/- Contracts of civiltimeref05: Leap, Length, Valid, Right, Count, Day, leap. -/
import Derived.Test.YtdhmmfdpfpecmaaDoorJuMath
import Derived.Test.YtdhmmfdpfpecmaaDoorLGen
import Derived.Test.YtdhmmfdpfpecmaaDoorProg
import Derived.WalkKit
import Derived.Outline
import Derived.Deep.QuietTactic
import Derived.BigQuiet
import Derived.Deep.RegionWith
import Derived.Laws.BitsLemmas
namespace Go.Proofs.YtdhmmfdpfpecmaaDoor
open Go.RowKit
set_option linter.unusedVariables false

theorem rjleap (y : Int) (h0 : -9223372036854775808 ≤ y) (h1 : y ≤ 9223372036854775807) (w : World) :
    Calls Tryd.prog 16 #[.int .i64 y] w fun e w' => e = .returned (.bool (jleapB y)) ∧ w = w' := by
  by_cases a : 1 ≤ y
  · have k : decide (1 ≤ y) = true := decide_eq_true a
    by_cases b : y ≤ 9999
    · have k2 : decide (y ≤ 9999) = true := decide_eq_true b
      have e : jleapB y = (y % 4 == 0) := by
        rw [Bool.eq_iff_iff, jleapB_iff, beq_iff_eq]; omega
      rw [e]
      obtain ⟨p, hp⟩ : ∃ p, (y % 4 == 0) = p := ⟨_, rfl⟩
      rw [hp]
      go_enter Tryd.func16, Tryd.ntmps16
      go_wp2
      go_ret
      exact ⟨rfl, rfl⟩
    · have k2 : decide (y ≤ 9999) = false := decide_eq_false b
      have e : jleapB y = false := by rw [← Bool.not_eq_true, jleapB_iff]; omega
      rw [e]
      go_enter Tryd.func16, Tryd.ntmps16
      go_wp2
      go_ret
      exact ⟨rfl, rfl⟩
  · have k : decide (1 ≤ y) = false := decide_eq_false a
    have e : jleapB y = false := by rw [← Bool.not_eq_true, jleapB_iff]; omega
    rw [e]
    go_enter Tryd.func16, Tryd.ntmps16
    go_wp2
    go_ret
    exact ⟨rfl, rfl⟩
set_option maxHeartbeats 400000 in
theorem rjlen (y m : Int) (h0 : -9223372036854775808 ≤ y) (h1 : y ≤ 9223372036854775807) (h2 : -9223372036854775808 ≤ m) (h3 : m ≤ 9223372036854775807) (w : World) :
    Calls Tryd.prog 18 #[.int .i64 y, .int .i64 m] w fun e w' => e = .returned (.int .i64 (jlenM y m)) ∧ w = w' := by
  obtain ⟨a, ha⟩ : ∃ a, decide (y < 1) = a := ⟨_, rfl⟩
  obtain ⟨b, hb⟩ : ∃ a, decide (9999 < y) = a := ⟨_, rfl⟩
  obtain ⟨c, hc⟩ : ∃ a, decide (m < 1) = a := ⟨_, rfl⟩
  obtain ⟨d, hd⟩ : ∃ a, decide (12 < m) = a := ⟨_, rfl⟩
  by_cases k : y < 1 ∨ 9999 < y ∨ m < 1 ∨ 12 < m
  · rw [jlenM_out k]
    have t : (a || b || c || d) = true := by
      subst ha; subst hb; subst hc; subst hd; simp only [Bool.or_eq_true, decide_eq_true_eq]; omega
    clear k
    cases a <;> cases b <;> cases c <;> cases d <;> (try cases t)
    all_goals
      go_enter Tryd.func18, Tryd.ntmps18
      go_wp2
      go_ret
      exact ⟨rfl, rfl⟩
  · have t : a = false ∧ b = false ∧ c = false ∧ d = false := by
      subst ha; subst hb; subst hc; subst hd; simp only [decide_eq_false_iff_not]; omega
    have y0 : 1 ≤ y := by omega
    have y1 : y ≤ 9999 := by omega
    obtain ⟨rfl, rfl, rfl, rfl⟩ := t
    have e : jlenM y m = if m = 2 then 28 + jlp y else if m = 4 ∨ m = 6 ∨ m = 9 ∨ m = 11 then 30 else 31 := by unfold jlenM; rw [if_neg k]
    by_cases m2 : m = 2
    · subst m2
      rw [if_pos rfl] at e
      have q := jlp_eq y0 y1
      clear k
      rcases q with ⟨q, r⟩ | ⟨q, r⟩
      · have kq : (y % 4 == 0) = true := by simpa using q
        have e' : Hid (jlenM y 2 = 29) := by show jlenM y 2 = 29; omega
        clear e q r
        go_enter Tryd.func18, Tryd.ntmps18
        go_wp2
        go_ret
        exact ⟨by rw [e'.out]; rfl, rfl⟩
      · have kq : (y % 4 == 0) = false := by simpa using q
        have e' : Hid (jlenM y 2 = 28) := by show jlenM y 2 = 28; omega
        clear e q r
        go_enter Tryd.func18, Tryd.ntmps18
        go_wp2
        go_ret
        exact ⟨by rw [e'.out]; rfl, rfl⟩
    · rw [if_neg m2] at e
      have k2 : (m == 2) = false := by simpa using m2
      by_cases s : m = 4 ∨ m = 6 ∨ m = 9 ∨ m = 11
      · rw [if_pos s] at e
        replace e := Lib.hid e
        clear k m2
        rcases s with rfl | rfl | rfl | rfl
        all_goals
          go_enter Tryd.func18, Tryd.ntmps18
          go_wp2
          go_ret
          exact ⟨by rw [e.out]; rfl, rfl⟩
      · rw [if_neg s] at e
        replace e := Lib.hid e
        have k4 : (m == 4) = false := by simp; omega
        have k6 : (m == 6) = false := by simp; omega
        have k9 : (m == 9) = false := by simp; omega
        have k11 : (m == 11) = false := by simp; omega
        clear k m2 s
        go_enter Tryd.func18, Tryd.ntmps18
        go_wp2
        go_ret
        exact ⟨by rw [e.out]; rfl, rfl⟩
theorem rjvalid (y m d : Int) (hy : I64 y) (hm : I64 m) (hd : I64 d) (w : World) :
    Calls Tryd.prog 38 #[.agg #[.int .i64 y, .int .i64 m, .int .i64 d]] w fun e w' => e = .returned (.bool (jvld y m d)) ∧ Below w.heap.size w w' := by
  have HL := Lib.hid (fun w => rjlen y m hy.1 hy.2 hm.1 hm.2 w)
  rw [jvld_split]
  generalize jlenM y m = l at *
  by_cases a : 1 ≤ d
  · have k : decide (1 ≤ d) = true := decide_eq_true a
    rw [k]
    go_enter Tryd.func38, Tryd.ntmps38
    go_wp2
    go_quiet ((go_at_call 18; exact qleft (HL.out _)))
    go_wp2
    go_ret
    exact ⟨rfl, below_drewN ((Below.refl _ _).alloc (Nat.le_refl _) _) _⟩
  · have k : decide (1 ≤ d) = false := decide_eq_false a
    rw [k]
    go_enter Tryd.func38, Tryd.ntmps38
    go_wp2
    go_quiet (fail)
    go_wp2
    go_ret
    exact ⟨rfl, below_drewN ((Below.refl _ _).alloc (Nat.le_refl _) _) _⟩
theorem rjright (n : Int) (h0 : -9223372036854775808 ≤ n) (h1 : n ≤ 9223372036854775807) (w : World) :
    Calls Tryd.prog 22 #[.int .i64 n] w fun e w' => e = .returned (.bool (dyB n)) ∧ w = w' := by
  rw [dyB_eq]
  obtain ⟨p, hp⟩ : ∃ p, decide (-719162 ≤ n) = p := ⟨_, rfl⟩
  obtain ⟨q, hq⟩ : ∃ p, decide (n < 2932897) = p := ⟨_, rfl⟩
  rw [hp, hq]
  cases p <;> cases q
  all_goals
    go_enter Tryd.func22, Tryd.ntmps22
    go_wp2
    go_ret
    exact ⟨rfl, rfl⟩
theorem jfirst_bd {y : Int} (y0 : 1 ≤ y) (y1 : y ≤ 9999) : -719164 ≤ jfirst y ∧ jfirst y ≤ 2932970 := by unfold jfirst; omega
set_option maxHeartbeats 400000 in
theorem rjcount (y m d : Int) (h : jvld y m d = true) (w : World) :
    Calls Tryd.prog 39 #[.agg #[.int .i64 y, .int .i64 m, .int .i64 d]] w fun e w' => e = .returned (.int .i64 (jdayN y m d)) ∧ Below w.heap.size w w' := by
  obtain ⟨y0, y1, m0, m1, d0, d1⟩ := jvld_bd h
  have hF : -719164 + 365 * (y - 1) + (y - 1) / 4 = jfirst y := rfl
  obtain ⟨f0, f1⟩ := jfirst_bd y0 y1
  have HD : Hid (jdayN y m d = jfirst y + jcum y m + d - 1) := rfl
  clear h
  generalize jfirst y = f at *
  go_enter Tryd.func39, Tryd.ntmps39
  go_wp2
  go_loop [3, 4] (fun a b => ∃ (k n : Int), 1 ≤ k ∧ k ≤ m ∧ 0 ≤ n ∧ n ≤ 366 ∧ Hid (n = jcum y k) ∧ a = .int .i64 (f + n) ∧ b = .int .i64 k) (fun _ b => (m - intOf b).toNat)
  case atStart => exact ⟨1, 0, by omega, m0, by omega, by omega, (jcum_one y).symm, by rw [Int.add_zero], rfl⟩
  case round =>
    obtain ⟨k, n, k0, k1, n0, n1, HC, rfl, rfl⟩ := hrel
    by_cases z : k < m
    · have kz : decide (k < m) = true := decide_eq_true z
      have HS := jcum_succ y0 y1 k0 (by omega)
      have hl := jlenM_in y0 y1 k0 (show k ≤ 12 by omega)
      have hbd := jcum_bd y0 y1 (m := k + 1) (by omega) (by omega)
      rw [HS, ← HC.out] at hbd
      have HC' : Hid (n + jlenM y k = jcum y (k + 1)) := by show n + jlenM y k = jcum y (k + 1); rw [HS, ← HC.out]
      have HL := Lib.hid (fun w => rjlen y k (by omega) (by omega) (by omega) (by omega) w)
      clear HS HC
      generalize jlenM y k = l at *
      obtain ⟨hl0, hl1⟩ := hl
      obtain ⟨hb0, hb1⟩ := hbd
      go_wp2_with fail
      refine (HL.out _).mono ?_
      rintro e w' ⟨rfl, rfl⟩
      go_wp2
      go_round
      case rel => exact ⟨k + 1, n + l, by omega, by omega, by omega, by omega, HC', by rw [Int.add_assoc], rfl⟩
      case measure => simp [intOf]; omega
    · obtain rfl : k = m := by omega
      have kz : decide (k < k) = false := decide_eq_false z
      have HE : Hid (jdayN y k d = f + n + d - 1) := by show _ = _; rw [HD.out, ← HC.out]
      clear HC HD
      go_wp2
      go_ret
      exact ⟨by rw [HE.out]; rfl, (Below.refl _ _).alloc (Nat.le_refl _) _⟩
theorem rjgleap (y : Int) (h0 : 1 ≤ y) (h1 : y ≤ 9999) (w : World) :
    Calls Tryd.prog 53 #[.int .i64 y] w fun e w' => e = .returned (.bool (leapB y)) ∧ w = w' := by
  have e : leapB y = ((y % 4 == 0) && ((y % 100 != 0) || (y % 400 == 0))) := by
    rw [Bool.eq_iff_iff, leapB_iff]
    simp only [Bool.or_eq_true, Bool.and_eq_true, beq_iff_eq, bne_iff_ne]
    omega
  rw [e]
  obtain ⟨p, hp⟩ : ∃ p, (y % 400 == 0) = p := ⟨_, rfl⟩
  obtain ⟨q, hq⟩ : ∃ p, (y % 4 == 0) = p := ⟨_, rfl⟩
  obtain ⟨r, hr⟩ : ∃ p, (y % 100 != 0) = p := ⟨_, rfl⟩
  rw [hp, hq, hr]
  cases p <;> cases q <;> cases r
  all_goals
    go_enter Tryd.func53, Tryd.ntmps53
    go_wp2
    go_ret
    exact ⟨rfl, rfl⟩
theorem rjgleap_any (y : Int) (h0 : -9223372036854775808 ≤ y) (h1 : y ≤ 9223372036854775807) (w : World) :
    Calls Tryd.prog 53 #[.int .i64 y] w fun e w' => (∃ b, e = .returned (.bool b)) ∧ w = w' := by
  obtain ⟨p, hp⟩ : ∃ p, (y.tmod 400 == 0) = p := ⟨_, rfl⟩
  obtain ⟨q, hq⟩ : ∃ p, (y.tmod 4 == 0) = p := ⟨_, rfl⟩
  obtain ⟨r, hr⟩ : ∃ p, (y.tmod 100 != 0) = p := ⟨_, rfl⟩
  cases p <;> cases q <;> cases r
  all_goals
    go_enter Tryd.func53, Tryd.ntmps53
    go_wp2
    go_ret
    exact ⟨⟨_, rfl⟩, rfl⟩
theorem rjday_no (y m d : Int) (hy : I64 y) (hm : I64 m) (hd : I64 d) (h : jvld y m d = false) (w : World) :
    Calls Tryd.prog 14 #[.agg #[.int .i64 y, .int .i64 m, .int .i64 d]] w fun e w' => e = .returned (.tuple #[.int .i64 0, .int .i64 1]) ∧ Below w.heap.size w w' := by
  have HV := fun w => rjvalid y m d hy hm hd w
  rw [h] at HV
  replace HV := Lib.hid HV
  go_enter Tryd.func14, Tryd.ntmps14
  go_wp2_with fail
  refine (HV.out _).mono ?_
  rintro e w1 ⟨rfl, hb⟩
  have hb2 := box_below hb
  obtain ⟨c0, c1, c2⟩ := box_cells hb
  go_wp2
  go_ret2
  exact ⟨rfl, hb2⟩
theorem jday_bd {y m d : Int} (h : jvld y m d = true) : -719164 ≤ jdayN y m d ∧ jdayN y m d ≤ 2933400 := by
  obtain ⟨y0, y1, m0, m1, d0, d1⟩ := jvld_bd h
  have a := jfirst_bd y0 y1
  have b := jcum_bd y0 y1 m0 (show m ≤ 13 by omega)
  unfold jdayN; omega
set_option maxHeartbeats 400000 in
theorem rjday_yes (y m d : Int) (h : jvld y m d = true) (w : World) :
    Calls Tryd.prog 14 #[.agg #[.int .i64 y, .int .i64 m, .int .i64 d]] w fun e w' => e = .returned (.tuple #[.int .i64 (if dyB (jdayN y m d) then jdayN y m d else 0), .int .i64 (if dyB (jdayN y m d) then 0 else 2)]) ∧ Below w.heap.size w w' := by
  obtain ⟨y0, y1, m0, m1, d0, d1⟩ := jvld_bd h
  have HV := fun w => rjvalid y m d ⟨by omega, by omega⟩ ⟨by omega, by omega⟩ ⟨by omega, by omega⟩ w
  have HC := fun w => rjcount y m d h w
  rw [h] at HV
  replace HV := Lib.hid HV
  obtain ⟨n0, n1⟩ := jday_bd h
  clear h
  generalize jdayN y m d = n at *
  have HR := fun w => rjright n (by omega) (by omega) w
  replace HC := Lib.hid HC
  generalize dyB n = b at *
  replace HR := Lib.hid HR
  cases b
  all_goals
    go_enter Tryd.func14, Tryd.ntmps14
    go_wp2_with fail
    refine (HV.out _).mono ?_
    rintro e w1 ⟨rfl, hb⟩
    have hb2 := box_below hb
    obtain ⟨c0, c1, c2⟩ := box_cells hb
    clear hb
    go_wp2_with fail
    refine (HC.out _).mono ?_
    rintro e w2 ⟨rfl, hb3⟩
    go_wp2_with fail
    refine (HR.out _).mono ?_
    rintro e w3 ⟨rfl, rfl⟩
    go_wp2
    go_ret2
    exact ⟨rfl, hb2.trans (hb3.mono hb2.size)⟩
end Go.Proofs.YtdhmmfdpfpecmaaDoor

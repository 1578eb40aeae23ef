/- Contracts of package civil: years, months, days, dates. -/
import Derived.Test.YtocimbiidloofaaGreatDoorLIntA

import Derived.Test.YtocimbiidloofaaGreatDoorLCal

import Derived.IntWalk

import Derived.Lib.LaidTab

import Derived.Lib.SmallJoins

import Derived.WalkLawsBesides

namespace Go.Proofs.YtocimbiidloofaaGreatDoor

open Go.RowKit

set_option linter.unusedVariables false

def Lens (w : World) : Prop := Lib.TabIs Tryz.prog w "civiltime/civil.lengths" .i64 lensTab
theorem gLens : Tryz.prog.globalNamed "civiltime/civil.lengths" = some 0 := by kernel_rfl
theorem lens_below {w w' : World} (h : Lens w) (hb : Below w.heap.size w w') : Lens w' := Joins.tab_stays gLens h hb (Nat.le_refl _)
theorem lens_alloc {w : World} (h : Lens w) (o : Obj) : Lens (w.alloc o) := lens_below h ((Below.refl _ _).alloc (Nat.le_refl _) o)
theorem lens_drewN {w : World} (h : Lens w) (n : Nat) : Lens (w.drewN n) := h
theorem lens_cell {w : World} (h : Lens w) {y m : Int} (y0 : 1 ≤ y) (y1 : y ≤ 9999) (m0 : 1 ≤ m) (m1 : m ≤ 12) (hn : m = 2 → leapB y = false) :
    w.cell? ⟨0, m.toNat, none⟩ = some (.int .i64 (lenM y m)) := by
  rw [Lib.TabIs.cell h gLens m.toNat (by show m.toNat < 13; omega)]
  congr 2
  unfold lenM
  rw [if_neg (by omega)]
  rcases month_cases m0 m1 with rfl | rfl | rfl | rfl | rfl | rfl | rfl | rfl | rfl | rfl | rfl | rfl <;> try rfl
  show (28 : Int) = _
  rw [if_pos rfl]; unfold lp; rw [hn rfl]; rfl
theorem cyear (y : Int) (hy : I64 y) (w : World) :
    Calls Tryz.prog 60 #[.int .i64 y] w fun e w' => e = .returned (.bool (yrB y)) ∧ w = w' := by
  obtain ⟨h0, h1⟩ := hy
  rw [yrB_eq]
  obtain ⟨a, ha⟩ : ∃ a, decide (1 ≤ y) = a := ⟨_, rfl⟩
  obtain ⟨b, hb⟩ : ∃ a, decide (y ≤ 9999) = a := ⟨_, rfl⟩
  rw [ha, hb]
  cases a <;> cases b
  all_goals
    go_enter Tryz.func60, Tryz.ntmps60
    go_wp2
    go_ret
    exact ⟨rfl, rfl⟩
theorem cdayok (n : Int) (hn : I64 n) (w : World) :
    Calls Tryz.prog 40 #[.int .i64 n] w fun e w' => e = .returned (.bool (dyB n)) ∧ w = w' := by
  obtain ⟨h0, h1⟩ := hn
  rw [dyB_eq]
  obtain ⟨a, ha⟩ : ∃ a, decide (-719162 ≤ n) = a := ⟨_, rfl⟩
  obtain ⟨b, hb⟩ : ∃ a, decide (n < 2932897) = a := ⟨_, rfl⟩
  rw [ha, hb]
  cases a <;> cases b
  all_goals
    go_enter Tryz.func40, Tryz.ntmps40
    go_wp2
    go_ret
    exact ⟨rfl, rfl⟩
theorem cleap (y : Int) (hy : I64 y) (w : World) :
    Calls Tryz.prog 61 #[.int .i64 y] w fun e w' => e = .returned (.bool (leapB y)) ∧ w = w' := by
  have HY := fun w => cyear y hy w
  obtain ⟨h0, h1⟩ := hy
  by_cases a : yrB y = true
  · obtain ⟨y0, y1⟩ := yrB_iff.1 a
    have e : leapB y = ((y % 4 == 0) && ((y % 100 != 0) || (y % 400 == 0))) := by
      rw [Bool.eq_iff_iff, leapB_iff]
      simp only [Bool.or_eq_true, Bool.and_eq_true, beq_iff_eq, bne_iff_ne]
      omega
    rw [e]
    rw [a] at HY
    replace HY := Lib.hid HY
    clear e a
    obtain ⟨p, hp⟩ : ∃ p, (y % 400 == 0) = p := ⟨_, rfl⟩
    obtain ⟨q, hq⟩ : ∃ p, (y % 4 == 0) = p := ⟨_, rfl⟩
    obtain ⟨r, hr⟩ : ∃ p, (y % 100 != 0) = p := ⟨_, rfl⟩
    rw [hp, hq, hr]
    cases p <;> cases q <;> cases r
    all_goals
      go_enter Tryz.func61, Tryz.ntmps61
      go_wp2_with fail
      refine (HY.out _).mono ?_
      rintro e w' ⟨rfl, rfl⟩
      go_wp2
      go_ret
      exact ⟨rfl, rfl⟩
  · have e : leapB y = false := by rw [← Bool.not_eq_true, leapB_iff]; rw [yrB_iff] at a; omega
    rw [e]
    rw [Bool.not_eq_true] at a
    rw [a] at HY
    replace HY := Lib.hid HY
    clear e a
    go_enter Tryz.func61, Tryz.ntmps61
    go_wp2_with fail
    refine (HY.out _).mono ?_
    rintro e w' ⟨rfl, rfl⟩
    go_wp2
    go_ret
    exact ⟨rfl, rfl⟩
set_option maxHeartbeats 400000 in
theorem clen (y m : Int) (hy : I64 y) (hm : I64 m) (w : World) (ht : Lens w) :
    Calls Tryz.prog 45 #[.int .i64 y, .int .i64 m] w fun e w' => e = .returned (.int .i64 (lenM y m)) ∧ w = w' := by
  have HY := fun w => cyear y hy w
  have HL := fun w => cleap y hy w
  obtain ⟨h0, h1⟩ := hy
  obtain ⟨h2, h3⟩ := hm
  obtain ⟨c, hc⟩ : ∃ a, decide (m < 1) = a := ⟨_, rfl⟩
  obtain ⟨d, hd⟩ : ∃ a, decide (12 < m) = a := ⟨_, rfl⟩
  by_cases k : y < 1 ∨ 9999 < y ∨ m < 1 ∨ 12 < m
  · rw [lenM_out k]
    obtain ⟨a, ha⟩ : ∃ a, yrB y = a := ⟨_, rfl⟩
    rw [ha] at HY
    have t : (!a || c || d) = true := by
      subst hc; subst hd
      cases a
      · rfl
      · have := yrB_iff.1 ha; simp only [Bool.or_eq_true, decide_eq_true_eq]; omega
    replace HY := Lib.hid HY
    clear k ha HL ht
    cases a <;> cases c <;> cases d <;> (try cases t)
    all_goals
      go_enter Tryz.func45, Tryz.ntmps45
      go_wp2_with fail
      refine (HY.out _).mono ?_
      rintro e w' ⟨rfl, rfl⟩
      go_wp2
      go_ret
      exact ⟨rfl, rfl⟩
  · have y0 : 1 ≤ y := by omega
    have y1 : y ≤ 9999 := by omega
    have m0 : 1 ≤ m := by omega
    have m1 : m ≤ 12 := by omega
    obtain rfl : c = false := by subst hc; exact decide_eq_false (by omega)
    obtain rfl : d = false := by subst hd; exact decide_eq_false (by omega)
    rw [yrB_iff.2 ⟨y0, y1⟩] at HY
    replace HY := Lib.hid HY
    by_cases m2 : m = 2
    · subst m2
      by_cases l : leapB y = true
      · have e : lenM y 2 = 29 := by unfold lenM; rw [if_neg k, if_pos rfl]; unfold lp; rw [if_pos l]; rfl
        rw [e]
        rw [l] at HL
        replace HL := Lib.hid HL
        clear e l k ht
        go_enter Tryz.func45, Tryz.ntmps45
        go_wp2_with fail
        refine (HY.out _).mono ?_
        rintro e w' ⟨rfl, rfl⟩
        go_wp2_with fail
        refine (HL.out _).mono ?_
        rintro e w' ⟨rfl, rfl⟩
        go_wp2
        go_ret
        exact ⟨rfl, rfl⟩
      · rw [Bool.not_eq_true] at l
        have hcell := lens_cell ht y0 y1 m0 m1 (fun _ => l)
        rw [show (2 : Int).toNat = 2 from rfl] at hcell
        rw [l] at HL
        replace HL := Lib.hid HL
        generalize lenM y 2 = x at *
        clear l k ht
        go_enter Tryz.func45, Tryz.ntmps45
        go_wp2_with fail
        refine (HY.out _).mono ?_
        rintro e w' ⟨rfl, rfl⟩
        go_wp2_with fail
        refine (HL.out _).mono ?_
        rintro e w' ⟨rfl, rfl⟩
        go_wp2
        go_ret
        exact ⟨rfl, rfl⟩
    · have hcell := lens_cell ht y0 y1 m0 m1 (fun h => absurd h m2)
      have k2 : (m == 2) = false := by simpa using m2
      obtain ⟨M, rfl⟩ := Int.eq_ofNat_of_zero_le (show 0 ≤ m by omega)
      rw [Int.toNat_natCast] at hcell
      generalize lenM y M = x at *
      clear k ht HL m2
      go_enter Tryz.func45, Tryz.ntmps45
      go_wp2_with fail
      refine (HY.out _).mono ?_
      rintro e w' ⟨rfl, rfl⟩
      go_wp2
      go_ret
      exact ⟨rfl, rfl⟩
theorem cvalid (y m d : Int) (hy : I64 y) (hm : I64 m) (hd : I64 d) (w : World) (ht : Lens w) :
    Calls Tryz.prog 31 #[.agg #[.int .i64 y, .int .i64 m, .int .i64 d]] w fun e w' => e = .returned (.bool (vld y m d)) ∧ Below w.heap.size w w' := by
  have HL := Lib.hid (fun w ht => clen y m hy hm w ht)
  obtain ⟨d0, d1⟩ := hd
  rw [vld_split]
  have ht2 := Lib.hid (lens_alloc ht (.cells #[.int .i64 y, .int .i64 m, .int .i64 d] 45))
  clear ht
  generalize lenM y m = l at *
  by_cases a : 1 ≤ d
  · have k : decide (1 ≤ d) = true := decide_eq_true a
    rw [k]
    go_enter Tryz.func31, Tryz.ntmps31
    go_wp2
    go_quiet ((go_at_call 45; exact qleft (HL.out _ (lens_drewN ht2.out _))))
    go_wp2
    go_ret
    exact ⟨rfl, below_drewN ((Below.refl _ _).alloc (Nat.le_refl _) _) _⟩
  · have k : decide (1 ≤ d) = false := decide_eq_false a
    rw [k]
    go_enter Tryz.func31, Tryz.ntmps31
    go_wp2
    go_quiet (fail)
    go_wp2
    go_ret
    exact ⟨rfl, below_drewN ((Below.refl _ _).alloc (Nat.le_refl _) _) _⟩
theorem cbefore (m : Int) (m0 : 0 ≤ m) (m1 : m ≤ 11) (w : World) :
    Calls Tryz.prog 42 #[.int .i64 m] w fun e w' => e = .returned (.int .i64 ((153 * m + 2) / 5)) ∧ w = w' := by
  go_enter Tryz.func42, Tryz.ntmps42
  go_wp2
  go_ret
  exact ⟨rfl, rfl⟩
theorem cmonth (n : Int) (n0 : 0 ≤ n) (n1 : n ≤ 365) (w : World) :
    Calls Tryz.prog 41 #[.int .i64 n] w fun e w' => e = .returned (.int .i64 ((5 * n + 2) / 153)) ∧ w = w' := by
  go_enter Tryz.func41, Tryz.ntmps41
  go_wp2
  go_ret
  exact ⟨rfl, rfl⟩
theorem cday_no (y m d : Int) (hy : I64 y) (hm : I64 m) (hd : I64 d) (h : vld y m d = false) (w : World) (ht : Lens w) :
    Calls Tryz.prog 53 #[.agg #[.int .i64 y, .int .i64 m, .int .i64 d]] w fun e w' => e = .returned (.tuple #[.int .i64 0, .int .i64 1]) ∧ Below w.heap.size w w' := by
  have HV := fun w ht => cvalid y m d hy hm hd w ht
  rw [h] at HV
  replace HV := Lib.hid HV
  have ht2 := Lib.hid (lens_alloc ht (.cells #[.int .i64 y, .int .i64 m, .int .i64 d] 45))
  clear ht
  go_enter Tryz.func53, Tryz.ntmps53
  go_wp2_with fail
  refine (HV.out _ ht2.out).mono ?_
  rintro e w1 ⟨rfl, hb⟩
  have hb2 := box_below hb
  obtain ⟨c0, c1, c2⟩ := box_cells hb
  go_wp2
  go_ret2
  exact ⟨rfl, hb2⟩
set_option maxHeartbeats 800000 in
theorem cday_yes (y m d : Int) (h : vld y m d = true) (w : World) (ht : Lens w) :
    Calls Tryz.prog 53 #[.agg #[.int .i64 y, .int .i64 m, .int .i64 d]] w fun e w' => e = .returned (.tuple #[.int .i64 (dayN y m d), .int .i64 0]) ∧ Below w.heap.size w w' := by
  obtain ⟨y0, y1, m0, m1, d0, d1⟩ := vld_bd h
  have HV := fun w ht => cvalid y m d ⟨by omega, by omega⟩ ⟨by omega, by omega⟩ ⟨by omega, by omega⟩ w ht
  rw [h] at HV
  replace HV := Lib.hid HV
  have ht2 := Lib.hid (lens_alloc ht (.cells #[.int .i64 y, .int .i64 m, .int .i64 d] 45))
  clear ht
  by_cases q : m - 3 < 0
  · have HM : Hid (∀ c r, (y - 1 - 2000) / 400 = c → (y - 1 - 2000) % 400 = r → 11017 + c * 146097 + r * 365 + r / 4 - r / 100 + (153 * (m - 3 + 12) + 2) / 5 + d - 1 = dayN y m d) := fun c r => march_day h (.inl ⟨q, rfl, rfl⟩)
    have HB := fun c r => march_bd (c := c) (r := r) y0 y1 m0 m1 (.inl ⟨q, rfl, rfl⟩)
    have HD := Lib.hid (fun w => cdiv (y - 1 - 2000) 400 ⟨by omega, by omega⟩ (by omega) (by omega) w)
    have HE := Lib.hid (fun w => cbefore (m - 3 + 12) (by omega) (by omega) w)
    clear h
    obtain ⟨c, hc⟩ : ∃ c, (y - 1 - 2000) / 400 = c := ⟨_, rfl⟩
    obtain ⟨r, hr⟩ : ∃ c, (y - 1 - 2000) % 400 = c := ⟨_, rfl⟩
    obtain ⟨b0, b1, b2, b3, b4, b5, -, -⟩ := HB c r hc hr
    replace HM := Lib.hid (HM.out c r hc hr)
    rw [hc, hr] at HD
    clear hc hr HB
    have k : decide (m - 3 < 0) = true := decide_eq_true q
    have kb : 0 ≤ (153 * (m - 3 + 12) + 2) / 5 ∧ (153 * (m - 3 + 12) + 2) / 5 ≤ 400 := by omega
    generalize (153 * (m - 3 + 12) + 2) / 5 = bf at *
    obtain ⟨kb0, kb1⟩ := kb
    have HW := Lib.hid (day_wrap b0 b1 b2 b3 kb0 kb1 d0 d1)
    go_enter Tryz.func53, Tryz.ntmps53
    go_wp2_with fail
    refine (HV.out _ ht2.out).mono ?_
    rintro e w1 ⟨rfl, hb⟩
    have hb2 := box_below hb
    obtain ⟨c0, c1, c2⟩ := box_cells hb
    clear hb HV
    go_wp2
    go_quiet (fail)
    go_wp2_with fail
    refine (HD.out _).mono ?_
    rintro e w' ⟨rfl, n, rfl⟩
    go_wp2
    go_quiet ((go_at_call 42; exact quiet_add_left (HE.out _)))
    go_wp2
    go_ret2
    refine ⟨?_, below_drewN (below_drewN hb2 _) _⟩
    rw [← HM.out, ← HW.out]
    rfl
  · have HM : Hid (∀ c r, (y - 2000) / 400 = c → (y - 2000) % 400 = r → 11017 + c * 146097 + r * 365 + r / 4 - r / 100 + (153 * (m - 3) + 2) / 5 + d - 1 = dayN y m d) := fun c r => march_day h (.inr ⟨by omega, rfl, rfl⟩)
    have HB := fun c r => march_bd (c := c) (r := r) y0 y1 m0 m1 (.inr ⟨by omega, rfl, rfl⟩)
    have HD := Lib.hid (fun w => cdiv (y - 2000) 400 ⟨by omega, by omega⟩ (by omega) (by omega) w)
    have HE := Lib.hid (fun w => cbefore (m - 3) (by omega) (by omega) w)
    clear h
    obtain ⟨c, hc⟩ : ∃ c, (y - 2000) / 400 = c := ⟨_, rfl⟩
    obtain ⟨r, hr⟩ : ∃ c, (y - 2000) % 400 = c := ⟨_, rfl⟩
    obtain ⟨b0, b1, b2, b3, b4, b5, -, -⟩ := HB c r hc hr
    replace HM := Lib.hid (HM.out c r hc hr)
    rw [hc, hr] at HD
    clear hc hr HB
    have k : decide (m - 3 < 0) = false := decide_eq_false q
    have kb : 0 ≤ (153 * (m - 3) + 2) / 5 ∧ (153 * (m - 3) + 2) / 5 ≤ 400 := by omega
    generalize (153 * (m - 3) + 2) / 5 = bf at *
    obtain ⟨kb0, kb1⟩ := kb
    have HW := Lib.hid (day_wrap b0 b1 b2 b3 kb0 kb1 d0 d1)
    go_enter Tryz.func53, Tryz.ntmps53
    go_wp2_with fail
    refine (HV.out _ ht2.out).mono ?_
    rintro e w1 ⟨rfl, hb⟩
    have hb2 := box_below hb
    obtain ⟨c0, c1, c2⟩ := box_cells hb
    clear hb HV
    go_wp2
    go_quiet (fail)
    go_wp2_with fail
    refine (HD.out _).mono ?_
    rintro e w' ⟨rfl, n, rfl⟩
    go_wp2
    go_quiet ((go_at_call 42; exact quiet_add_left (HE.out _)))
    go_wp2
    go_ret2
    refine ⟨?_, below_drewN (below_drewN hb2 _) _⟩
    rw [← HM.out, ← HW.out]
    rfl
theorem cdate_no (n : Int) (hn : I64 n) (h : n < -719162 ∨ 2932897 ≤ n) (w : World) :
    Calls Tryz.prog 28 #[.int .i64 n] w fun e w' => e = .returned (.tuple #[.agg #[.int .i64 0, .int .i64 0, .int .i64 0], .int .i64 2]) ∧ Below w.heap.size w w' := by
  have HD := fun w => cdayok n hn w
  have k : dyB n = false := by rw [← Bool.not_eq_true, dyB_iff]; omega
  rw [k] at HD
  replace HD := Lib.hid HD
  clear k h
  go_enter Tryz.func28, Tryz.ntmps28
  go_wp2_with fail
  refine (HD.out _).mono ?_
  rintro e w' ⟨rfl, rfl⟩
  go_wp2
  exact bodyPost_ret (v := .tuple #[.agg #[.int .i64 0, .int .i64 0, .int .i64 0], .int .i64 2]) (by simp [results, Tryz.results28, go_sem]) rfl ⟨rfl, (Below.refl _ _).alloc (Nat.le_refl _) _⟩
set_option maxHeartbeats 1000000 in
set_option maxRecDepth 100000 in
theorem cdate_yes (n y m d : Int) (h : vld y m d = true) (hn : dayN y m d = n) (w : World) :
    Calls Tryz.prog 28 #[.int .i64 n] w fun e w' => e = .returned (.tuple #[.agg #[.int .i64 y, .int .i64 m, .int .i64 d], .int .i64 0]) ∧ Below w.heap.size w w' := by
  obtain ⟨r0, r1⟩ := day_range h
  rw [hn] at r0 r1
  have HK := fun w => cdayok n ⟨by omega, by omega⟩ w
  rw [dyB_iff.2 ⟨r0, r1⟩] at HK
  replace HK := Lib.hid HK
  have p := parts_of r0 r1
  have HD : Hid (∀ w, Calls Tryz.prog 39 #[.int .i64 (n - 11017), .int .i64 146097] w fun e w' => e = .returned (.tuple #[.int .i64 (pC n), .int .i64 (pR n), .int .i64 0]) ∧ ∃ k, w' = w.drewN k) := fun w => cdiv (n - 11017) 146097 ⟨by omega, by omega⟩ (by omega) (by omega) w
  have HL : Hid (pM n ≤ 9 → 2000 + pC n * 400 + pA n * 100 + pF n * 4 + pO n = y ∧ pM n + 3 = m ∧ pR3 n - (153 * pM n + 2) / 5 + 1 = d) := fun q =>
    day_inj (parts_late p r0 r1 q).1 h ((parts_late p r0 r1 q).2.trans hn.symm)
  have HE : Hid (10 ≤ pM n → 2000 + pC n * 400 + pA n * 100 + pF n * 4 + pO n + 1 = y ∧ pM n + 3 - 12 = m ∧ pR3 n - (153 * pM n + 2) / 5 + 1 = d) := fun q =>
    day_inj (parts_early p r0 r1 q).1 h ((parts_early p r0 r1 q).2.trans hn.symm)
  obtain ⟨rb0, rb1⟩ := pR_bd n
  obtain ⟨-, -, ab0, ab1⟩ := pA_bd n
  obtain ⟨-, -, fb0, fb1, -⟩ := pF_bd n
  have ob : pR3 n ≤ 365 := by have := p.r1; omega
  obtain ⟨c0, c1, a0, a1, f0, f1, o0, o1, q0, -, m0, m1, -, -⟩ := p
  have e1 : (if 3 < pR n / 36524 then 3 else pR n / 36524) = pA n := by unfold pA; rw [Int.min_def]; split <;> split <;> omega
  have e2 : pR n - pA n * 36524 = pR1 n := rfl
  have e3 : pR1 n / 1461 = pF n := rfl
  have e4 : pR1 n - pF n * 1461 = pR2 n := rfl
  have e5 : (if 3 < pR2 n / 365 then 3 else pR2 n / 365) = pO n := by unfold pO; rw [Int.min_def]; split <;> split <;> omega
  have e6 : pR2 n - pO n * 365 = pR3 n := rfl
  have HM : Hid (∀ w, Calls Tryz.prog 41 #[.int .i64 (pR3 n)] w fun e w' => e = .returned (.int .i64 (pM n)) ∧ w = w') := fun w => cmonth (pR3 n) q0 ob w
  have HB := Lib.hid (fun w => cbefore (pM n) m0 m1 w)
  have bb : 0 ≤ (153 * pM n + 2) / 5 ∧ (153 * pM n + 2) / 5 ≤ 400 := by omega
  have ab2 : pR1 n ≤ 36524 := by omega
  clear h hn ab1
  generalize (153 * pM n + 2) / 5 = bf at *
  generalize pC n = C at *
  generalize pR n = R at *
  generalize pA n = A at *
  generalize pR1 n = R1 at *
  generalize pF n = F at *
  generalize pR2 n = R2 at *
  generalize pO n = O at *
  generalize pR3 n = R3 at *
  generalize pM n = M at *
  obtain ⟨bb0, bb1⟩ := bb
  by_cases z : M ≤ 9
  · have k : decide (12 < M + 3) = false := decide_eq_false (by omega)
    replace HL := Lib.hid (HL.out z)
    clear HE
    go_enter Tryz.func28, Tryz.ntmps28
    go_wp2_with fail
    refine (HK.out _).mono ?_
    rintro e w' ⟨rfl, rfl⟩
    go_wp2_with fail
    refine (HD.out _).mono ?_
    rintro e w' ⟨rfl, kk, rfl⟩
    go_wp2_with fail
    refine (HM.out _).mono ?_
    rintro e w' ⟨rfl, rfl⟩
    go_wp2_with fail
    refine (HB.out _).mono ?_
    rintro e w' ⟨rfl, rfl⟩
    go_wp2
    obtain ⟨rfl, rfl, rfl⟩ := HL.out
    refine bodyPost_ret (v := .tuple #[.agg #[.int .i64 (2000 + C * 400 + A * 100 + F * 4 + O), .int .i64 (M + 3), .int .i64 (R3 - bf + 1)], .int .i64 0]) (by simp [results, Tryz.results28, go_sem]) rfl ⟨rfl, ?_⟩
    exact grow_alloc ((((below_drewN ((Below.refl _ _).alloc (Nat.le_refl _) _) _).setCell (Nat.le_refl _) _).setCell (Nat.le_refl _) _).setCell (Nat.le_refl _) _)
  · have k : decide (12 < M + 3) = true := decide_eq_true (by omega)
    replace HE := Lib.hid (HE.out (by omega))
    clear HL
    go_enter Tryz.func28, Tryz.ntmps28
    go_wp2_with fail
    refine (HK.out _).mono ?_
    rintro e w' ⟨rfl, rfl⟩
    go_wp2_with fail
    refine (HD.out _).mono ?_
    rintro e w' ⟨rfl, kk, rfl⟩
    go_wp2_with fail
    refine (HM.out _).mono ?_
    rintro e w' ⟨rfl, rfl⟩
    go_wp2_with fail
    refine (HB.out _).mono ?_
    rintro e w' ⟨rfl, rfl⟩
    go_wp2
    obtain ⟨rfl, rfl, rfl⟩ := HE.out
    refine bodyPost_ret (v := .tuple #[.agg #[.int .i64 (2000 + C * 400 + A * 100 + F * 4 + O + 1), .int .i64 (M + 3 - 12), .int .i64 (R3 - bf + 1)], .int .i64 0]) (by simp [results, Tryz.results28, go_sem]) rfl ⟨rfl, ?_⟩
    exact grow_alloc ((((below_drewN ((Below.refl _ _).alloc (Nat.le_refl _) _) _).setCell (Nat.le_refl _) _).setCell (Nat.le_refl _) _).setCell (Nat.le_refl _) _)
end Go.Proofs.YtocimbiidloofaaGreatDoor

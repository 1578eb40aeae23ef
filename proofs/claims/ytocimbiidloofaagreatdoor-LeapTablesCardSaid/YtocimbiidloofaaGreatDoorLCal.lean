/- Plain facts on the calendar: years, months, days, the count from March, the next day, 400 years later. No program is mentioned. -/
import Derived.Test.YtocimbiidloofaaGreatDoorLPlain

import Derived.WalkKit

namespace Go.Proofs.YtocimbiidloofaaGreatDoor

open Go.RowKit

set_option linter.unusedVariables false

/-- A year from 1 to 9999 is a leap year. -/
def leapB (y : Int) : Bool := decide (1 ≤ y ∧ y ≤ 9999 ∧ (y % 400 = 0 ∨ (y % 4 = 0 ∧ y % 100 ≠ 0)))
def lp (y : Int) : Int := if leapB y then 1 else 0
/-- The length of a month; 0 if there is none. -/
def lenM (y m : Int) : Int :=
  if y < 1 ∨ 9999 < y ∨ m < 1 ∨ 12 < m then 0
  else if m = 2 then 28 + lp y
  else if m = 4 ∨ m = 6 ∨ m = 9 ∨ m = 11 then 30 else 31
/-- Is a date valid? -/
def vld (y m d : Int) : Bool := decide (1 ≤ d ∧ d ≤ lenM y m)
/-- The day of the first of January. -/
def first (y : Int) : Int := -719162 + 365 * (y - 1) + (y - 1) / 4 - (y - 1) / 100 + (y - 1) / 400
/-- The days of a year before a month. -/
def cum (y m : Int) : Int :=
  if m ≤ 1 then 0 else if m = 2 then 31 else if m = 3 then 59 + lp y else if m = 4 then 90 + lp y else if m = 5 then 120 + lp y else if m = 6 then 151 + lp y
  else if m = 7 then 181 + lp y else if m = 8 then 212 + lp y else if m = 9 then 243 + lp y else if m = 10 then 273 + lp y else if m = 11 then 304 + lp y else if m = 12 then 334 + lp y else 365 + lp y
/-- The day of a date. -/
def dayN (y m d : Int) : Int := first y + cum y m + d - 1
theorem leapB_iff {y : Int} : leapB y = true ↔ 1 ≤ y ∧ y ≤ 9999 ∧ (y % 400 = 0 ∨ (y % 4 = 0 ∧ y % 100 ≠ 0)) := by unfold leapB; simp
theorem lp_01 (y : Int) : 0 ≤ lp y ∧ lp y ≤ 1 := by unfold lp; split <;> omega
theorem lp_eq {y : Int} (h0 : 1 ≤ y) (h1 : y ≤ 9999) : (y % 400 = 0 ∨ (y % 4 = 0 ∧ y % 100 ≠ 0)) ∧ lp y = 1 ∨ ¬ (y % 400 = 0 ∨ (y % 4 = 0 ∧ y % 100 ≠ 0)) ∧ lp y = 0 := by
  unfold lp
  by_cases h : leapB y = true
  · left; rw [if_pos h]; exact ⟨(leapB_iff.1 h).2.2, rfl⟩
  · right; rw [if_neg h]; exact ⟨fun k => h (leapB_iff.2 ⟨h0, h1, k⟩), rfl⟩
theorem first_succ {y : Int} (h0 : 1 ≤ y) (h1 : y ≤ 9999) : first (y + 1) = first y + 365 + lp y := by
  have := lp_eq h0 h1
  unfold first
  omega
theorem lenM_out {y m : Int} (h : y < 1 ∨ 9999 < y ∨ m < 1 ∨ 12 < m) : lenM y m = 0 := by unfold lenM; rw [if_pos h]
theorem lenM_in {y m : Int} (y0 : 1 ≤ y) (y1 : y ≤ 9999) (m0 : 1 ≤ m) (m1 : m ≤ 12) : 28 ≤ lenM y m ∧ lenM y m ≤ 31 := by
  have := lp_01 y
  unfold lenM; rw [if_neg (by omega)]; split <;> (try split) <;> omega
theorem lenM_pos {y m : Int} (h : 0 < lenM y m) : 1 ≤ y ∧ y ≤ 9999 ∧ 1 ≤ m ∧ m ≤ 12 := by
  by_cases k : y < 1 ∨ 9999 < y ∨ m < 1 ∨ 12 < m
  · rw [lenM_out k] at h; omega
  · omega
theorem vld_iff {y m d : Int} : vld y m d = true ↔ 1 ≤ d ∧ d ≤ lenM y m := by unfold vld; simp
theorem vld_bd {y m d : Int} (h : vld y m d = true) : 1 ≤ y ∧ y ≤ 9999 ∧ 1 ≤ m ∧ m ≤ 12 ∧ 1 ≤ d ∧ d ≤ 31 := by
  have k := vld_iff.1 h
  have p := lenM_pos (show 0 < lenM y m by omega)
  have l := lenM_in p.1 p.2.1 p.2.2.1 p.2.2.2
  omega
theorem month_cases {m : Int} (h0 : 1 ≤ m) (h1 : m ≤ 12) : m = 1 ∨ m = 2 ∨ m = 3 ∨ m = 4 ∨ m = 5 ∨ m = 6 ∨ m = 7 ∨ m = 8 ∨ m = 9 ∨ m = 10 ∨ m = 11 ∨ m = 12 := by omega
theorem cum_succ {y m : Int} (y0 : 1 ≤ y) (y1 : y ≤ 9999) (m0 : 1 ≤ m) (m1 : m ≤ 12) : cum y (m + 1) = cum y m + lenM y m := by
  have hn : ¬ (y < 1 ∨ 9999 < y ∨ m < 1 ∨ 12 < m) := by omega
  unfold lenM
  rw [if_neg hn]
  rcases month_cases m0 m1 with rfl | rfl | rfl | rfl | rfl | rfl | rfl | rfl | rfl | rfl | rfl | rfl <;> simp [cum] <;> omega
theorem cum_one (y : Int) : cum y 1 = 0 := by simp [cum]
theorem cum_end (y : Int) : cum y 13 = 365 + lp y := by simp [cum]
theorem cum_mono {y : Int} (y0 : 1 ≤ y) (y1 : y ≤ 9999) : ∀ (k : Nat) (m : Int), 1 ≤ m → m + k ≤ 13 → cum y m ≤ cum y (m + k) := by
  intro k
  induction k with
  | zero => intro m _ _; simp
  | succ k ih =>
    intro m m0 m1
    have a := ih m m0 (by omega)
    have b := cum_succ y0 y1 (m := m + k) (by omega) (by omega)
    have c := lenM_in y0 y1 (m := m + k) (by omega) (by omega)
    rw [show m + ((k + 1 : Nat) : Int) = m + (k : Int) + 1 by omega]
    omega
theorem cum_bd {y m : Int} (y0 : 1 ≤ y) (y1 : y ≤ 9999) (m0 : 1 ≤ m) (m1 : m ≤ 13) : 0 ≤ cum y m ∧ cum y m ≤ 366 := by
  have a := cum_mono y0 y1 (m - 1).toNat 1 (by omega) (by omega)
  have b := cum_mono y0 y1 (13 - m).toNat m m0 (by omega)
  rw [show (1 : Int) + ((m - 1).toNat : Int) = m by omega, cum_one] at a
  rw [show m + ((13 - m).toNat : Int) = 13 by omega, cum_end] at b
  have := lp_01 y
  omega
theorem first_mono : ∀ (k : Nat) (y : Int), 1 ≤ y → y + k ≤ 10000 → first y + 365 * k ≤ first (y + k) := by
  intro k
  induction k with
  | zero => intro y _ _; simp
  | succ k ih =>
    intro y y0 y1
    have a := ih y y0 (by omega)
    have b := first_succ (y := y + k) (by omega) (by omega)
    have c := lp_01 (y + k)
    rw [show y + ((k + 1 : Nat) : Int) = y + (k : Int) + 1 by omega]
    omega
theorem first_le {y z : Int} (y0 : 1 ≤ y) (h : y ≤ z) (z1 : z ≤ 10000) : first y + 365 * (z - y) ≤ first z := by
  have a := first_mono (z - y).toNat y y0 (by omega)
  rw [show y + ((z - y).toNat : Int) = z by omega] at a
  omega
theorem first_one : first 1 = -719162 := by decide
theorem first_last : first 10000 = 2932897 := by decide
/-- A date lies in its year. -/
theorem day_in {y m d : Int} (h : vld y m d = true) : first y ≤ dayN y m d ∧ dayN y m d < first (y + 1) ∧ dayN y m d = first y + cum y m + d - 1 := by
  obtain ⟨y0, y1, m0, m1, d0, d1⟩ := vld_bd h
  have k := vld_iff.1 h
  have a := cum_succ y0 y1 m0 m1
  have b := cum_bd y0 y1 m0 (by omega)
  have c := cum_mono y0 y1 (12 - m).toNat (m + 1) (by omega) (by omega)
  rw [show m + 1 + ((12 - m).toNat : Int) = 13 by omega, cum_end] at c
  have e := first_succ y0 y1
  unfold dayN
  omega
theorem day_range {y m d : Int} (h : vld y m d = true) : -719162 ≤ dayN y m d ∧ dayN y m d < 2932897 := by
  obtain ⟨y0, y1, -⟩ := vld_bd h
  have a := day_in h
  have b := first_le (y := 1) (z := y) (by omega) y0 (by omega)
  have c := first_le (y := y + 1) (z := 10000) (by omega) (by omega) (by omega)
  rw [first_one] at b
  rw [first_last] at c
  omega
/-- Days and dates: one date a day. -/
theorem day_inj {y m d y' m' d' : Int} (h : vld y m d = true) (h' : vld y' m' d' = true) (e : dayN y m d = dayN y' m' d') : y = y' ∧ m = m' ∧ d = d' := by
  obtain ⟨y0, y1, m0, m1, d0, d1⟩ := vld_bd h
  obtain ⟨y0', y1', m0', m1', d0', d1'⟩ := vld_bd h'
  have a := day_in h
  have a' := day_in h'
  have hy : y = y' := by
    rcases Int.lt_or_le y y' with z | z
    · have := first_le (y := y + 1) (z := y') (by omega) (by omega) (by omega); omega
    · rcases Int.lt_or_le y' y with z' | z'
      · have := first_le (y := y' + 1) (z := y) (by omega) (by omega) (by omega); omega
      · omega
  subst hy
  have k := vld_iff.1 h
  have k' := vld_iff.1 h'
  have hm : m = m' := by
    rcases Int.lt_or_le m m' with z | z
    · have s := cum_succ y0 y1 m0 m1
      have := cum_mono y0 y1 (m' - (m + 1)).toNat (m + 1) (by omega) (by omega)
      rw [show m + 1 + ((m' - (m + 1)).toNat : Int) = m' by omega] at this
      omega
    · rcases Int.lt_or_le m' m with z' | z'
      · have s := cum_succ y0 y1 m0' m1'
        have := cum_mono y0 y1 (m - (m' + 1)).toNat (m' + 1) (by omega) (by omega)
        rw [show m' + 1 + ((m - (m' + 1)).toNat : Int) = m by omega] at this
        omega
      · omega
  subst hm
  omega
theorem year_of {n : Int} (h0 : -719162 ≤ n) : ∀ k : Nat, k ≤ 9999 → n < first (1 + k) → ∃ y, 1 ≤ y ∧ y ≤ 9999 ∧ first y ≤ n ∧ n < first (y + 1) := by
  intro k
  induction k with
  | zero => intro _ h; rw [show (1 : Int) + ((0 : Nat) : Int) = 1 by omega, first_one] at h; omega
  | succ k ih =>
    intro hk h
    by_cases c : n < first (1 + k)
    · exact ih (by omega) c
    · exact ⟨1 + k, by omega, by omega, by omega, by rw [show (1 : Int) + (k : Int) + 1 = 1 + ((k + 1 : Nat) : Int) by omega]; exact h⟩
theorem month_of {y x : Int} (h0 : 0 ≤ x) : ∀ k : Nat, k ≤ 12 → x < cum y (1 + k) → ∃ m, 1 ≤ m ∧ m ≤ 12 ∧ cum y m ≤ x ∧ x < cum y (m + 1) := by
  intro k
  induction k with
  | zero => intro _ h; rw [show (1 : Int) + ((0 : Nat) : Int) = 1 by omega, cum_one] at h; omega
  | succ k ih =>
    intro hk h
    by_cases c : x < cum y (1 + k)
    · exact ih (by omega) c
    · exact ⟨1 + k, by omega, by omega, by omega, by rw [show (1 : Int) + (k : Int) + 1 = 1 + ((k + 1 : Nat) : Int) by omega]; exact h⟩
/-- Each day has a date. -/
theorem date_of {n : Int} (h0 : -719162 ≤ n) (h1 : n < 2932897) : ∃ y m d, vld y m d = true ∧ dayN y m d = n := by
  obtain ⟨y, y0, y1, a, b⟩ := year_of h0 9999 (by omega) (by rw [show (1 : Int) + ((9999 : Nat) : Int) = 10000 by omega, first_last]; exact h1)
  have s := first_succ y0 y1
  obtain ⟨m, m0, m1, c, d⟩ := month_of (x := n - first y) (y := y) (by omega) 12 (by omega) (by rw [show (1 : Int) + ((12 : Nat) : Int) = 13 by omega, cum_end]; omega)
  have k := cum_succ y0 y1 m0 m1
  refine ⟨y, m, n - first y - cum y m + 1, vld_iff.2 ⟨by omega, by omega⟩, ?_⟩
  unfold dayN; omega
/-- The weekday of a day; 0 out of range. -/
def wkd (n : Int) : Int := if n < -719162 ∨ 2932897 ≤ n then 0 else (n + 719162) % 7 + 1
/-- The number of a day in its year; 0 for a date that is not valid. -/
def ydy (y m d : Int) : Int := if vld y m d then cum y m + d else 0
theorem vld_split {y m d : Int} : vld y m d = (decide (1 ≤ d) && decide (d ≤ lenM y m)) := by unfold vld; simp
/-- The first of March of a year. -/
theorem march_one {yy c r : Int} (hc : (yy - 2000) / 400 = c) (hr : (yy - 2000) % 400 = r) : 11017 + c * 146097 + r * 365 + r / 4 - r / 100 = first (yy + 1) - 306 := by
  unfold first; omega
theorem cum_late {y m : Int} (m0 : 3 ≤ m) (m1 : m ≤ 12) : cum y m = 59 + lp y + (153 * (m - 3) + 2) / 5 := by
  have h : m = 3 ∨ m = 4 ∨ m = 5 ∨ m = 6 ∨ m = 7 ∨ m = 8 ∨ m = 9 ∨ m = 10 ∨ m = 11 ∨ m = 12 := by omega
  rcases h with rfl | rfl | rfl | rfl | rfl | rfl | rfl | rfl | rfl | rfl <;> simp [cum] <;> omega
theorem cum_early {y m : Int} (m0 : 1 ≤ m) (m1 : m ≤ 2) : cum y m = (153 * (m + 9) + 2) / 5 - 306 := by
  have h : m = 1 ∨ m = 2 := by omega
  rcases h with rfl | rfl <;> simp [cum]
/-- The day of a date, as the program computes it: 'yy' and 'mm' count from March. -/
theorem march_day {y m d yy mm c r : Int} (h : vld y m d = true) (hm : m - 3 < 0 ∧ yy = y - 1 ∧ mm = m - 3 + 12 ∨ 0 ≤ m - 3 ∧ yy = y ∧ mm = m - 3)
    (hc : (yy - 2000) / 400 = c) (hr : (yy - 2000) % 400 = r) :
    11017 + c * 146097 + r * 365 + r / 4 - r / 100 + (153 * mm + 2) / 5 + d - 1 = dayN y m d := by
  obtain ⟨y0, y1, m0, m1, d0, d1⟩ := vld_bd h
  rw [march_one hc hr]
  unfold dayN
  rcases hm with ⟨q, rfl, rfl⟩ | ⟨q, rfl, rfl⟩
  · rw [cum_early m0 (by omega), show m - 3 + 12 = m + 9 by omega, show y - 1 + 1 = y by omega]; omega
  · rw [cum_late (by omega) m1, first_succ y0 y1]; omega
/-- The bounds of the parts. -/
theorem march_bd {y yy m mm c r : Int} (y0 : 1 ≤ y) (y1 : y ≤ 9999) (m0 : 1 ≤ m) (m1 : m ≤ 12) (hm : m - 3 < 0 ∧ yy = y - 1 ∧ mm = m - 3 + 12 ∨ 0 ≤ m - 3 ∧ yy = y ∧ mm = m - 3)
    (hc : (yy - 2000) / 400 = c) (hr : (yy - 2000) % 400 = r) : -5 ≤ c ∧ c ≤ 20 ∧ 0 ≤ r ∧ r ≤ 399 ∧ 0 ≤ mm ∧ mm ≤ 11 ∧ -2000 ≤ yy - 2000 ∧ yy - 2000 ≤ 8000 := by omega
/-- The parts of a day in the calendar that counts from March. -/
structure Parts (n c a f o r3 mm : Int) : Prop where
  c0 : -5 ≤ c
  c1 : c ≤ 20
  a0 : 0 ≤ a
  a1 : a ≤ 3
  f0 : 0 ≤ f
  f1 : f ≤ 24
  o0 : 0 ≤ o
  o1 : o ≤ 3
  r0 : 0 ≤ r3
  r1 : r3 ≤ 364 ∨ r3 = 365 ∧ o = 3 ∧ (f ≤ 23 ∨ f = 24 ∧ a = 3)
  m0 : 0 ≤ mm
  m1 : mm ≤ 11
  hm : mm = (5 * r3 + 2) / 153
  sum : n = 11017 + 146097 * c + 36524 * a + 1461 * f + 365 * o + r3
/-- The parts that the program finds. -/
def pC (n : Int) : Int := (n - 11017) / 146097
def pR (n : Int) : Int := (n - 11017) % 146097
def pA (n : Int) : Int := min (pR n / 36524) 3
def pR1 (n : Int) : Int := pR n - pA n * 36524
def pF (n : Int) : Int := pR1 n / 1461
def pR2 (n : Int) : Int := pR1 n - pF n * 1461
def pO (n : Int) : Int := min (pR2 n / 365) 3
def pR3 (n : Int) : Int := pR2 n - pO n * 365
def pM (n : Int) : Int := (5 * pR3 n + 2) / 153
theorem pR_bd (n : Int) : 0 ≤ pR n ∧ pR n ≤ 146096 := by unfold pR; omega
theorem pA_bd (n : Int) : 0 ≤ pA n ∧ pA n ≤ 3 ∧ 0 ≤ pR1 n ∧ (pR1 n ≤ 36523 ∨ pR1 n = 36524 ∧ pA n = 3) := by
  have := pR_bd n
  unfold pR1 pA
  generalize pR n = r at *
  rw [Int.min_def]; split <;> omega
theorem pF_bd (n : Int) : 0 ≤ pF n ∧ pF n ≤ 24 ∧ 0 ≤ pR2 n ∧ pR2 n ≤ 1460 ∧ (pR2 n = 1460 → pF n = 24 → pA n = 3) := by
  have := pA_bd n
  unfold pR2 pF
  generalize pR1 n = r at *
  generalize pA n = a at *
  omega
theorem pO_bd (n : Int) : 0 ≤ pO n ∧ pO n ≤ 3 ∧ 0 ≤ pR3 n ∧ (pR3 n ≤ 364 ∨ pR3 n = 365 ∧ pO n = 3 ∧ (pF n ≤ 23 ∨ pF n = 24 ∧ pA n = 3)) := by
  have := pF_bd n
  unfold pR3 pO
  generalize pR2 n = r at *
  generalize pF n = f at *
  generalize pA n = a at *
  rw [Int.min_def]; split <;> omega
theorem parts_of {n : Int} (h0 : -719162 ≤ n) (h1 : n < 2932897) : Parts n (pC n) (pA n) (pF n) (pO n) (pR3 n) (pM n) := by
  have a := pA_bd n
  have f := pF_bd n
  have o := pO_bd n
  refine ⟨by unfold pC; omega, by unfold pC; omega, a.1, a.2.1, f.1, f.2.1, o.1, o.2.1, o.2.2.1, o.2.2.2, ?_, ?_, rfl, ?_⟩
  · unfold pM; omega
  · unfold pM; omega
  · have e3 : pR3 n = pR2 n - pO n * 365 := rfl
    have e2 : pR2 n = pR1 n - pF n * 1461 := rfl
    have e1 : pR1 n = pR n - pA n * 36524 := rfl
    have e0 : pR n = (n - 11017) % 146097 := rfl
    have ec : pC n = (n - 11017) / 146097 := rfl
    omega
/-- The first of January after the March year. -/
theorem parts_first {Y n c a f o r3 mm : Int} (p : Parts n c a f o r3 mm) (hY : Y = 2000 + c * 400 + a * 100 + f * 4 + o) :
    first (Y + 1) = n - r3 + 306 := by
  have := p.sum; have := p.a0; have := p.a1; have := p.f0; have := p.f1; have := p.o0; have := p.o1
  unfold first; omega
theorem parts_year {Y n c a f o r3 mm : Int} (p : Parts n c a f o r3 mm) (hY : Y = 2000 + c * 400 + a * 100 + f * 4 + o) (h0 : -719162 ≤ n) (h1 : n < 2932897) :
    (0 ≤ Y ∧ Y ≤ 9999) ∧ (Y = 0 → 10 ≤ mm) ∧ (Y = 9999 → mm ≤ 9) := by
  have e := parts_first p hY
  have a := p.r0
  have b := p.r1
  have m := p.hm
  have q : 0 ≤ Y ∧ Y ≤ 9999 := by unfold first at e; omega
  refine ⟨q, fun z => ?_, fun z => ?_⟩
  · rw [z] at e; rw [show first (0 + 1) = -719162 by decide] at e; omega
  · rw [z] at e; rw [show first (9999 + 1) = 2932897 by decide] at e; omega
theorem month_late {m x : Int} (m0 : 0 ≤ m) (m1 : m ≤ 9) (hm : m = (5 * x + 2) / 153) : 1 ≤ x - (153 * m + 2) / 5 + 1 ∧ x - (153 * m + 2) / 5 + 1 ≤ (if m + 3 = 4 ∨ m + 3 = 6 ∨ m + 3 = 9 ∨ m + 3 = 11 then 30 else 31) := by
  have h : m = 0 ∨ m = 1 ∨ m = 2 ∨ m = 3 ∨ m = 4 ∨ m = 5 ∨ m = 6 ∨ m = 7 ∨ m = 8 ∨ m = 9 := by omega
  rcases h with rfl | rfl | rfl | rfl | rfl | rfl | rfl | rfl | rfl | rfl <;> simp <;> omega
/-- The parts are those of the date. -/
theorem parts_late {n c a f o r3 mm : Int} (p : Parts n c a f o r3 mm) (h0 : -719162 ≤ n) (h1 : n < 2932897) (hm : mm ≤ 9) :
    vld (2000 + c * 400 + a * 100 + f * 4 + o) (mm + 3) (r3 - (153 * mm + 2) / 5 + 1) = true ∧ dayN (2000 + c * 400 + a * 100 + f * 4 + o) (mm + 3) (r3 - (153 * mm + 2) / 5 + 1) = n := by
  obtain ⟨Y, hY⟩ : ∃ Y, 2000 + c * 400 + a * 100 + f * 4 + o = Y := ⟨_, rfl⟩
  rw [hY]
  have e := parts_first p hY.symm
  obtain ⟨⟨y0, y1⟩, y2, y3⟩ := parts_year p hY.symm h0 h1
  have y0' : 1 ≤ Y := by by_cases z : Y = 0; have := y2 z; omega; omega
  have m0 := p.m0
  have l := month_late m0 hm p.hm
  refine ⟨vld_iff.2 ⟨l.1, ?_⟩, ?_⟩
  · unfold lenM; rw [if_neg (by omega), if_neg (by omega)]; exact l.2
  · unfold dayN
    rw [cum_late (by omega) (by omega), show mm + 3 - 3 = mm by omega]
    have s := first_succ y0' y1
    omega
theorem parts_early {n c a f o r3 mm : Int} (p : Parts n c a f o r3 mm) (h0 : -719162 ≤ n) (h1 : n < 2932897) (hm : 10 ≤ mm) :
    vld (2000 + c * 400 + a * 100 + f * 4 + o + 1) (mm + 3 - 12) (r3 - (153 * mm + 2) / 5 + 1) = true ∧ dayN (2000 + c * 400 + a * 100 + f * 4 + o + 1) (mm + 3 - 12) (r3 - (153 * mm + 2) / 5 + 1) = n := by
  obtain ⟨Y, hY⟩ : ∃ Y, 2000 + c * 400 + a * 100 + f * 4 + o = Y := ⟨_, rfl⟩
  rw [hY]
  have e := parts_first p hY.symm
  obtain ⟨⟨y0, y1⟩, y2, y3⟩ := parts_year p hY.symm h0 h1
  have y1' : Y + 1 ≤ 9999 := by by_cases z : Y = 9999; have := y3 z; omega; omega
  have m1 := p.m1
  have m2 := p.hm
  have r1 := p.r1
  have a0 := p.a0; have a1 := p.a1; have f0 := p.f0; have f1 := p.f1; have o0 := p.o0; have o1 := p.o1
  refine ⟨vld_iff.2 ?_, ?_⟩
  · have hlp := lp_eq (y := Y + 1) (by omega) y1'
    have h : mm = 10 ∨ mm = 11 := by omega
    rcases h with rfl | rfl
    · unfold lenM; rw [if_neg (by omega), if_neg (by omega), if_neg (by omega)]; omega
    · unfold lenM; rw [if_neg (by omega), if_pos (by omega)]
      refine ⟨by omega, ?_⟩
      rcases r1 with r1 | ⟨rfl, rfl, r1⟩
      · omega
      · have : lp (Y + 1) = 1 := by omega
        omega
  · unfold dayN
    rw [cum_early (by omega) (by omega), show mm + 3 - 12 + 9 = mm by omega]
    omega
theorem guess_low {y n : Int} (y0 : 1 ≤ y) (y1 : y ≤ 9999) (h0 : first y ≤ n) (h1 : n < first (y + 1)) : (n + 719162) / 366 + 1 ≤ y := by
  have s := first_succ y0 y1
  have l := lp_01 y
  unfold first at *
  omega
theorem guess_first {n : Int} (h0 : -719162 ≤ n) : first ((n + 719162) / 366 + 1) ≤ n := by
  unfold first; omega
/-- The day counted from the first of the month, and the error number. -/
def nthD (s l o n : Int) : Int := if o + 7 * (n - 1) < l then s + o + 7 * (n - 1) else 0
def nthE (l o n : Int) : Int := if o + 7 * (n - 1) < l then 0 else 7
theorem nth_wkd {s l b : Int} (r0 : -719162 ≤ s) (r1 : s + l ≤ 2932897) (b0 : 0 ≤ b) (b1 : b < l) : wkd (s + b) = (s + b + 719162) % 7 + 1 := by
  unfold wkd; rw [if_neg (by omega)]
/-- The day counted from the last of the month. -/
def nthB (s l o n : Int) : Int := if o + 7 * (n - 1) < l then s + l - 1 - (o + 7 * (n - 1)) else 0
theorem nth_wkdB {s l b : Int} (r0 : -719162 ≤ s) (r1 : s + l ≤ 2932897) (b0 : 0 ≤ b) (b1 : b < l) : wkd (s + l - 1 - b) = (s + l - 1 - b + 719162) % 7 + 1 := by
  unfold wkd; rw [if_neg (by omega)]
theorem day_first {y : Int} (y0 : 1 ≤ y) (y1 : y ≤ 9999) : vld y 1 1 = true ∧ dayN y 1 1 = first y := by
  refine ⟨vld_iff.2 ⟨by omega, ?_⟩, ?_⟩
  · have := lenM_in y0 y1 (m := 1) (by omega) (by omega); omega
  · unfold dayN; rw [cum_one]; omega
/-- The day after a date. -/
theorem next_in {y m d : Int} (h : vld y m d = true) (k : d < lenM y m) : vld y m (d + 1) = true ∧ dayN y m (d + 1) = dayN y m d + 1 ∧ ydy y m (d + 1) = ydy y m d + 1 := by
  have v := vld_iff.1 h
  have h' : vld y m (d + 1) = true := vld_iff.2 ⟨by omega, by omega⟩
  refine ⟨h', by unfold dayN; omega, ?_⟩
  unfold ydy; rw [if_pos h, if_pos h']; omega
theorem next_month {y m d : Int} (h : vld y m d = true) (k : d = lenM y m) (hm : m < 12) : vld y (m + 1) 1 = true ∧ dayN y (m + 1) 1 = dayN y m d + 1 ∧ ydy y (m + 1) 1 = ydy y m d + 1 := by
  obtain ⟨y0, y1, m0, m1, d0, d1⟩ := vld_bd h
  have l := lenM_in y0 y1 (m := m + 1) (by omega) (by omega)
  have h' : vld y (m + 1) 1 = true := vld_iff.2 ⟨by omega, by omega⟩
  have s := cum_succ y0 y1 m0 m1
  refine ⟨h', by unfold dayN; omega, ?_⟩
  unfold ydy; rw [if_pos h, if_pos h']; omega
theorem next_year {y m d : Int} (h : vld y m d = true) (k : d = lenM y m) (hm : m = 12) (hy : y < 9999) : vld (y + 1) 1 1 = true ∧ dayN (y + 1) 1 1 = dayN y m d + 1 ∧ ydy (y + 1) 1 1 = 1 := by
  obtain ⟨y0, y1, m0, m1, d0, d1⟩ := vld_bd h
  have f := day_first (y := y + 1) (by omega) (by omega)
  have s := cum_succ y0 y1 m0 m1
  subst hm
  have e : cum y (12 + 1) = 365 + lp y := cum_end y
  have g := first_succ y0 y1
  refine ⟨f.1, by rw [f.2]; unfold dayN; omega, ?_⟩
  unfold ydy; rw [if_pos f.1, cum_one]; omega
theorem ydy_bd {y m d : Int} (h : vld y m d = true) : 1 ≤ ydy y m d ∧ ydy y m d ≤ 366 := by
  obtain ⟨y0, y1, m0, m1, d0, d1⟩ := vld_bd h
  have a := day_in h
  have b := first_succ y0 y1
  have c := lp_01 y
  have e := cum_bd y0 y1 m0 (show m ≤ 13 by omega)
  unfold ydy; rw [if_pos h]; omega
theorem wkd_next {n : Int} (h0 : -719162 ≤ n) (h1 : n < 2932896) : wkd (n + 1) = wkd n % 7 + 1 ∧ 1 ≤ wkd n ∧ wkd n ≤ 7 := by
  unfold wkd; rw [if_neg (by omega), if_neg (by omega)]; omega
/-- 400 years later. -/
theorem lp_later {y : Int} (h0 : 1 ≤ y) (h1 : y + 400 ≤ 9999) : lp (y + 400) = lp y := by
  have a := lp_eq h0 (show y ≤ 9999 by omega)
  have b := lp_eq (show 1 ≤ y + 400 by omega) h1
  omega
theorem cum_later {y m : Int} (h0 : 1 ≤ y) (h1 : y + 400 ≤ 9999) : cum (y + 400) m = cum y m := by
  have a := lp_later h0 h1
  unfold cum; rw [a]
theorem lenM_later {y m : Int} (h0 : 1 ≤ y) (h1 : y + 400 ≤ 9999) (m0 : 1 ≤ m) (m1 : m ≤ 12) : lenM (y + 400) m = lenM y m := by
  have a := lp_later h0 h1
  unfold lenM; rw [a, if_neg (show ¬ (y + 400 < 1 ∨ 9999 < y + 400 ∨ m < 1 ∨ 12 < m) by omega), if_neg (show ¬ (y < 1 ∨ 9999 < y ∨ m < 1 ∨ 12 < m) by omega)]
theorem first_later {y : Int} : first (y + 400) = first y + 146097 := by unfold first; omega
theorem date_later {y m d n : Int} (h : vld y m d = true) (hn : dayN y m d = n) (h1 : n < 2786800) : vld (y + 400) m d = true ∧ dayN (y + 400) m d = n + 146097 ∧ ydy (y + 400) m d = ydy y m d ∧ y + 400 ≤ 9999 := by
  obtain ⟨y0, y1, m0, m1, d0, d1⟩ := vld_bd h
  have a := day_in h
  have z : y + 400 ≤ 9999 := by
    rcases Int.lt_or_le (y + 400) 10000 with k | k
    · omega
    · have f := first_le (y := 9600) (z := y) (by omega) (by omega) (by omega)
      rw [show first 9600 = 2786800 by decide] at f
      omega
  have v := vld_iff.1 h
  have h' : vld (y + 400) m d = true := vld_iff.2 ⟨by omega, by rw [lenM_later y0 z m0 m1]; omega⟩
  refine ⟨h', ?_, ?_, z⟩
  · rw [← hn]; unfold dayN; rw [first_later, cum_later y0 z]; omega
  · unfold ydy; rw [if_pos h, if_pos h', cum_later y0 z]
theorem wkd_later {n : Int} (h0 : -719162 ≤ n) (h1 : n < 2786800) : wkd (n + 146097) = wkd n := by
  unfold wkd; rw [if_neg (by omega), if_neg (by omega)]; omega
/-- The table of lengths holds what its initialiser lays. -/
abbrev lensTab : List Int := [0, 31, 28, 31, 30, 31, 30, 31, 31, 30, 31, 30, 31]
def yrB (y : Int) : Bool := decide (1 ≤ y ∧ y ≤ 9999)
def dyB (n : Int) : Bool := decide (-719162 ≤ n ∧ n < 2932897)
theorem yrB_eq {y : Int} : yrB y = (decide (1 ≤ y) && decide (y ≤ 9999)) := by unfold yrB; simp
theorem dyB_eq {n : Int} : dyB n = (decide (-719162 ≤ n) && decide (n < 2932897)) := by unfold dyB; simp
theorem yrB_iff {y : Int} : yrB y = true ↔ 1 ≤ y ∧ y ≤ 9999 := by unfold yrB; simp
theorem dyB_iff {n : Int} : dyB n = true ↔ -719162 ≤ n ∧ n < 2932897 := by unfold dyB; simp
theorem wok {n : Int} (h0 : -9223372036854775808 ≤ n) (h1 : n ≤ 9223372036854775807) : IntKind.i64.wrap n = n := by
  rw [IntKind.wrap_i64]; omega
theorem day_wrap {c r bf d : Int} (b0 : -5 ≤ c) (b1 : c ≤ 20) (b2 : 0 ≤ r) (b3 : r ≤ 399) (b4 : 0 ≤ bf) (b5 : bf ≤ 400) (d0 : 1 ≤ d) (d1 : d ≤ 31) :
    IntKind.i64.wrap (IntKind.i64.wrap (IntKind.i64.wrap (IntKind.i64.wrap (IntKind.i64.wrap (IntKind.i64.wrap (IntKind.i64.wrap (11017 + IntKind.i64.wrap (c * 146097)) + IntKind.i64.wrap (r * 365)) + IntKind.i64.wrap (r.tdiv 4)) - IntKind.i64.wrap (r.tdiv 100)) + bf) + d) - 1)
      = 11017 + c * 146097 + r * 365 + r / 4 - r / 100 + bf + d - 1 := by
  rw [Int.tdiv_eq_ediv_of_nonneg b2, Int.tdiv_eq_ediv_of_nonneg b2]
  rw [wok (n := c * 146097) (by omega) (by omega), wok (n := r * 365) (by omega) (by omega), wok (n := r / 4) (by omega) (by omega), wok (n := r / 100) (by omega) (by omega)]
  rw [wok (n := 11017 + c * 146097) (by omega) (by omega), wok (n := 11017 + c * 146097 + r * 365) (by omega) (by omega), wok (n := 11017 + c * 146097 + r * 365 + r / 4) (by omega) (by omega)]
  rw [wok (n := 11017 + c * 146097 + r * 365 + r / 4 - r / 100) (by omega) (by omega), wok (n := 11017 + c * 146097 + r * 365 + r / 4 - r / 100 + bf) (by omega) (by omega)]
  rw [wok (n := 11017 + c * 146097 + r * 365 + r / 4 - r / 100 + bf + d) (by omega) (by omega), wok (by omega) (by omega)]
/-- Days are ordered as the dates. -/
theorem day_lt {y m d y' m' d' : Int} (h : vld y m d = true) (h' : vld y' m' d' = true) (k : y < y' ∨ y = y' ∧ (m < m' ∨ m = m' ∧ d < d')) : dayN y m d < dayN y' m' d' := by
  obtain ⟨y0, y1, m0, m1, d0, d1⟩ := vld_bd h
  obtain ⟨y0', y1', m0', m1', d0', d1'⟩ := vld_bd h'
  have a := day_in h
  have b := day_in h'
  rcases k with k | ⟨rfl, k | ⟨rfl, k⟩⟩
  · have f := first_le (y := y + 1) (z := y') (by omega) (by omega) (by omega); omega
  · have s := cum_succ y0 y1 m0 m1
    have mo := cum_mono y0 y1 (m' - (m + 1)).toNat (m + 1) (by omega) (by omega)
    rw [show m + 1 + ((m' - (m + 1)).toNat : Int) = m' by omega] at mo
    have v := vld_iff.1 h
    omega
  · omega
end Go.Proofs.YtocimbiidloofaaGreatDoor

/- Plain facts on the Julian calendar: years, months, days, the count from March, the offset from the Gregorian calendar, a calendar with a reform. No program is mentioned. -/
import Derived.Test.YtocimbiidloofaaGreatDoorLCal

import Derived.WalkKit

namespace Go.Proofs.YtocimbiidloofaaGreatDoor

open Go.RowKit

set_option linter.unusedVariables false


def jleapB (y : Int) : Bool := decide (1 ≤ y ∧ y ≤ 9999 ∧ y % 4 = 0)
def jlp (y : Int) : Int := if jleapB y then 1 else 0
/-- The length of a month of the Julian calendar; 0 if there is none. -/
def jlenM (y m : Int) : Int :=
  if y < 1 ∨ 9999 < y ∨ m < 1 ∨ 12 < m then 0
  else if m = 2 then 28 + jlp y
  else if m = 4 ∨ m = 6 ∨ m = 9 ∨ m = 11 then 30 else 31
def jvld (y m d : Int) : Bool := decide (1 ≤ d ∧ d ≤ jlenM y m)
/-- The day of the Julian first of January. -/
def jfirst (y : Int) : Int := -719164 + 365 * (y - 1) + (y - 1) / 4
def jcum (y m : Int) : Int :=
  if m ≤ 1 then 0 else if m = 2 then 31 else if m = 3 then 59 + jlp y else if m = 4 then 90 + jlp y else if m = 5 then 120 + jlp y else if m = 6 then 151 + jlp y
  else if m = 7 then 181 + jlp y else if m = 8 then 212 + jlp y else if m = 9 then 243 + jlp y else if m = 10 then 273 + jlp y else if m = 11 then 304 + jlp y else if m = 12 then 334 + jlp y else 365 + jlp y
/-- The day of a Julian date. -/
def jdayN (y m d : Int) : Int := jfirst y + jcum y m + d - 1
theorem jleapB_iff {y : Int} : jleapB y = true ↔ 1 ≤ y ∧ y ≤ 9999 ∧ y % 4 = 0 := by unfold jleapB; simp
theorem jlp_01 (y : Int) : 0 ≤ jlp y ∧ jlp y ≤ 1 := by unfold jlp; split <;> omega
theorem jlp_eq {y : Int} (h0 : 1 ≤ y) (h1 : y ≤ 9999) : y % 4 = 0 ∧ jlp y = 1 ∨ ¬ y % 4 = 0 ∧ jlp y = 0 := by
  unfold jlp
  by_cases h : jleapB y = true
  · left; rw [if_pos h]; exact ⟨(jleapB_iff.1 h).2.2, rfl⟩
  · right; rw [if_neg h]; exact ⟨fun k => h (jleapB_iff.2 ⟨h0, h1, k⟩), rfl⟩
theorem jfirst_succ {y : Int} (h0 : 1 ≤ y) (h1 : y ≤ 9999) : jfirst (y + 1) = jfirst y + 365 + jlp y := by
  have := jlp_eq h0 h1
  unfold jfirst
  omega
theorem jfirst_one : jfirst 1 = -719164 := by decide
theorem jfirst_last : jfirst 10000 = 2932970 := by decide
theorem jlenM_out {y m : Int} (h : y < 1 ∨ 9999 < y ∨ m < 1 ∨ 12 < m) : jlenM y m = 0 := by unfold jlenM; rw [if_pos h]
theorem jlenM_in {y m : Int} (y0 : 1 ≤ y) (y1 : y ≤ 9999) (m0 : 1 ≤ m) (m1 : m ≤ 12) : 28 ≤ jlenM y m ∧ jlenM y m ≤ 31 := by
  have := jlp_01 y
  unfold jlenM; rw [if_neg (by omega)]; split <;> (try split) <;> omega
theorem jlenM_pos {y m : Int} (h : 0 < jlenM y m) : 1 ≤ y ∧ y ≤ 9999 ∧ 1 ≤ m ∧ m ≤ 12 := by
  by_cases k : y < 1 ∨ 9999 < y ∨ m < 1 ∨ 12 < m
  · rw [jlenM_out k] at h; omega
  · omega
theorem jvld_iff {y m d : Int} : jvld y m d = true ↔ 1 ≤ d ∧ d ≤ jlenM y m := by unfold jvld; simp
theorem jvld_bd {y m d : Int} (h : jvld y m d = true) : 1 ≤ y ∧ y ≤ 9999 ∧ 1 ≤ m ∧ m ≤ 12 ∧ 1 ≤ d ∧ d ≤ 31 := by
  have k := jvld_iff.1 h
  have p := jlenM_pos (show 0 < jlenM y m by omega)
  have l := jlenM_in p.1 p.2.1 p.2.2.1 p.2.2.2
  omega
theorem jcum_succ {y m : Int} (y0 : 1 ≤ y) (y1 : y ≤ 9999) (m0 : 1 ≤ m) (m1 : m ≤ 12) : jcum y (m + 1) = jcum y m + jlenM y m := by
  have hn : ¬ (y < 1 ∨ 9999 < y ∨ m < 1 ∨ 12 < m) := by omega
  unfold jlenM
  rw [if_neg hn]
  rcases month_cases m0 m1 with rfl | rfl | rfl | rfl | rfl | rfl | rfl | rfl | rfl | rfl | rfl | rfl <;> simp [jcum] <;> omega
theorem jcum_one (y : Int) : jcum y 1 = 0 := by simp [jcum]
theorem jcum_end (y : Int) : jcum y 13 = 365 + jlp y := by simp [jcum]
theorem jcum_mono {y : Int} (y0 : 1 ≤ y) (y1 : y ≤ 9999) : ∀ (k : Nat) (m : Int), 1 ≤ m → m + k ≤ 13 → jcum y m ≤ jcum y (m + k) := by
  intro k
  induction k with
  | zero => intro m _ _; simp
  | succ k ih =>
    intro m m0 m1
    have a := ih m m0 (by omega)
    have b := jcum_succ y0 y1 (m := m + k) (by omega) (by omega)
    have c := jlenM_in y0 y1 (m := m + k) (by omega) (by omega)
    rw [show m + ((k + 1 : Nat) : Int) = m + (k : Int) + 1 by omega]
    omega
theorem jcum_bd {y m : Int} (y0 : 1 ≤ y) (y1 : y ≤ 9999) (m0 : 1 ≤ m) (m1 : m ≤ 13) : 0 ≤ jcum y m ∧ jcum y m ≤ 366 := by
  have a := jcum_mono y0 y1 (m - 1).toNat 1 (by omega) (by omega)
  have b := jcum_mono y0 y1 (13 - m).toNat m m0 (by omega)
  rw [show (1 : Int) + ((m - 1).toNat : Int) = m by omega, jcum_one] at a
  rw [show m + ((13 - m).toNat : Int) = 13 by omega, jcum_end] at b
  have := jlp_01 y
  omega
theorem jfirst_mono : ∀ (k : Nat) (y : Int), 1 ≤ y → y + k ≤ 10000 → jfirst y + 365 * k ≤ jfirst (y + k) := by
  intro k
  induction k with
  | zero => intro y _ _; simp
  | succ k ih =>
    intro y y0 y1
    have a := ih y y0 (by omega)
    have b := jfirst_succ (y := y + k) (by omega) (by omega)
    have c := jlp_01 (y + k)
    rw [show y + ((k + 1 : Nat) : Int) = y + (k : Int) + 1 by omega]
    omega
theorem jfirst_le {y z : Int} (y0 : 1 ≤ y) (h : y ≤ z) (z1 : z ≤ 10000) : jfirst y + 365 * (z - y) ≤ jfirst z := by
  have a := jfirst_mono (z - y).toNat y y0 (by omega)
  rw [show y + ((z - y).toNat : Int) = z by omega] at a
  omega
theorem jday_in {y m d : Int} (h : jvld y m d = true) : jfirst y ≤ jdayN y m d ∧ jdayN y m d < jfirst (y + 1) ∧ jdayN y m d = jfirst y + jcum y m + d - 1 := by
  obtain ⟨y0, y1, m0, m1, d0, d1⟩ := jvld_bd h
  have k := jvld_iff.1 h
  have a := jcum_succ y0 y1 m0 m1
  have b := jcum_bd y0 y1 m0 (by omega)
  have c := jcum_mono y0 y1 (12 - m).toNat (m + 1) (by omega) (by omega)
  rw [show m + 1 + ((12 - m).toNat : Int) = 13 by omega, jcum_end] at c
  have e := jfirst_succ y0 y1
  unfold jdayN
  omega
theorem jday_inj {y m d y' m' d' : Int} (h : jvld y m d = true) (h' : jvld y' m' d' = true) (e : jdayN y m d = jdayN y' m' d') : y = y' ∧ m = m' ∧ d = d' := by
  obtain ⟨y0, y1, m0, m1, d0, d1⟩ := jvld_bd h
  obtain ⟨y0', y1', m0', m1', d0', d1'⟩ := jvld_bd h'
  have a := jday_in h
  have a' := jday_in h'
  have hy : y = y' := by
    rcases Int.lt_or_le y y' with z | z
    · have := jfirst_le (y := y + 1) (z := y') (by omega) (by omega) (by omega); omega
    · rcases Int.lt_or_le y' y with z' | z'
      · have := jfirst_le (y := y' + 1) (z := y) (by omega) (by omega) (by omega); omega
      · omega
  subst hy
  have k := jvld_iff.1 h
  have k' := jvld_iff.1 h'
  have hm : m = m' := by
    rcases Int.lt_or_le m m' with z | z
    · have s := jcum_succ y0 y1 m0 m1
      have := jcum_mono y0 y1 (m' - (m + 1)).toNat (m + 1) (by omega) (by omega)
      rw [show m + 1 + ((m' - (m + 1)).toNat : Int) = m' by omega] at this
      omega
    · rcases Int.lt_or_le m' m with z' | z'
      · have s := jcum_succ y0 y1 m0' m1'
        have := jcum_mono y0 y1 (m - (m' + 1)).toNat (m' + 1) (by omega) (by omega)
        rw [show m' + 1 + ((m - (m' + 1)).toNat : Int) = m by omega] at this
        omega
      · omega
  subst hm
  omega
theorem jyear_of {n : Int} (h0 : -719164 ≤ n) : ∀ k : Nat, k ≤ 9999 → n < jfirst (1 + k) → ∃ y, 1 ≤ y ∧ y ≤ 9999 ∧ jfirst y ≤ n ∧ n < jfirst (y + 1) := by
  intro k
  induction k with
  | zero => intro _ h; rw [show (1 : Int) + ((0 : Nat) : Int) = 1 by omega, jfirst_one] at h; omega
  | succ k ih =>
    intro hk h
    by_cases c : n < jfirst (1 + k)
    · exact ih (by omega) c
    · exact ⟨1 + k, by omega, by omega, by omega, by rw [show (1 : Int) + (k : Int) + 1 = 1 + ((k + 1 : Nat) : Int) by omega]; exact h⟩
theorem jmonth_of {y x : Int} (h0 : 0 ≤ x) : ∀ k : Nat, k ≤ 12 → x < jcum y (1 + k) → ∃ m, 1 ≤ m ∧ m ≤ 12 ∧ jcum y m ≤ x ∧ x < jcum y (m + 1) := by
  intro k
  induction k with
  | zero => intro _ h; rw [show (1 : Int) + ((0 : Nat) : Int) = 1 by omega, jcum_one] at h; omega
  | succ k ih =>
    intro hk h
    by_cases c : x < jcum y (1 + k)
    · exact ih (by omega) c
    · exact ⟨1 + k, by omega, by omega, by omega, by rw [show (1 : Int) + (k : Int) + 1 = 1 + ((k + 1 : Nat) : Int) by omega]; exact h⟩
theorem jdate_of {n : Int} (h0 : -719164 ≤ n) (h1 : n < 2932970) : ∃ y m d, jvld y m d = true ∧ jdayN y m d = n := by
  obtain ⟨y, y0, y1, a, b⟩ := jyear_of h0 9999 (by omega) (by rw [show (1 : Int) + ((9999 : Nat) : Int) = 10000 by omega, jfirst_last]; exact h1)
  have s := jfirst_succ y0 y1
  obtain ⟨m, m0, m1, c, d⟩ := jmonth_of (x := n - jfirst y) (y := y) (by omega) 12 (by omega) (by rw [show (1 : Int) + ((12 : Nat) : Int) = 13 by omega, jcum_end]; omega)
  have k := jcum_succ y0 y1 m0 m1
  refine ⟨y, m, n - jfirst y - jcum y m + 1, jvld_iff.2 ⟨by omega, by omega⟩, ?_⟩
  unfold jdayN; omega
theorem jvld_split {y m d : Int} : jvld y m d = (decide (1 ≤ d) && decide (d ≤ jlenM y m)) := by unfold jvld; simp
theorem jcum_late {y m : Int} (m0 : 3 ≤ m) (m1 : m ≤ 12) : jcum y m = 59 + jlp y + (153 * (m - 3) + 2) / 5 := by
  have h : m = 3 ∨ m = 4 ∨ m = 5 ∨ m = 6 ∨ m = 7 ∨ m = 8 ∨ m = 9 ∨ m = 10 ∨ m = 11 ∨ m = 12 := by omega
  rcases h with rfl | rfl | rfl | rfl | rfl | rfl | rfl | rfl | rfl | rfl <;> simp [jcum] <;> omega
theorem jcum_early {y m : Int} (m0 : 1 ≤ m) (m1 : m ≤ 2) : jcum y m = (153 * (m + 9) + 2) / 5 - 306 := by
  have h : m = 1 ∨ m = 2 := by omega
  rcases h with rfl | rfl <;> simp [jcum]
theorem jday_first {y : Int} (y0 : 1 ≤ y) (y1 : y ≤ 9999) : jvld y 1 1 = true ∧ jdayN y 1 1 = jfirst y := by
  refine ⟨jvld_iff.2 ⟨by omega, ?_⟩, ?_⟩
  · have := jlenM_in y0 y1 (m := 1) (by omega) (by omega); omega
  · unfold jdayN; rw [jcum_one]; omega
theorem jnext_in {y m d : Int} (h : jvld y m d = true) (k : d < jlenM y m) : jvld y m (d + 1) = true ∧ jdayN y m (d + 1) = jdayN y m d + 1 := by
  have v := jvld_iff.1 h
  have h' : jvld y m (d + 1) = true := jvld_iff.2 ⟨by omega, by omega⟩
  exact ⟨h', by unfold jdayN; omega⟩
theorem jnext_month {y m d : Int} (h : jvld y m d = true) (k : d = jlenM y m) (hm : m < 12) : jvld y (m + 1) 1 = true ∧ jdayN y (m + 1) 1 = jdayN y m d + 1 := by
  obtain ⟨y0, y1, m0, m1, d0, d1⟩ := jvld_bd h
  have l := jlenM_in y0 y1 (m := m + 1) (by omega) (by omega)
  have h' : jvld y (m + 1) 1 = true := jvld_iff.2 ⟨by omega, by omega⟩
  have s := jcum_succ y0 y1 m0 m1
  exact ⟨h', by unfold jdayN; omega⟩
theorem jnext_year {y m d : Int} (h : jvld y m d = true) (k : d = jlenM y m) (hm : m = 12) (hy : y < 9999) : jvld (y + 1) 1 1 = true ∧ jdayN (y + 1) 1 1 = jdayN y m d + 1 := by
  obtain ⟨y0, y1, m0, m1, d0, d1⟩ := jvld_bd h
  have f := jday_first (y := y + 1) (by omega) (by omega)
  have s := jcum_succ y0 y1 m0 m1
  subst hm
  have e : jcum y (12 + 1) = 365 + jlp y := jcum_end y
  have g := jfirst_succ y0 y1
  exact ⟨f.1, by rw [f.2]; unfold jdayN; omega⟩
theorem jday_lt {y m d y' m' d' : Int} (h : jvld y m d = true) (h' : jvld y' m' d' = true) (k : y < y' ∨ y = y' ∧ (m < m' ∨ m = m' ∧ d < d')) : jdayN y m d < jdayN y' m' d' := by
  obtain ⟨y0, y1, m0, m1, d0, d1⟩ := jvld_bd h
  obtain ⟨y0', y1', m0', m1', d0', d1'⟩ := jvld_bd h'
  have a := jday_in h
  have b := jday_in h'
  rcases k with k | ⟨rfl, k | ⟨rfl, k⟩⟩
  · have f := jfirst_le (y := y + 1) (z := y') (by omega) (by omega) (by omega); omega
  · have s := jcum_succ y0 y1 m0 m1
    have mo := jcum_mono y0 y1 (m' - (m + 1)).toNat (m + 1) (by omega) (by omega)
    rw [show m + 1 + ((m' - (m + 1)).toNat : Int) = m' by omega] at mo
    have v := jvld_iff.1 h
    omega
  · omega
/-- The count from March. -/
theorem jmarch_day {y m d yy mm : Int} (h : jvld y m d = true) (hm : m - 3 < 0 ∧ yy = y - 1 ∧ mm = m - 3 + 12 ∨ 0 ≤ m - 3 ∧ yy = y ∧ mm = m - 3) :
    -719470 + 365 * yy + yy / 4 + (153 * mm + 2) / 5 + d - 1 = jdayN y m d := by
  obtain ⟨y0, y1, m0, m1, d0, d1⟩ := jvld_bd h
  unfold jdayN
  rcases hm with ⟨q, rfl, rfl⟩ | ⟨q, rfl, rfl⟩
  · rw [jcum_early m0 (by omega), show m - 3 + 12 = m + 9 by omega]; unfold jfirst; omega
  · have s := jfirst_succ y0 y1
    rw [jcum_late (by omega) m1]; unfold jfirst at *; omega
/-- A day's year and its number in the year, both counted from March. -/
structure JParts (n yy r : Int) : Prop where
  sum : 365 * yy + yy / 4 + r = n + 719470
  r0 : 0 ≤ r
  r1 : r ≤ 364 ∨ r = 365 ∧ yy % 4 = 3
theorem jparts_quot {n q x k yy r : Int} (hq : (n + 719470) / 1461 = q) (hx : (n + 719470) % 1461 = x) (hk : min (x / 365) 3 = k) (hy : yy = 4 * q + k) (hr : r = x - 365 * k) : JParts n yy r := by
  rw [Int.min_def] at hk
  split at hk <;> exact ⟨by omega, by omega, by omega⟩
theorem jparts_guess {n yy r : Int} (hy : yy = (4 * (n + 719470) + 3) / 1461) (hr : r = n + 719470 - (365 * yy + yy / 4)) : JParts n yy r := ⟨by omega, by omega, by omega⟩
theorem jparts_uniq {n yy r yy' r' : Int} (h : JParts n yy r) (h' : JParts n yy' r') : yy = yy' ∧ r = r' := by
  have a := h.sum; have b := h.r0; have c := h.r1
  have a' := h'.sum; have b' := h'.r0; have c' := h'.r1
  rcases Int.lt_trichotomy yy yy' with k | k | k
  · have q : (yy + 1) / 4 ≤ yy' / 4 := by omega
    rcases c with c | c <;> omega
  · subst k; omega
  · have q : (yy' + 1) / 4 ≤ yy / 4 := by omega
    rcases c' with c' | c' <;> omega
theorem jparts_bd {n yy r mm : Int} (p : JParts n yy r) (hm : mm = (5 * r + 2) / 153) (h0 : -719162 ≤ n) (h1 : n < 2932897) : 0 ≤ yy ∧ yy ≤ 9999 ∧ 0 ≤ r ∧ r ≤ 365 ∧ 0 ≤ mm ∧ mm ≤ 11 ∧ (yy = 0 → 10 ≤ mm) ∧ (yy = 9999 → mm ≤ 9) := by
  have a := p.sum; have b := p.r0; have c := p.r1
  omega
theorem jparts_late {n yy r mm : Int} (p : JParts n yy r) (hm : mm = (5 * r + 2) / 153) (h0 : -719162 ≤ n) (h1 : n < 2932897) (k : mm ≤ 9) :
    jvld yy (mm + 3) (r - (153 * mm + 2) / 5 + 1) = true ∧ jdayN yy (mm + 3) (r - (153 * mm + 2) / 5 + 1) = n := by
  obtain ⟨y0, y1, r0, r1, m0, m1, y2, y3⟩ := jparts_bd p hm h0 h1
  have a := p.sum
  have l := month_late m0 k hm
  have y0' : 1 ≤ yy := by omega
  refine ⟨jvld_iff.2 ⟨l.1, ?_⟩, ?_⟩
  · unfold jlenM; rw [if_neg (by omega), if_neg (by omega)]; exact l.2
  · unfold jdayN
    rw [jcum_late (by omega) (by omega), show mm + 3 - 3 = mm by omega]
    have s := jlp_eq y0' y1
    unfold jfirst
    omega
theorem jparts_early {n yy r mm : Int} (p : JParts n yy r) (hm : mm = (5 * r + 2) / 153) (h0 : -719162 ≤ n) (h1 : n < 2932897) (k : 10 ≤ mm) :
    jvld (yy + 1) (mm - 9) (r - (153 * mm + 2) / 5 + 1) = true ∧ jdayN (yy + 1) (mm - 9) (r - (153 * mm + 2) / 5 + 1) = n := by
  obtain ⟨y0, y1, r0, r1, m0, m1, y2, y3⟩ := jparts_bd p hm h0 h1
  have a := p.sum
  have c := p.r1
  have y1' : yy + 1 ≤ 9999 := by omega
  have s := jlp_eq (y := yy + 1) (by omega) y1'
  refine ⟨jvld_iff.2 ?_, ?_⟩
  · have h : mm = 10 ∨ mm = 11 := by omega
    rcases h with rfl | rfl
    · unfold jlenM; rw [if_neg (by omega), if_neg (by omega), if_neg (by omega)]; omega
    · unfold jlenM; rw [if_neg (by omega), if_pos (by omega)]; omega
  · unfold jdayN
    rw [jcum_early (by omega) (by omega), show mm - 9 + 9 = mm by omega]
    unfold jfirst
    omega
/-- A day's year, counted from January in cycles of four years. -/
theorem jyear_quot {n q x k y : Int} (hq : (n + 719164) / 1461 = q) (hx : (n + 719164) % 1461 = x) (hk : min (x / 365) 3 = k) (hy : y = 4 * q + 1 + k) : jfirst y = n - (x - 365 * k) ∧ 0 ≤ x - 365 * k ∧ x - 365 * k ≤ 365 ∧ (x - 365 * k = 365 → y % 4 = 0) := by
  unfold jfirst
  rw [Int.min_def] at hk
  split at hk <;> omega
theorem jyear_bd {n q x k y : Int} (h0 : -719162 ≤ n) (h1 : n < 2932897) (hq : (n + 719164) / 1461 = q) (hx : (n + 719164) % 1461 = x) (hk : min (x / 365) 3 = k) (hy : y = 4 * q + 1 + k) : 1 ≤ y ∧ y ≤ 9999 ∧ jfirst y ≤ n ∧ n < jfirst (y + 1) := by
  have j := jyear_quot hq hx hk hy
  have b : 1 ≤ y ∧ y ≤ 9999 := by rw [Int.min_def] at hk; split at hk <;> omega
  have s := jfirst_succ b.1 b.2
  have e := jlp_eq b.1 b.2
  omega
/-- The month of a day, found from January on. -/
theorem jmonth_at {y m n : Int} (y0 : 1 ≤ y) (y1 : y ≤ 9999) (m0 : 1 ≤ m) (m1 : m ≤ 12) (h0 : jfirst y + jcum y m ≤ n) (h1 : n < jfirst y + jcum y m + jlenM y m) :
    jvld y m (n - (jfirst y + jcum y m) + 1) = true ∧ jdayN y m (n - (jfirst y + jcum y m) + 1) = n :=
  ⟨jvld_iff.2 ⟨by omega, by omega⟩, by unfold jdayN; omega⟩
/-- A Gregorian date is a Julian one. -/
theorem lp_le {y : Int} (y0 : 1 ≤ y) (y1 : y ≤ 9999) : lp y ≤ jlp y := by
  have a := lp_eq y0 y1; have b := jlp_eq y0 y1; omega
theorem lenM_jlenM {y m : Int} : lenM y m = if m = 2 ∧ jlenM y m ≠ 0 then 28 + lp y else jlenM y m := by
  unfold lenM jlenM
  by_cases h : y < 1 ∨ 9999 < y ∨ m < 1 ∨ 12 < m
  · rw [if_pos h, if_pos h, if_neg (by omega)]
  · rw [if_neg h, if_neg h]
    have := jlp_01 y
    by_cases k : m = 2
    · rw [if_pos k, if_pos k, if_pos (by omega)]
    · have z : ∀ x : Int, ¬ (m = 2 ∧ x ≠ 0) := fun x q => k q.1
      rw [if_neg k, if_neg k, if_neg (z _)]
theorem vld_jvld {y m d : Int} (h : vld y m d = true) : jvld y m d = true := by
  obtain ⟨y0, y1, m0, m1, d0, d1⟩ := vld_bd h
  have v := vld_iff.1 h
  have l := lp_le y0 y1
  have e := lenM_jlenM (y := y) (m := m)
  refine jvld_iff.2 ⟨d0, ?_⟩
  split at e
  · rename_i k
    have : jlenM y m = 28 + jlp y := by unfold jlenM; rw [if_neg (by omega), if_pos k.1]
    omega
  · omega
theorem cum_jcum_early {y m : Int} (m1 : m ≤ 2) : cum y m = jcum y m := by
  unfold cum jcum
  by_cases h : m ≤ 1
  · rw [if_pos h, if_pos h]
  · rw [if_neg h, if_neg h, if_pos (by omega), if_pos (by omega)]
theorem cum_jcum_late {y m : Int} (m0 : 3 ≤ m) (m1 : m ≤ 12) : cum y m = jcum y m - jlp y + lp y := by
  rw [cum_late m0 m1, jcum_late m0 m1]; omega
/-- The offset, of a year that begins in March. -/
def offN (yy : Int) : Int := yy / 100 - yy / 400 - 2
theorem jday_off {y m d yy : Int} (h : vld y m d = true) (hm : m < 3 ∧ yy = y - 1 ∨ 3 ≤ m ∧ yy = y) : jdayN y m d = dayN y m d + offN yy := by
  obtain ⟨y0, y1, m0, m1, d0, d1⟩ := vld_bd h
  unfold dayN jdayN offN
  rcases hm with ⟨k, rfl⟩ | ⟨k, rfl⟩
  · rw [cum_jcum_early (by omega)]; unfold first jfirst; omega
  · rw [cum_jcum_late k m1]
    have a := first_succ y0 y1
    have b := jfirst_succ y0 y1
    unfold first at *
    unfold jfirst at *
    omega
theorem offN_bd {yy : Int} (h0 : 0 ≤ yy) (h1 : yy ≤ 9999) : -2 ≤ offN yy ∧ offN yy ≤ 73 := by unfold offN; omega
theorem near_year {n y : Int} (y0 : 1 ≤ y) (y1 : y ≤ 9999) (h1 : n < jfirst (y + 1)) : n < first (y + 2) := by
  unfold first; unfold jfirst at h1; omega
/-- MixedDay: the day and the error number. -/
def mixN (f y m d : Int) : Int :=
  if f < -719162 ∨ 2932897 < f ∨ jvld y m d = false then 0
  else if -719162 ≤ jdayN y m d ∧ jdayN y m d < 2932897 ∧ jdayN y m d < f then jdayN y m d
  else if vld y m d = true ∧ f ≤ dayN y m d then dayN y m d else 0
def mixE (f y m d : Int) : Int :=
  if f < -719162 ∨ 2932897 < f ∨ jvld y m d = false then 1
  else if -719162 ≤ jdayN y m d ∧ jdayN y m d < 2932897 ∧ jdayN y m d < f then 0
  else if vld y m d = true ∧ f ≤ dayN y m d then 0 else 7
theorem mix_bad {f y m d : Int} (h : f < -719162 ∨ 2932897 < f ∨ jvld y m d = false) : mixN f y m d = 0 ∧ mixE f y m d = 1 := by
  unfold mixN mixE; rw [if_pos h, if_pos h]; exact ⟨rfl, rfl⟩
theorem mix_julian {f y m d : Int} (f0 : -719162 ≤ f) (f1 : f ≤ 2932897) (h : jvld y m d = true) (h0 : -719162 ≤ jdayN y m d) (h2 : jdayN y m d < f) :
    mixN f y m d = jdayN y m d ∧ mixE f y m d = 0 := by
  have c : ¬ (f < -719162 ∨ 2932897 < f ∨ jvld y m d = false) := by rw [h]; simp; omega
  have k : -719162 ≤ jdayN y m d ∧ jdayN y m d < 2932897 ∧ jdayN y m d < f := by omega
  unfold mixN mixE; rw [if_neg c, if_neg c, if_pos k, if_pos k]; exact ⟨rfl, rfl⟩
theorem mix_greg {f y m d : Int} (f0 : -719162 ≤ f) (f1 : f ≤ 2932897) (h : vld y m d = true) (h0 : ¬ (-719162 ≤ jdayN y m d ∧ jdayN y m d < f)) (h2 : f ≤ dayN y m d) :
    mixN f y m d = dayN y m d ∧ mixE f y m d = 0 := by
  have c : ¬ (f < -719162 ∨ 2932897 < f ∨ jvld y m d = false) := by rw [vld_jvld h]; simp; omega
  have k : ¬ (-719162 ≤ jdayN y m d ∧ jdayN y m d < 2932897 ∧ jdayN y m d < f) := by omega
  unfold mixN mixE; rw [if_neg c, if_neg c, if_neg k, if_neg k, if_pos ⟨h, h2⟩, if_pos ⟨h, h2⟩]; exact ⟨rfl, rfl⟩
theorem mix_none {f y m d : Int} (f0 : -719162 ≤ f) (f1 : f ≤ 2932897) (h : jvld y m d = true) (h0 : ¬ (-719162 ≤ jdayN y m d ∧ jdayN y m d < f)) (h2 : vld y m d = false ∨ dayN y m d < f) :
    mixN f y m d = 0 ∧ mixE f y m d = 7 := by
  have c : ¬ (f < -719162 ∨ 2932897 < f ∨ jvld y m d = false) := by rw [h]; simp; omega
  have k : ¬ (-719162 ≤ jdayN y m d ∧ jdayN y m d < 2932897 ∧ jdayN y m d < f) := by omega
  have k2 : ¬ (vld y m d = true ∧ f ≤ dayN y m d) := by
    rintro ⟨a, b⟩
    rcases h2 with z | z
    · rw [a] at z; exact absurd z (by simp)
    · omega
  unfold mixN mixE; rw [if_neg c, if_neg c, if_neg k, if_neg k, if_neg k2, if_neg k2]; exact ⟨rfl, rfl⟩
/-- What MixedDay finds for a Gregorian date behind the reform: its day, or an earlier one where the offset is negative. -/
theorem mix_finds {f y m d yy : Int} (f0 : -719162 ≤ f) (f1 : f ≤ 2932897) (h : vld y m d = true) (hm : m < 3 ∧ yy = y - 1 ∨ 3 ≤ m ∧ yy = y) (h2 : f ≤ dayN y m d) :
    mixE f y m d = 0 ∧ (mixN f y m d = dayN y m d ∨ mixN f y m d = jdayN y m d ∧ jdayN y m d < f ∧ -719162 ≤ jdayN y m d ∧ jdayN y m d < dayN y m d ∧ offN yy < 0) := by
  have o := jday_off h hm
  by_cases k : -719162 ≤ jdayN y m d ∧ jdayN y m d < f
  · have a := mix_julian f0 f1 (vld_jvld h) k.1 k.2
    exact ⟨a.2, Or.inr ⟨a.1, k.2, k.1, by omega, by omega⟩⟩
  · have a := mix_greg f0 f1 h k h2
    exact ⟨a.2, Or.inl a.1⟩
/-- Four years later. -/
theorem jlp_later {y : Int} (h0 : 1 ≤ y) (h1 : y + 4 ≤ 9999) : jlp (y + 4) = jlp y := by
  have a := jlp_eq h0 (show y ≤ 9999 by omega)
  have b := jlp_eq (show 1 ≤ y + 4 by omega) h1
  omega
theorem jdate_later {y m d : Int} (h : jvld y m d = true) (h1 : y + 4 ≤ 9999) : jvld (y + 4) m d = true ∧ jdayN (y + 4) m d = jdayN y m d + 1461 := by
  obtain ⟨y0, y1, m0, m1, d0, d1⟩ := jvld_bd h
  have v := jvld_iff.1 h
  have a := jlp_later y0 h1
  refine ⟨jvld_iff.2 ⟨d0, ?_⟩, ?_⟩
  · unfold jlenM at *; rw [a, if_neg (by omega)]; rw [if_neg (show ¬ (y < 1 ∨ 9999 < y ∨ m < 1 ∨ 12 < m) by omega)] at v; exact v.2
  · unfold jdayN jcum jfirst; rw [a]; omega
theorem jvld_out {y m d : Int} (h : y < 1 ∨ 9999 < y) : jvld y m d = false := by
  cases k : jvld y m d
  · rfl
  · have := jvld_bd k; omega
/-- The day number and the weekday. -/
theorem jnumber {n : Int} (h0 : -719162 ≤ n) (h1 : n < 2932897) : (n + 2440588) % 7 + 1 = wkd n := by
  unfold wkd; rw [if_neg (by omega)]; omega
end Go.Proofs.YtocimbiidloofaaGreatDoor

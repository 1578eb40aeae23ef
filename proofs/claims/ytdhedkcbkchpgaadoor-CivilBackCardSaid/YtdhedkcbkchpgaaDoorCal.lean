/- Plain facts on the calendar: years, months, days: no program is mentioned. -/
import Derived.WalkKit
namespace Go.Proofs.YtdhedkcbkchpgaaDoor
open Go.RowKit

/-- A year from 1 to 9999 is a leap year. -/
def leapB (y : Int) : Bool := decide (1 ≤ y ∧ y ≤ 9999 ∧ (y % 400 = 0 ∨ (y % 4 = 0 ∧ y % 100 ≠ 0)))
def lp (y : Int) : Int := if leapB y then 1 else 0
/-- The length of a month; 0 if there is none. -/
def lenM (y m : Int) : Int :=
  if y < 1 ∨ 9999 < y ∨ m < 1 ∨ 12 < m then 0
  else if m = 2 then 28 + lp y
  else if m = 4 ∨ m = 6 ∨ m = 9 ∨ m = 11 then 30 else 31
/-- Is a date valid? -/
def vld (y m d : Int) : Bool := decide (1 ≤ d ∧ d ≤ lenM y m)
/-- The day of the first of January. -/
def first (y : Int) : Int := -719162 + 365 * (y - 1) + (y - 1) / 4 - (y - 1) / 100 + (y - 1) / 400
/-- The days of a year before a month. -/
def cum (y m : Int) : Int :=
  if m ≤ 1 then 0 else if m = 2 then 31 else if m = 3 then 59 + lp y else if m = 4 then 90 + lp y else if m = 5 then 120 + lp y else if m = 6 then 151 + lp y
  else if m = 7 then 181 + lp y else if m = 8 then 212 + lp y else if m = 9 then 243 + lp y else if m = 10 then 273 + lp y else if m = 11 then 304 + lp y else if m = 12 then 334 + lp y else 365 + lp y
/-- The day of a date. -/
def dayN (y m d : Int) : Int := first y + cum y m + d - 1
theorem leapB_iff {y : Int} : leapB y = true ↔ 1 ≤ y ∧ y ≤ 9999 ∧ (y % 400 = 0 ∨ (y % 4 = 0 ∧ y % 100 ≠ 0)) := by unfold leapB; simp
theorem lp_01 (y : Int) : 0 ≤ lp y ∧ lp y ≤ 1 := by unfold lp; split <;> omega
theorem lp_eq {y : Int} (h0 : 1 ≤ y) (h1 : y ≤ 9999) : (y % 400 = 0 ∨ (y % 4 = 0 ∧ y % 100 ≠ 0)) ∧ lp y = 1 ∨ ¬ (y % 400 = 0 ∨ (y % 4 = 0 ∧ y % 100 ≠ 0)) ∧ lp y = 0 := by
  unfold lp
  by_cases h : leapB y = true
  · left; rw [if_pos h]; exact ⟨(leapB_iff.1 h).2.2, rfl⟩
  · right; rw [if_neg h]; exact ⟨fun k => h (leapB_iff.2 ⟨h0, h1, k⟩), rfl⟩
theorem first_succ {y : Int} (h0 : 1 ≤ y) (h1 : y ≤ 9999) : first (y + 1) = first y + 365 + lp y := by
  have := lp_eq h0 h1
  unfold first
  omega
theorem lenM_out {y m : Int} (h : y < 1 ∨ 9999 < y ∨ m < 1 ∨ 12 < m) : lenM y m = 0 := by unfold lenM; rw [if_pos h]
theorem lenM_in {y m : Int} (y0 : 1 ≤ y) (y1 : y ≤ 9999) (m0 : 1 ≤ m) (m1 : m ≤ 12) : 28 ≤ lenM y m ∧ lenM y m ≤ 31 := by
  have := lp_01 y
  unfold lenM; rw [if_neg (by omega)]; split <;> (try split) <;> omega
theorem lenM_pos {y m : Int} (h : 0 < lenM y m) : 1 ≤ y ∧ y ≤ 9999 ∧ 1 ≤ m ∧ m ≤ 12 := by
  by_cases k : y < 1 ∨ 9999 < y ∨ m < 1 ∨ 12 < m
  · rw [lenM_out k] at h; omega
  · omega
theorem vld_iff {y m d : Int} : vld y m d = true ↔ 1 ≤ d ∧ d ≤ lenM y m := by unfold vld; simp
theorem vld_bd {y m d : Int} (h : vld y m d = true) : 1 ≤ y ∧ y ≤ 9999 ∧ 1 ≤ m ∧ m ≤ 12 ∧ 1 ≤ d ∧ d ≤ 31 := by
  have k := vld_iff.1 h
  have p := lenM_pos (show 0 < lenM y m by omega)
  have l := lenM_in p.1 p.2.1 p.2.2.1 p.2.2.2
  omega
theorem month_cases {m : Int} (h0 : 1 ≤ m) (h1 : m ≤ 12) : m = 1 ∨ m = 2 ∨ m = 3 ∨ m = 4 ∨ m = 5 ∨ m = 6 ∨ m = 7 ∨ m = 8 ∨ m = 9 ∨ m = 10 ∨ m = 11 ∨ m = 12 := by omega
theorem cum_succ {y m : Int} (y0 : 1 ≤ y) (y1 : y ≤ 9999) (m0 : 1 ≤ m) (m1 : m ≤ 12) : cum y (m + 1) = cum y m + lenM y m := by
  have hn : ¬ (y < 1 ∨ 9999 < y ∨ m < 1 ∨ 12 < m) := by omega
  unfold lenM
  rw [if_neg hn]
  rcases month_cases m0 m1 with rfl | rfl | rfl | rfl | rfl | rfl | rfl | rfl | rfl | rfl | rfl | rfl <;> simp [cum] <;> omega
theorem cum_one (y : Int) : cum y 1 = 0 := by simp [cum]
theorem cum_end (y : Int) : cum y 13 = 365 + lp y := by simp [cum]
theorem cum_mono {y : Int} (y0 : 1 ≤ y) (y1 : y ≤ 9999) : ∀ (k : Nat) (m : Int), 1 ≤ m → m + k ≤ 13 → cum y m ≤ cum y (m + k) := by
  intro k
  induction k with
  | zero => intro m _ _; simp
  | succ k ih =>
    intro m m0 m1
    have a := ih m m0 (by omega)
    have b := cum_succ y0 y1 (m := m + k) (by omega) (by omega)
    have c := lenM_in y0 y1 (m := m + k) (by omega) (by omega)
    rw [show m + ((k + 1 : Nat) : Int) = m + (k : Int) + 1 by omega]
    omega
theorem cum_bd {y m : Int} (y0 : 1 ≤ y) (y1 : y ≤ 9999) (m0 : 1 ≤ m) (m1 : m ≤ 13) : 0 ≤ cum y m ∧ cum y m ≤ 366 := by
  have a := cum_mono y0 y1 (m - 1).toNat 1 (by omega) (by omega)
  have b := cum_mono y0 y1 (13 - m).toNat m m0 (by omega)
  rw [show (1 : Int) + ((m - 1).toNat : Int) = m by omega, cum_one] at a
  rw [show m + ((13 - m).toNat : Int) = 13 by omega, cum_end] at b
  have := lp_01 y
  omega
theorem first_mono : ∀ (k : Nat) (y : Int), 1 ≤ y → y + k ≤ 10000 → first y + 365 * k ≤ first (y + k) := by
  intro k
  induction k with
  | zero => intro y _ _; simp
  | succ k ih =>
    intro y y0 y1
    have a := ih y y0 (by omega)
    have b := first_succ (y := y + k) (by omega) (by omega)
    have c := lp_01 (y + k)
    rw [show y + ((k + 1 : Nat) : Int) = y + (k : Int) + 1 by omega]
    omega
theorem first_le {y z : Int} (y0 : 1 ≤ y) (h : y ≤ z) (z1 : z ≤ 10000) : first y + 365 * (z - y) ≤ first z := by
  have a := first_mono (z - y).toNat y y0 (by omega)
  rw [show y + ((z - y).toNat : Int) = z by omega] at a
  omega
theorem first_one : first 1 = -719162 := by decide
theorem first_last : first 10000 = 2932897 := by decide
/-- A date lies in its year. -/
theorem day_in {y m d : Int} (h : vld y m d = true) : first y ≤ dayN y m d ∧ dayN y m d < first (y + 1) ∧ dayN y m d = first y + cum y m + d - 1 := by
  obtain ⟨y0, y1, m0, m1, d0, d1⟩ := vld_bd h
  have k := vld_iff.1 h
  have a := cum_succ y0 y1 m0 m1
  have b := cum_bd y0 y1 m0 (by omega)
  have c := cum_mono y0 y1 (12 - m).toNat (m + 1) (by omega) (by omega)
  rw [show m + 1 + ((12 - m).toNat : Int) = 13 by omega, cum_end] at c
  have e := first_succ y0 y1
  unfold dayN
  omega
theorem day_range {y m d : Int} (h : vld y m d = true) : -719162 ≤ dayN y m d ∧ dayN y m d < 2932897 := by
  obtain ⟨y0, y1, -⟩ := vld_bd h
  have a := day_in h
  have b := first_le (y := 1) (z := y) (by omega) y0 (by omega)
  have c := first_le (y := y + 1) (z := 10000) (by omega) (by omega) (by omega)
  rw [first_one] at b
  rw [first_last] at c
  omega
/-- Days and dates: one date a day. -/
theorem day_inj {y m d y' m' d' : Int} (h : vld y m d = true) (h' : vld y' m' d' = true) (e : dayN y m d = dayN y' m' d') : y = y' ∧ m = m' ∧ d = d' := by
  obtain ⟨y0, y1, m0, m1, d0, d1⟩ := vld_bd h
  obtain ⟨y0', y1', m0', m1', d0', d1'⟩ := vld_bd h'
  have a := day_in h
  have a' := day_in h'
  have hy : y = y' := by
    rcases Int.lt_or_le y y' with z | z
    · have := first_le (y := y + 1) (z := y') (by omega) (by omega) (by omega); omega
    · rcases Int.lt_or_le y' y with z' | z'
      · have := first_le (y := y' + 1) (z := y) (by omega) (by omega) (by omega); omega
      · omega
  subst hy
  have k := vld_iff.1 h
  have k' := vld_iff.1 h'
  have hm : m = m' := by
    rcases Int.lt_or_le m m' with z | z
    · have s := cum_succ y0 y1 m0 m1
      have := cum_mono y0 y1 (m' - (m + 1)).toNat (m + 1) (by omega) (by omega)
      rw [show m + 1 + ((m' - (m + 1)).toNat : Int) = m' by omega] at this
      omega
    · rcases Int.lt_or_le m' m with z' | z'
      · have s := cum_succ y0 y1 m0' m1'
        have := cum_mono y0 y1 (m - (m' + 1)).toNat (m' + 1) (by omega) (by omega)
        rw [show m' + 1 + ((m - (m' + 1)).toNat : Int) = m by omega] at this
        omega
      · omega
  subst hm
  omega
theorem year_of {n : Int} (h0 : -719162 ≤ n) : ∀ k : Nat, k ≤ 9999 → n < first (1 + k) → ∃ y, 1 ≤ y ∧ y ≤ 9999 ∧ first y ≤ n ∧ n < first (y + 1) := by
  intro k
  induction k with
  | zero => intro _ h; rw [show (1 : Int) + ((0 : Nat) : Int) = 1 by omega, first_one] at h; omega
  | succ k ih =>
    intro hk h
    by_cases c : n < first (1 + k)
    · exact ih (by omega) c
    · exact ⟨1 + k, by omega, by omega, by omega, by rw [show (1 : Int) + (k : Int) + 1 = 1 + ((k + 1 : Nat) : Int) by omega]; exact h⟩
theorem month_of {y x : Int} (h0 : 0 ≤ x) : ∀ k : Nat, k ≤ 12 → x < cum y (1 + k) → ∃ m, 1 ≤ m ∧ m ≤ 12 ∧ cum y m ≤ x ∧ x < cum y (m + 1) := by
  intro k
  induction k with
  | zero => intro _ h; rw [show (1 : Int) + ((0 : Nat) : Int) = 1 by omega, cum_one] at h; omega
  | succ k ih =>
    intro hk h
    by_cases c : x < cum y (1 + k)
    · exact ih (by omega) c
    · exact ⟨1 + k, by omega, by omega, by omega, by rw [show (1 : Int) + (k : Int) + 1 = 1 + ((k + 1 : Nat) : Int) by omega]; exact h⟩
/-- Each day has a date. -/
theorem date_of {n : Int} (h0 : -719162 ≤ n) (h1 : n < 2932897) : ∃ y m d, vld y m d = true ∧ dayN y m d = n := by
  obtain ⟨y, y0, y1, a, b⟩ := year_of h0 9999 (by omega) (by rw [show (1 : Int) + ((9999 : Nat) : Int) = 10000 by omega, first_last]; exact h1)
  have s := first_succ y0 y1
  obtain ⟨m, m0, m1, c, d⟩ := month_of (x := n - first y) (y := y) (by omega) 12 (by omega) (by rw [show (1 : Int) + ((12 : Nat) : Int) = 13 by omega, cum_end]; omega)
  have k := cum_succ y0 y1 m0 m1
  refine ⟨y, m, n - first y - cum y m + 1, vld_iff.2 ⟨by omega, by omega⟩, ?_⟩
  unfold dayN; omega
/-- The weekday of a day; 0 out of range. -/
def wkd (n : Int) : Int := if n < -719162 ∨ 2932897 ≤ n then 0 else (n + 719162) % 7 + 1
/-- The number of a day in its year; 0 for a date that is not valid. -/
def ydy (y m d : Int) : Int := if vld y m d then cum y m + d else 0
end Go.Proofs.YtdhedkcbkchpgaaDoor

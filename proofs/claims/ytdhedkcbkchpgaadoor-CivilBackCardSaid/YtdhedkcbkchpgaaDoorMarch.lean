/- Plain facts on the calendar that counts from March: no program is mentioned. -/
import Derived.Test.YtdhedkcbkchpgaaDoorCal
namespace Go.Proofs.YtdhedkcbkchpgaaDoor
open Go.RowKit

/-- The first of March of a year. -/
theorem march_one {yy c r : Int} (hc : (yy - 2000) / 400 = c) (hr : (yy - 2000) % 400 = r) : 11017 + c * 146097 + r * 365 + r / 4 - r / 100 = first (yy + 1) - 306 := by
  unfold first; omega
theorem cum_late {y m : Int} (m0 : 3 ≤ m) (m1 : m ≤ 12) : cum y m = 59 + lp y + (153 * (m - 3) + 2) / 5 := by
  have h : m = 3 ∨ m = 4 ∨ m = 5 ∨ m = 6 ∨ m = 7 ∨ m = 8 ∨ m = 9 ∨ m = 10 ∨ m = 11 ∨ m = 12 := by omega
  rcases h with rfl | rfl | rfl | rfl | rfl | rfl | rfl | rfl | rfl | rfl <;> simp [cum] <;> omega
theorem cum_early {y m : Int} (m0 : 1 ≤ m) (m1 : m ≤ 2) : cum y m = (153 * (m + 9) + 2) / 5 - 306 := by
  have h : m = 1 ∨ m = 2 := by omega
  rcases h with rfl | rfl <;> simp [cum]
/-- The day of a date, as the program computes it: 'yy' and 'mm' count from March. -/
theorem march_day {y m d yy mm c r : Int} (h : vld y m d = true) (hm : m - 3 < 0 ∧ yy = y - 1 ∧ mm = m - 3 + 12 ∨ 0 ≤ m - 3 ∧ yy = y ∧ mm = m - 3)
    (hc : (yy - 2000) / 400 = c) (hr : (yy - 2000) % 400 = r) :
    11017 + c * 146097 + r * 365 + r / 4 - r / 100 + (153 * mm + 2) / 5 + d - 1 = dayN y m d := by
  obtain ⟨y0, y1, m0, m1, d0, d1⟩ := vld_bd h
  rw [march_one hc hr]
  unfold dayN
  rcases hm with ⟨q, rfl, rfl⟩ | ⟨q, rfl, rfl⟩
  · rw [cum_early m0 (by omega), show m - 3 + 12 = m + 9 by omega, show y - 1 + 1 = y by omega]; omega
  · rw [cum_late (by omega) m1, first_succ y0 y1]; omega
/-- The bounds of the parts. -/
theorem march_bd {y yy m mm c r : Int} (y0 : 1 ≤ y) (y1 : y ≤ 9999) (m0 : 1 ≤ m) (m1 : m ≤ 12) (hm : m - 3 < 0 ∧ yy = y - 1 ∧ mm = m - 3 + 12 ∨ 0 ≤ m - 3 ∧ yy = y ∧ mm = m - 3)
    (hc : (yy - 2000) / 400 = c) (hr : (yy - 2000) % 400 = r) : -5 ≤ c ∧ c ≤ 20 ∧ 0 ≤ r ∧ r ≤ 399 ∧ 0 ≤ mm ∧ mm ≤ 11 ∧ -2000 ≤ yy - 2000 ∧ yy - 2000 ≤ 8000 := by omega
/-- The parts of a day in the calendar that counts from March. -/
structure Parts (n c a f o r3 mm : Int) : Prop where
  c0 : -5 ≤ c
  c1 : c ≤ 20
  a0 : 0 ≤ a
  a1 : a ≤ 3
  f0 : 0 ≤ f
  f1 : f ≤ 24
  o0 : 0 ≤ o
  o1 : o ≤ 3
  r0 : 0 ≤ r3
  r1 : r3 ≤ 364 ∨ r3 = 365 ∧ o = 3 ∧ (f ≤ 23 ∨ f = 24 ∧ a = 3)
  m0 : 0 ≤ mm
  m1 : mm ≤ 11
  hm : mm = (5 * r3 + 2) / 153
  sum : n = 11017 + 146097 * c + 36524 * a + 1461 * f + 365 * o + r3
/-- The parts that the program finds. -/
def pC (n : Int) : Int := (n - 11017) / 146097
def pR (n : Int) : Int := (n - 11017) % 146097
def pA (n : Int) : Int := min (pR n / 36524) 3
def pR1 (n : Int) : Int := pR n - pA n * 36524
def pF (n : Int) : Int := pR1 n / 1461
def pR2 (n : Int) : Int := pR1 n - pF n * 1461
def pO (n : Int) : Int := min (pR2 n / 365) 3
def pR3 (n : Int) : Int := pR2 n - pO n * 365
def pM (n : Int) : Int := (5 * pR3 n + 2) / 153
theorem pR_bd (n : Int) : 0 ≤ pR n ∧ pR n ≤ 146096 := by unfold pR; omega
theorem pA_bd (n : Int) : 0 ≤ pA n ∧ pA n ≤ 3 ∧ 0 ≤ pR1 n ∧ (pR1 n ≤ 36523 ∨ pR1 n = 36524 ∧ pA n = 3) := by
  have := pR_bd n
  unfold pR1 pA
  generalize pR n = r at *
  rw [Int.min_def]; split <;> omega
theorem pF_bd (n : Int) : 0 ≤ pF n ∧ pF n ≤ 24 ∧ 0 ≤ pR2 n ∧ pR2 n ≤ 1460 ∧ (pR2 n = 1460 → pF n = 24 → pA n = 3) := by
  have := pA_bd n
  unfold pR2 pF
  generalize pR1 n = r at *
  generalize pA n = a at *
  omega
theorem pO_bd (n : Int) : 0 ≤ pO n ∧ pO n ≤ 3 ∧ 0 ≤ pR3 n ∧ (pR3 n ≤ 364 ∨ pR3 n = 365 ∧ pO n = 3 ∧ (pF n ≤ 23 ∨ pF n = 24 ∧ pA n = 3)) := by
  have := pF_bd n
  unfold pR3 pO
  generalize pR2 n = r at *
  generalize pF n = f at *
  generalize pA n = a at *
  rw [Int.min_def]; split <;> omega
theorem parts_of {n : Int} (h0 : -719162 ≤ n) (h1 : n < 2932897) : Parts n (pC n) (pA n) (pF n) (pO n) (pR3 n) (pM n) := by
  have a := pA_bd n
  have f := pF_bd n
  have o := pO_bd n
  refine ⟨by unfold pC; omega, by unfold pC; omega, a.1, a.2.1, f.1, f.2.1, o.1, o.2.1, o.2.2.1, o.2.2.2, ?_, ?_, rfl, ?_⟩
  · unfold pM; omega
  · unfold pM; omega
  · have e3 : pR3 n = pR2 n - pO n * 365 := rfl
    have e2 : pR2 n = pR1 n - pF n * 1461 := rfl
    have e1 : pR1 n = pR n - pA n * 36524 := rfl
    have e0 : pR n = (n - 11017) % 146097 := rfl
    have ec : pC n = (n - 11017) / 146097 := rfl
    omega
/-- The first of January after the March year. -/
theorem parts_first {Y n c a f o r3 mm : Int} (p : Parts n c a f o r3 mm) (hY : Y = 2000 + c * 400 + a * 100 + f * 4 + o) :
    first (Y + 1) = n - r3 + 306 := by
  have := p.sum; have := p.a0; have := p.a1; have := p.f0; have := p.f1; have := p.o0; have := p.o1
  unfold first; omega
theorem parts_year {Y n c a f o r3 mm : Int} (p : Parts n c a f o r3 mm) (hY : Y = 2000 + c * 400 + a * 100 + f * 4 + o) (h0 : -719162 ≤ n) (h1 : n < 2932897) :
    (0 ≤ Y ∧ Y ≤ 9999) ∧ (Y = 0 → 10 ≤ mm) ∧ (Y = 9999 → mm ≤ 9) := by
  have e := parts_first p hY
  have a := p.r0
  have b := p.r1
  have m := p.hm
  have q : 0 ≤ Y ∧ Y ≤ 9999 := by unfold first at e; omega
  refine ⟨q, fun z => ?_, fun z => ?_⟩
  · rw [z] at e; rw [show first (0 + 1) = -719162 by decide] at e; omega
  · rw [z] at e; rw [show first (9999 + 1) = 2932897 by decide] at e; omega
theorem month_late {m x : Int} (m0 : 0 ≤ m) (m1 : m ≤ 9) (hm : m = (5 * x + 2) / 153) : 1 ≤ x - (153 * m + 2) / 5 + 1 ∧ x - (153 * m + 2) / 5 + 1 ≤ (if m + 3 = 4 ∨ m + 3 = 6 ∨ m + 3 = 9 ∨ m + 3 = 11 then 30 else 31) := by
  have h : m = 0 ∨ m = 1 ∨ m = 2 ∨ m = 3 ∨ m = 4 ∨ m = 5 ∨ m = 6 ∨ m = 7 ∨ m = 8 ∨ m = 9 := by omega
  rcases h with rfl | rfl | rfl | rfl | rfl | rfl | rfl | rfl | rfl | rfl <;> simp <;> omega
/-- The parts are those of the date. -/
theorem parts_late {n c a f o r3 mm : Int} (p : Parts n c a f o r3 mm) (h0 : -719162 ≤ n) (h1 : n < 2932897) (hm : mm ≤ 9) :
    vld (2000 + c * 400 + a * 100 + f * 4 + o) (mm + 3) (r3 - (153 * mm + 2) / 5 + 1) = true ∧ dayN (2000 + c * 400 + a * 100 + f * 4 + o) (mm + 3) (r3 - (153 * mm + 2) / 5 + 1) = n := by
  obtain ⟨Y, hY⟩ : ∃ Y, 2000 + c * 400 + a * 100 + f * 4 + o = Y := ⟨_, rfl⟩
  rw [hY]
  have e := parts_first p hY.symm
  obtain ⟨⟨y0, y1⟩, y2, y3⟩ := parts_year p hY.symm h0 h1
  have y0' : 1 ≤ Y := by by_cases z : Y = 0; have := y2 z; omega; omega
  have m0 := p.m0
  have l := month_late m0 hm p.hm
  refine ⟨vld_iff.2 ⟨l.1, ?_⟩, ?_⟩
  · unfold lenM; rw [if_neg (by omega), if_neg (by omega)]; exact l.2
  · unfold dayN
    rw [cum_late (by omega) (by omega), show mm + 3 - 3 = mm by omega]
    have s := first_succ y0' y1
    omega
theorem parts_early {n c a f o r3 mm : Int} (p : Parts n c a f o r3 mm) (h0 : -719162 ≤ n) (h1 : n < 2932897) (hm : 10 ≤ mm) :
    vld (2000 + c * 400 + a * 100 + f * 4 + o + 1) (mm + 3 - 12) (r3 - (153 * mm + 2) / 5 + 1) = true ∧ dayN (2000 + c * 400 + a * 100 + f * 4 + o + 1) (mm + 3 - 12) (r3 - (153 * mm + 2) / 5 + 1) = n := by
  obtain ⟨Y, hY⟩ : ∃ Y, 2000 + c * 400 + a * 100 + f * 4 + o = Y := ⟨_, rfl⟩
  rw [hY]
  have e := parts_first p hY.symm
  obtain ⟨⟨y0, y1⟩, y2, y3⟩ := parts_year p hY.symm h0 h1
  have y1' : Y + 1 ≤ 9999 := by by_cases z : Y = 9999; have := y3 z; omega; omega
  have m1 := p.m1
  have m2 := p.hm
  have r1 := p.r1
  have a0 := p.a0; have a1 := p.a1; have f0 := p.f0; have f1 := p.f1; have o0 := p.o0; have o1 := p.o1
  refine ⟨vld_iff.2 ?_, ?_⟩
  · have hlp := lp_eq (y := Y + 1) (by omega) y1'
    have h : mm = 10 ∨ mm = 11 := by omega
    rcases h with rfl | rfl
    · unfold lenM; rw [if_neg (by omega), if_neg (by omega), if_neg (by omega)]; omega
    · unfold lenM; rw [if_neg (by omega), if_pos (by omega)]
      refine ⟨by omega, ?_⟩
      rcases r1 with r1 | ⟨rfl, rfl, r1⟩
      · omega
      · have : lp (Y + 1) = 1 := by omega
        omega
  · unfold dayN
    rw [cum_early (by omega) (by omega), show mm + 3 - 12 + 9 = mm by omega]
    omega
end Go.Proofs.YtdhedkcbkchpgaaDoor

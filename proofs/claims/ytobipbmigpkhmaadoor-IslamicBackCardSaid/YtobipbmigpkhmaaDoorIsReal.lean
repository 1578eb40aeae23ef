/- Plain facts on how package islamic finds years and months: counts by division, masks of leap years. No program is mentioned. -/
import Derived.Test.YtobipbmigpkhmaaDoorIsMon
import Derived.Test.YtobipbmigpkhmaaDoorIsMov
namespace Go.Proofs.YtobipbmigpkhmaaDoor
open Go.RowKit
set_option linter.unusedVariables false

/-- The days of the first r years of a cycle. -/
def iD (k r : Int) : Int := 354 * r + icnt k r
theorem iD_bd {k r : Int} (k0 : 1 ≤ k) (k1 : k ≤ 4) (r0 : 0 ≤ r) (r1 : r ≤ 30) : 0 ≤ iD k r ∧ iD k r ≤ 10631 := by
  have := icnt_bd k0 k1 r0 r1
  unfold iD; omega
theorem iD_end {k : Int} (k0 : 1 ≤ k) (k1 : k ≤ 4) : iD k 0 = 0 ∧ iD k 30 = 10631 := by
  have := icnt_end k0 k1
  unfold iD; omega
theorem iD_succ {k r : Int} (k0 : 1 ≤ k) (k1 : k ≤ 4) (r0 : 0 ≤ r) (r1 : r ≤ 29) : iD k r + 354 ≤ iD k (r + 1) ∧ iD k (r + 1) ≤ iD k r + 355 := by
  have := icnt_succ k0 k1 r0 r1
  unfold iD
  rw [this]
  split <;> omega
theorem ifirst_iD (k y : Int) : ifirst k y = -492148 + (y - 1) / 30 * 10631 + iD k ((y - 1) % 30) := by unfold ifirst iD; omega
/-- The year of a cycle, found by division: the quotient, or one less. -/
theorem iyears {k r x : Int} (k0 : 1 ≤ k) (k1 : k ≤ 4) (r0 : 0 ≤ r) (r1 : r ≤ 29) (a : iD k r ≤ x) (b : x < iD k (r + 1)) :
    0 ≤ x ∧ x ≤ 10630 ∧ 0 ≤ x / 354 ∧ x / 354 ≤ 30 ∧ (x / 354 = r ∧ iD k r ≤ x ∨ x / 354 = r + 1 ∧ x < iD k (r + 1)) := by
  have c := icnt_bd k0 k1 r0 (show r ≤ 30 by omega)
  have d := icnt_bd k0 k1 (show 0 ≤ r + 1 by omega) (show r + 1 ≤ 30 by omega)
  have e := iD_bd k0 k1 (show 0 ≤ r + 1 by omega) (show r + 1 ≤ 30 by omega)
  unfold iD at *
  omega
/-- Where a day lies in its cycle. -/
theorem icycle_of {k n Y : Int} (k0 : 1 ≤ k) (k1 : k ≤ 4) (Y0 : 1 ≤ Y) (a : ifirst k Y ≤ n) (b : n < ifirst k (Y + 1)) :
    (n + 492148) / 10631 = (Y - 1) / 30 ∧ iD k ((Y - 1) % 30) ≤ (n + 492148) % 10631 ∧ (n + 492148) % 10631 < iD k ((Y - 1) % 30 + 1) ∧ (n + 492148) % 10631 - iD k ((Y - 1) % 30) = n - ifirst k Y := by
  have s := ifirst_succ k0 k1 Y0
  have c := icnt_succ k0 k1 (show 0 ≤ (Y - 1) % 30 by omega) (show (Y - 1) % 30 ≤ 29 by omega)
  have e := iD_bd k0 k1 (show 0 ≤ (Y - 1) % 30 + 1 by omega) (show (Y - 1) % 30 + 1 ≤ 30 by omega)
  have z := iD_bd k0 k1 (show 0 ≤ (Y - 1) % 30 by omega) (show (Y - 1) % 30 ≤ 30 by omega)
  have f := ifirst_iD k Y
  have p : iD k ((Y - 1) % 30 + 1) = iD k ((Y - 1) % 30) + 354 + ilp k Y := by
    unfold iD ilp; rw [c]; omega
  omega
/-- The month of a year, found by division. -/
theorem imonths {k y m x : Int} (h : iyr k y = true) (m0 : 1 ≤ m) (m1 : m ≤ 12) (a : icum m ≤ x) (b : x < icumL k y (m + 1)) :
    0 ≤ x ∧ x ≤ 354 ∧ 0 ≤ 2 * x / 59 ∧ (m ≤ 11 ∧ 2 * x / 59 = m - 1 ∨ m = 12 ∧ 11 ≤ 2 * x / 59) := by
  have l := ilp_01 k y
  by_cases q : m = 12
  · subst q
    have e : icumL k y (12 + 1) = 354 + ilp k y := icumL_end k y
    rw [e] at b
    unfold icum at a
    omega
  · rw [icumL_late (by omega)] at b
    unfold icum at a b
    omega
theorem icum_div {m : Int} (m0 : 0 ≤ m) : (59 * m + 1) / 2 = icum (m + 1) := by unfold icum; omega
/-- The years in which a month and a day can be in a Gregorian year: three at most, from the one of its first day on. -/
theorem imov_before {k m d a b y Y : Int} (k0 : 1 ≤ k) (k1 : k ≤ 4) (Y0 : 1 ≤ Y) (h : ifirst k Y ≤ a ∨ Y = 1) (q : y < Y) : imovO k m d a b y = none := by
  unfold imovO
  rw [if_neg]
  rintro ⟨hv, h0, -⟩
  obtain ⟨-, -, y0, y1, -⟩ := ivld_bd hv
  have i := iday_in hv
  have f := ifirst_le k0 k1 (y := y + 1) (z := Y) (by omega) (by omega)
  omega
theorem imov_behind {k m d a b y Y : Int} (k0 : 1 ≤ k) (k1 : k ≤ 4) (Y0 : 1 ≤ Y) (h : a < ifirst k (Y + 1)) (hb : b ≤ a + 365) (q : Y + 2 < y) : imovO k m d a b y = none := by
  unfold imovO
  rw [if_neg]
  rintro ⟨hv, -, h1⟩
  obtain ⟨-, -, y0, y1, -⟩ := ivld_bd hv
  have i := iday_in hv
  have f := ifirst_le k0 k1 (y := Y + 1) (z := y) (by omega) (by omega)
  omega
theorem imov_off {k m d a b y : Int} (h : 2909772 ≤ a) : imovO k m d a b y = none := by
  unfold imovO
  rw [if_neg]
  rintro ⟨hv, h0, -⟩
  have := iday_range hv
  omega
/-- The masks of the leap years. -/
abbrev maskTab : List Int := [0, 623158436, 623191204, 690562340, 1227434276]
def maskK (k : Int) : Int := if k = 1 then 623158436 else if k = 2 then 623191204 else if k = 3 then 690562340 else 1227434276
end Go.Proofs.YtobipbmigpkhmaaDoor

/- Plain facts on calendars of weeks: starts, years, days. No program is mentioned. -/
import Derived.Test.YtimpaaimdjlhjaaDoorLCal
namespace Go.Proofs.YtimpaaimdjlhjaaDoor
open Go.RowKit
set_option linter.unusedVariables false

/-- A rule for weeks is valid. -/
def rulB (F M : Int) : Bool := (decide (1 ≤ F) && decide (F ≤ 7)) && decide (1 ≤ M) && decide (M ≤ 7)
theorem rulB_iff {F M : Int} : rulB F M = true ↔ 1 ≤ F ∧ F ≤ 7 ∧ 1 ≤ M ∧ M ≤ 7 := by unfold rulB; simp [and_assoc]
/-- Days of the week before January 1. -/
def wkO (F y : Int) : Int := (first y - 4 - (F - 1)) % 7
theorem wkO_bd (F y : Int) : 0 ≤ wkO F y ∧ wkO F y ≤ 6 := by unfold wkO; omega
/-- The first day of a week-year. -/
def wkS (F M y : Int) : Int := if M ≤ 7 - wkO F y then first y - wkO F y else first y - wkO F y + 7
theorem wkS_in {F M y : Int} (m0 : 1 ≤ M) (m1 : M ≤ 7) : first y + M - 7 ≤ wkS F M y ∧ wkS F M y ≤ first y + M - 1 ∧ (wkS F M y + 4 - F) % 7 = 0 := by
  unfold wkS wkO
  generalize first y = f
  split <;> omega
theorem wkS_uniq {F M y n : Int} (m0 : 1 ≤ M) (m1 : M ≤ 7) (h0 : first y + M - 7 ≤ n) (h1 : n ≤ first y + M - 1) (h : (n + 4 - F) % 7 = 0) : n = wkS F M y := by
  have := wkS_in (F := F) (y := y) m0 m1
  generalize wkS F M y = s at *
  omega
/-- The number of weeks of a week-year. -/
def wkN (F M y : Int) : Int := (wkS F M (y + 1) - wkS F M y) / 7
theorem wkN_in {F M y : Int} (m0 : 1 ≤ M) (m1 : M ≤ 7) (y0 : 1 ≤ y) (y1 : y ≤ 9999) :
    wkS F M (y + 1) = wkS F M y + 7 * wkN F M y ∧ (wkN F M y = 52 ∨ wkN F M y = 53) := by
  have a := wkS_in (F := F) (y := y) m0 m1
  have b := wkS_in (F := F) (y := y + 1) m0 m1
  have s := first_succ y0 y1
  have l := lp_01 y
  unfold wkN
  generalize wkS F M y = p at *
  generalize wkS F M (y + 1) = q at *
  generalize first y = f at *
  generalize first (y + 1) = g at *
  generalize lp y = e at *
  omega
theorem wkS_bd {F M y : Int} (m0 : 1 ≤ M) (m1 : M ≤ 7) (y0 : 1 ≤ y) (y1 : y ≤ 10000) : -719168 ≤ wkS F M y ∧ wkS F M y ≤ 2932903 := by
  have a := wkS_in (F := F) (y := y) m0 m1
  have f := first_le (y := 1) (z := y) (by omega) y0 y1
  have g := first_le (y := y) (z := 10000) (by omega) y1 (by omega)
  rw [first_one] at f
  rw [first_last] at g
  omega
theorem wkS_mono {F M y z : Int} (m0 : 1 ≤ M) (m1 : M ≤ 7) (y0 : 1 ≤ y) (h : y ≤ z) (z1 : z ≤ 10000) : wkS F M y ≤ wkS F M z := by
  by_cases e : y = z
  · subst e; omega
  · have a := wkS_in (F := F) (y := y) m0 m1
    have b := wkS_in (F := F) (y := z) m0 m1
    have s := first_succ y0 (show y ≤ 9999 by omega)
    have l := lp_01 y
    have f := first_le (y := y + 1) (z := z) (by omega) (by omega) (by omega)
    omega
/-- The day n is in the week-year Y. -/
structure InY (F M n Y : Int) : Prop where
  y0 : 1 ≤ Y
  y1 : Y ≤ 9999
  lo : wkS F M Y ≤ n
  hi : n < wkS F M (Y + 1)
theorem InY.uniq {F M n Y Z : Int} (m0 : 1 ≤ M) (m1 : M ≤ 7) (h : InY F M n Y) (k : InY F M n Z) : Y = Z := by
  obtain ⟨a, b, c, d⟩ := h
  obtain ⟨a', b', c', d'⟩ := k
  rcases Int.lt_or_le Y Z with l | l
  · have := wkS_mono (F := F) m0 m1 (y := Y + 1) (z := Z) (by omega) (by omega) (by omega); omega
  · rcases Int.lt_or_le Z Y with l' | l'
    · have := wkS_mono (F := F) m0 m1 (y := Z + 1) (z := Y) (by omega) (by omega) (by omega); omega
    · omega
/-- The year of a day is at most one away from its week-year. -/
theorem year_near {F M n y : Int} (m0 : 1 ≤ M) (m1 : M ≤ 7) (y0 : 1 ≤ y) (y1 : y ≤ 9999) (h0 : first y ≤ n) (h1 : n < first (y + 1)) :
    (n < wkS F M y → 2 ≤ y → wkS F M (y - 1) ≤ n) ∧ (wkS F M (y + 1) ≤ n → y ≤ 9998 → n < wkS F M (y + 1 + 1)) ∧ (y ≤ 9998 → n < wkS F M (y + 1 + 1)) ∧ (2 ≤ y → wkS F M (y - 1) ≤ n) := by
  have p : 2 ≤ y → wkS F M (y - 1) ≤ n := by
    intro h
    have a := wkS_in (F := F) (y := y - 1) m0 m1
    have s := first_succ (y := y - 1) (by omega) (by omega)
    have l := lp_01 (y - 1)
    rw [show y - 1 + 1 = y by omega] at s
    omega
  have q : y ≤ 9998 → n < wkS F M (y + 1 + 1) := by
    intro h
    have a := wkS_in (F := F) (y := y + 1 + 1) m0 m1
    have s := first_succ (y := y + 1) (by omega) (by omega)
    have l := lp_01 (y + 1)
    omega
  exact ⟨fun _ => p, fun _ => q, q, p⟩
/-- The day of a date of weeks. -/
def wkD (F M Y W D : Int) : Int := wkS F M Y + 7 * (W - 1) + (D - F) % 7
/-- The week of a day in its week-year. -/
def wkW (F M n Y : Int) : Int := (n - wkS F M Y) / 7 + 1
/-- The weekday of any day. -/
def wdy (n : Int) : Int := (n + 3) % 7 + 1
theorem wdy_bd (n : Int) : 1 ≤ wdy n ∧ wdy n ≤ 7 := by unfold wdy; omega
theorem wkd_wdy {n : Int} (h0 : -719162 ≤ n) (h1 : n < 2932897) : wkd n = wdy n := by
  unfold wkd wdy; rw [if_neg (by omega)]; omega
/-- A day is the day of its date of weeks. -/
theorem wk_back {F M n Y : Int} (f0 : 1 ≤ F) (f1 : F ≤ 7) (m0 : 1 ≤ M) (m1 : M ≤ 7) (h : InY F M n Y) :
    wkD F M Y (wkW F M n Y) (wdy n) = n ∧ 1 ≤ wkW F M n Y ∧ wkW F M n Y ≤ wkN F M Y := by
  obtain ⟨y0, y1, lo, hi⟩ := h
  have a := wkS_in (F := F) (y := Y) m0 m1
  have b := wkN_in (F := F) m0 m1 y0 y1
  unfold wkD wkW wdy
  generalize wkS F M Y = s at *
  generalize wkN F M Y = k at *
  generalize wkS F M (Y + 1) = t at *
  omega
/-- A date of weeks is the date of its day. -/
theorem wk_forth {F M Y W D : Int} (f0 : 1 ≤ F) (f1 : F ≤ 7) (m0 : 1 ≤ M) (m1 : M ≤ 7) (y0 : 1 ≤ Y) (y1 : Y ≤ 9999) (w0 : 1 ≤ W) (w1 : W ≤ wkN F M Y) (d0 : 1 ≤ D) (d1 : D ≤ 7) :
    InY F M (wkD F M Y W D) Y ∧ wkW F M (wkD F M Y W D) Y = W ∧ wdy (wkD F M Y W D) = D := by
  have a := wkS_in (F := F) (y := Y) m0 m1
  have b := wkN_in (F := F) m0 m1 y0 y1
  unfold wkW wdy
  have e : wkD F M Y W D = wkS F M Y + 7 * (W - 1) + (D - F) % 7 := rfl
  generalize wkD F M Y W D = n at *
  refine ⟨⟨y0, y1, ?_, ?_⟩, ?_, ?_⟩ <;> omega
/-- The next day's date of weeks. -/
theorem wk_next {F M n Y Z : Int} (f0 : 1 ≤ F) (f1 : F ≤ 7) (m0 : 1 ≤ M) (m1 : M ≤ 7) (h : InY F M n Y) (k : InY F M (n + 1) Z) :
    wdy (n + 1) = wdy n % 7 + 1 ∧
    (wdy (n + 1) ≠ F → Z = Y ∧ wkW F M (n + 1) Z = wkW F M n Y) ∧
    (wdy (n + 1) = F → wkW F M n Y = wkN F M Y → Z = Y + 1 ∧ wkW F M (n + 1) Z = 1) ∧
    (wdy (n + 1) = F → wkW F M n Y ≠ wkN F M Y → Z = Y ∧ wkW F M (n + 1) Z = wkW F M n Y + 1) := by
  obtain ⟨y0, y1, lo, hi⟩ := h
  have a := wkS_in (F := F) (y := Y) m0 m1
  have b := wkN_in (F := F) m0 m1 y0 y1
  have c := wkS_in (F := F) (y := Y + 1) m0 m1
  by_cases z : n + 1 < wkS F M (Y + 1)
  · obtain rfl : Y = Z := InY.uniq m0 m1 ⟨y0, y1, by omega, z⟩ k
    unfold wkW wdy
    generalize wkS F M Y = s at *
    generalize wkN F M Y = u at *
    generalize wkS F M (Y + 1) = t at *
    refine ⟨?_, ?_, ?_, ?_⟩ <;> omega
  · have zz : n + 1 = wkS F M (Y + 1) := by omega
    have e : Z = Y + 1 := by
      obtain ⟨k0, k1, k2, k3⟩ := k
      rcases Int.lt_or_le Z (Y + 1) with l | l
      · have := wkS_mono (F := F) m0 m1 (y := Z + 1) (z := Y + 1) (by omega) (by omega) (by omega); omega
      · rcases Int.lt_or_le (Y + 1) Z with l' | l'
        · have b' := wkN_in (F := F) m0 m1 (y := Y + 1) (by omega) (by omega)
          have := wkS_mono (F := F) m0 m1 (y := Y + 1 + 1) (z := Z) (by omega) (by omega) (by omega); omega
        · omega
    subst e
    unfold wkW wdy
    generalize wkS F M Y = s at *
    generalize wkN F M Y = u at *
    generalize wkS F M (Y + 1) = t at *
    refine ⟨?_, ?_, ?_, ?_⟩ <;> omega
end Go.Proofs.YtimpaaimdjlhjaaDoor

/- Plain facts on Easter: golden numbers, epacts, full moons, Sundays; the date of a day. No program is mentioned. -/
import Derived.Test.YtljpjchcmiohpaaDoorLCal
import Derived.Test.YtljpjchcmiohpaaDoorLJuM
import Derived.WalkKit
namespace Go.Proofs.YtljpjchcmiohpaaDoor
open Go.RowKit
set_option linter.unusedVariables false

/-- The date of a day. -/
def dtY (n : Int) : Int := 2000 + pC n * 400 + pA n * 100 + pF n * 4 + pO n + (if 10 ≤ pM n then 1 else 0)
def dtM (n : Int) : Int := if 10 ≤ pM n then pM n + 3 - 12 else pM n + 3
def dtD (n : Int) : Int := pR3 n - (153 * pM n + 2) / 5 + 1
theorem dt_of {n : Int} (h0 : -719162 ≤ n) (h1 : n < 2932897) : vld (dtY n) (dtM n) (dtD n) = true ∧ dayN (dtY n) (dtM n) (dtD n) = n := by
  have p := parts_of h0 h1
  unfold dtY dtM dtD
  by_cases z : 10 ≤ pM n
  · rw [if_pos z, if_pos z]; exact parts_early p h0 h1 z
  · rw [if_neg z, if_neg z, Int.add_zero]; exact parts_late p h0 h1 (by omega)
theorem dt_at {y m d : Int} (h : vld y m d = true) : dtY (dayN y m d) = y ∧ dtM (dayN y m d) = m ∧ dtD (dayN y m d) = d := by
  have r := day_range h
  have q := dt_of r.1 r.2
  exact day_inj q.1 h q.2
/-- The golden number, the epact, the full moon as a day of March. -/
def fG (y : Int) : Int := y % 19 + 1
def fE (y : Int) : Int := (8 + y / 100 / 4 - y / 100 + (8 * (y / 100) + 13) / 25 + 11 * (y % 19)) % 30
def fX (y : Int) : Int := if fE y = 24 ∨ fE y = 25 ∧ 11 < fG y then fE y + 1 else fE y
def fF (y : Int) : Int := if 44 - fX y < 21 then 74 - fX y else 44 - fX y
/-- The first Sunday behind a day. -/
def fS (d : Int) : Int := d + 7 - (d + 719163) % 7
/-- Easter, Julian Easter. -/
def feN (y : Int) : Int := fS (dayN y 3 1 + fF y - 1)
def fjF (y : Int) : Int := (19 * (y % 19) + 15) % 30
def fjN (y : Int) : Int := fS (jdayN y 3 21 + fjF y)
theorem fG_bd (y : Int) : 1 ≤ fG y ∧ fG y ≤ 19 := by unfold fG; omega
theorem fE_bd (y : Int) : 0 ≤ fE y ∧ fE y < 30 := by unfold fE; omega
theorem fF_bd (y : Int) : 21 ≤ fF y ∧ fF y ≤ 49 := by
  have := fE_bd y
  unfold fF fX; split <;> split <;> omega
theorem fS_in (d : Int) : d < fS d ∧ fS d ≤ d + 7 ∧ (fS d + 719162) % 7 = 6 := by unfold fS; omega
theorem fS_only {d x : Int} (h0 : d < x) (h1 : x ≤ d + 7) (h : (x + 719162) % 7 = 6) : x = fS d := by unfold fS; omega
/-- March and April of a year. -/
theorem spring {y : Int} (y0 : 1 ≤ y) (y1 : y ≤ 9999) : dayN y 3 22 = dayN y 3 1 + 21 ∧ dayN y 4 25 = dayN y 3 1 + 55 ∧ vld y 3 22 = true ∧ vld y 4 25 = true ∧
    (∀ x, 1 ≤ x → x ≤ 31 → vld y 3 x = true ∧ dayN y 3 x = dayN y 3 1 + x - 1) ∧ (∀ x, 1 ≤ x → x ≤ 30 → vld y 4 x = true ∧ dayN y 4 x = dayN y 3 1 + 30 + x) := by
  have c4 : cum y 4 = cum y 3 + 31 := by
    have := cum_succ (m := 3) y0 y1 (by omega) (by omega)
    have l : lenM y 3 = 31 := by unfold lenM; rw [if_neg (by omega), if_neg (by omega), if_neg (by omega)]
    rw [l] at this; exact this
  have l3 : lenM y 3 = 31 := by unfold lenM; rw [if_neg (by omega), if_neg (by omega), if_neg (by omega)]
  have l4 : lenM y 4 = 30 := by unfold lenM; rw [if_neg (by omega), if_neg (by omega), if_pos (by omega)]
  refine ⟨by unfold dayN; omega, by unfold dayN; omega, vld_iff.2 (by omega), vld_iff.2 (by omega), fun x x0 x1 => ⟨vld_iff.2 (by omega), by unfold dayN; omega⟩, fun x x0 x1 => ⟨vld_iff.2 (by omega), by unfold dayN; omega⟩⟩
theorem march {y : Int} (y0 : 1 ≤ y) (y1 : y ≤ 9999) : dayN y 3 1 = -719162 + 365 * (y - 1) + y / 4 - y / 100 + y / 400 + 59 := by
  have c : cum y 3 = 59 + lp y := by rw [cum_late (by omega) (by omega)]; omega
  have l := lp_eq y0 y1
  unfold dayN first; rw [c]; omega
theorem feN_in {y : Int} (y0 : 1 ≤ y) (y1 : y ≤ 9999) : dayN y 3 22 ≤ feN y ∧ feN y ≤ dayN y 4 25 ∧ (feN y + 719162) % 7 = 6 ∧ -719162 ≤ feN y ∧ feN y < 2932897 := by
  have s := spring y0 y1
  have f := fF_bd y
  have a := fS_in (dayN y 3 1 + fF y - 1)
  have r := day_range s.2.2.1
  have r' := day_range s.2.2.2.1
  unfold feN; omega
theorem fe_year {y : Int} (y0 : 1 ≤ y) (y1 : y ≤ 9999) : dtY (feN y) = y := by
  have s := spring y0 y1
  have a := feN_in y0 y1
  by_cases z : feN y ≤ dayN y 3 1 + 30
  · have q := s.2.2.2.2.1 (feN y - dayN y 3 1 + 1) (by omega) (by omega)
    have e : dayN y 3 (feN y - dayN y 3 1 + 1) = feN y := by omega
    have d := dt_at q.1
    rw [e] at d; exact d.1
  · have q := s.2.2.2.2.2 (feN y - dayN y 3 1 - 30) (by omega) (by omega)
    have e : dayN y 4 (feN y - dayN y 3 1 - 30) = feN y := by omega
    have d := dt_at q.1
    rw [e] at d; exact d.1
/-- The reference's rule. -/
def fh (y : Int) : Int := (19 * (y % 19) + y / 100 - y / 100 / 4 - (y / 100 - (y / 100 + 8) / 25 + 1) / 3 + 15) % 30
def fl (y : Int) : Int := (32 + 2 * (y / 100 % 4) + 2 * (y % 100 / 4) - fh y - y % 100 % 4) % 7
def fm (y : Int) : Int := (y % 19 + 11 * fh y + 22 * fl y) / 451
def fn (y : Int) : Int := fh y + fl y - 7 * fm y + 114
theorem cent_all : ∀ b : Fin 100, ((8 * ((b : Nat) : Int) + 13) / 25) = ((((b : Nat) : Int) - (((b : Nat) : Int) + 8) / 25 + 1) / 3) := by decide
theorem cent {b : Int} (h0 : 0 ≤ b) (h1 : b ≤ 99) : (8 * b + 13) / 25 = (b - (b + 8) / 25 + 1) / 3 := by
  have := cent_all ⟨b.toNat, by omega⟩
  simp only [show ((b.toNat : Nat) : Int) = b by omega] at this
  exact this
theorem fh_bd (y : Int) : 0 ≤ fh y ∧ fh y ≤ 29 := by unfold fh; omega
theorem fl_bd (y : Int) : 0 ≤ fl y ∧ fl y ≤ 6 := by unfold fl; omega
theorem fh_fE {y : Int} (y0 : 1 ≤ y) (y1 : y ≤ 9999) : fE y = if fh y ≤ 23 then 23 - fh y else 53 - fh y := by
  have c := cent (b := y / 100) (by omega) (by omega)
  have hb := fh_bd y
  have e : (fE y + fh y - 23) % 30 = 0 := by
    unfold fE fh; rw [c]
    generalize (y / 100 - (y / 100 + 8) / 25 + 1) / 3 = q
    generalize y / 100 / 4 = r
    generalize y / 100 = b
    generalize y % 19 = a
    omega
  have eb := fE_bd y
  split <;> omega
theorem fm_at (y : Int) : fl y = 6 ∧ (fh y = 29 ∨ fh y = 28 ∧ 11 < fG y) ∧ fm y = 1 ∨ ¬ (fl y = 6 ∧ (fh y = 29 ∨ fh y = 28 ∧ 11 < fG y)) ∧ fm y = 0 := by
  have hb := fh_bd y
  have lb := fl_bd y
  have a : 0 ≤ y % 19 ∧ y % 19 ≤ 18 := by omega
  unfold fm fG
  generalize fh y = h at *
  generalize fl y = l at *
  generalize y % 19 = g at *
  by_cases z : l = 6 ∧ (h = 29 ∨ h = 28 ∧ 11 < g + 1)
  · left; refine ⟨z.1, z.2, ?_⟩; omega
  · right
    refine ⟨z, ?_⟩
    by_cases z6 : l = 6
    · omega
    · omega
theorem fn_bd (y : Int) : 114 ≤ fn y ∧ fn y ≤ 148 := by
  have hb := fh_bd y
  have lb := fl_bd y
  have m := fm_at y
  unfold fn; omega
theorem fl_day {y : Int} (y0 : 1 ≤ y) (y1 : y ≤ 9999) : (dayN y 3 1 + 719162 + 21 + fh y + fl y) % 7 = 6 := by
  rw [march y0 y1]
  have c : y / 4 = 25 * (y / 100) + y % 100 / 4 := by omega
  have c4 : y / 400 = y / 100 / 4 := by omega
  unfold fl
  rw [c, c4]
  have hb := fh_bd y
  have e : y = 100 * (y / 100) + y % 100 := by omega
  generalize fh y = h at *
  generalize hB : y / 100 = b at *
  generalize hC : y % 100 = x at *
  subst e
  have xb : 0 ≤ x ∧ x ≤ 99 := by omega
  clear hB hC c c4
  omega
/-- Easter by the reference's rule. -/
theorem fe_rule {y : Int} (y0 : 1 ≤ y) (y1 : y ≤ 9999) : vld y (fn y / 31) (fn y % 31 + 1) = true ∧ dayN y (fn y / 31) (fn y % 31 + 1) = feN y := by
  have s := spring y0 y1
  have nb := fn_bd y
  have e : dayN y 3 1 + (fn y - 93) = feN y := by
    have m := fm_at y
    have w := fl_day y0 y1
    have hE := fh_fE y0 y1
    have hb := fh_bd y
    have lb := fl_bd y
    have g := fG_bd y
    unfold feN
    unfold fn
    have fF' : fF y = if fh y = 29 ∨ fh y = 28 ∧ 11 < fG y then 20 + fh y else 21 + fh y := by
      unfold fF fX; rw [hE]
      generalize fh y = h at *
      generalize fG y = g at *
      split <;> split <;> split <;> (try split) <;> omega
    apply fS_only
    · rw [fF']; split <;> omega
    · rw [fF']; split <;> omega
    · omega
  by_cases z : fn y < 124
  · have q := s.2.2.2.2.1 (fn y - 92) (by omega) (by omega)
    rw [show fn y / 31 = 3 by omega, show fn y % 31 + 1 = fn y - 92 by omega]
    exact ⟨q.1, by omega⟩
  · have q := s.2.2.2.2.2 (fn y - 123) (by omega) (by omega)
    rw [show fn y / 31 = 4 by omega, show fn y % 31 + 1 = fn y - 123 by omega]
    exact ⟨q.1, by omega⟩
/-- March and April of a Julian year. -/
theorem jspring {y : Int} (y0 : 1 ≤ y) (y1 : y ≤ 9999) : jdayN y 3 21 = 365 * y + y / 4 - 719164 - 365 + 79 ∧
    (∀ x, 1 ≤ x → x ≤ 31 → jvld y 3 x = true ∧ jdayN y 3 x = jdayN y 3 21 + x - 21) ∧ (∀ x, 1 ≤ x → x ≤ 30 → jvld y 4 x = true ∧ jdayN y 4 x = jdayN y 3 21 + 10 + x) := by
  have c4 : jcum y 4 = jcum y 3 + 31 := by
    have := jcum_succ (m := 3) y0 y1 (by omega) (by omega)
    have l : jlenM y 3 = 31 := by unfold jlenM; rw [if_neg (by omega), if_neg (by omega), if_neg (by omega)]
    rw [l] at this; exact this
  have l3 : jlenM y 3 = 31 := by unfold jlenM; rw [if_neg (by omega), if_neg (by omega), if_neg (by omega)]
  have l4 : jlenM y 4 = 30 := by unfold jlenM; rw [if_neg (by omega), if_neg (by omega), if_pos (by omega)]
  have c3 : jcum y 3 = 59 + jlp y := by rw [jcum_late (by omega) (by omega)]; omega
  have l := jlp_eq y0 y1
  refine ⟨by unfold jdayN jfirst; rw [c3]; omega, fun x x0 x1 => ⟨jvld_iff.2 (by omega), by unfold jdayN; omega⟩, fun x x0 x1 => ⟨jvld_iff.2 (by omega), by unfold jdayN; omega⟩⟩
theorem fjF_all : ∀ g : Fin 19, (19 * ((g : Nat) : Int) + 15) % 30 ≤ 28 := by decide
theorem fjF_bd (y : Int) : 0 ≤ fjF y ∧ fjF y ≤ 28 := by
  have := fjF_all ⟨(y % 19).toNat, by omega⟩
  simp only [show (((y % 19).toNat : Nat) : Int) = y % 19 by omega] at this
  unfold fjF; omega
theorem fjN_in {y : Int} (y0 : 1 ≤ y) (y1 : y ≤ 9999) : jdayN y 3 21 < fjN y ∧ fjN y ≤ jdayN y 3 21 + 35 ∧ (fjN y + 719162) % 7 = 6 ∧ -719162 ≤ fjN y ∧ fjN y < 2932897 := by
  have s := jspring y0 y1
  have f := fjF_bd y
  have a := fS_in (jdayN y 3 21 + fjF y)
  unfold fjN; omega
/-- The Julian date of Julian Easter. -/
def fjM (y : Int) : Int := if fjN y ≤ jdayN y 3 21 + 10 then 3 else 4
def fjD (y : Int) : Int := if fjN y ≤ jdayN y 3 21 + 10 then fjN y - jdayN y 3 21 + 21 else fjN y - jdayN y 3 21 - 10
theorem fj_date {y : Int} (y0 : 1 ≤ y) (y1 : y ≤ 9999) : jvld y (fjM y) (fjD y) = true ∧ jdayN y (fjM y) (fjD y) = fjN y ∧ (fjM y = 3 ∧ 22 ≤ fjD y ∧ fjD y ≤ 31 ∨ fjM y = 4 ∧ 1 ≤ fjD y ∧ fjD y ≤ 25) := by
  have s := jspring y0 y1
  have a := fjN_in y0 y1
  unfold fjM fjD
  split
  · have q := s.2.1 (fjN y - jdayN y 3 21 + 21) (by omega) (by omega)
    exact ⟨q.1, by omega, .inl ⟨rfl, by omega, by omega⟩⟩
  · have q := s.2.2 (fjN y - jdayN y 3 21 - 10) (by omega) (by omega)
    exact ⟨q.1, by omega, .inr ⟨rfl, by omega, by omega⟩⟩
theorem fj_later {y : Int} (y0 : 1 ≤ y) (y1 : y + 532 ≤ 9999) : fjM (y + 532) = fjM y ∧ fjD (y + 532) = fjD y := by
  have s := jspring y0 (by omega)
  have s' := jspring (y := y + 532) (by omega) y1
  have e : jdayN (y + 532) 3 21 = jdayN y 3 21 + 194313 := by omega
  have f : fjF (y + 532) = fjF y := by unfold fjF; rw [show (y + 532) % 19 = y % 19 by omega]
  have n : fjN (y + 532) = fjN y + 194313 := by unfold fjN fS; rw [e, f]; omega
  unfold fjM fjD
  rw [n, e]
  by_cases z : fjN y ≤ jdayN y 3 21 + 10
  · rw [if_pos z, if_pos z, if_pos (by omega), if_pos (by omega)]; omega
  · rw [if_neg z, if_neg z, if_neg (by omega), if_neg (by omega)]; omega
/-- The movable day. -/
def fmB (y o : Int) : Bool := yrB y && decide (-400 ≤ o) && decide (o ≤ 400) && dyB (feN y + o)
def fmN (y o : Int) : Int := if fmB y o then feN y + o else 0
def fmE (y o : Int) : Int := if fmB y o then 0 else 2
theorem fmB_iff {y o : Int} : fmB y o = true ↔ 1 ≤ y ∧ y ≤ 9999 ∧ -400 ≤ o ∧ o ≤ 400 ∧ -719162 ≤ feN y + o ∧ feN y + o < 2932897 := by
  unfold fmB; simp only [Bool.and_eq_true, yrB_iff, dyB_iff, decide_eq_true_eq]; omega
theorem fm_zero {y : Int} (y0 : 1 ≤ y) (y1 : y ≤ 9999) : fmB y 0 = true := by
  have := feN_in y0 y1
  exact fmB_iff.2 (by omega)
end Go.Proofs.YtljpjchcmiohpaaDoor

/- Plain facts on the tabular Islamic calendar: leap years, months, years, days. No program is mentioned. -/
import Derived.Test.YtobipbmigpkhmaaDoorLCal
import Derived.WalkKit
namespace Go.Proofs.YtobipbmigpkhmaaDoor
open Go.RowKit
set_option linter.unusedVariables false

def ikd (k : Int) : Bool := decide (1 ≤ k ∧ k ≤ 4)
def iyr (k y : Int) : Bool := decide (1 ≤ k ∧ k ≤ 4 ∧ 1 ≤ y ∧ y ≤ 9600)
/-- The leap years of a cycle. -/
def ileapL (k : Int) : List Int :=
  if k = 1 then [2, 5, 7, 10, 13, 15, 18, 21, 24, 26, 29] else if k = 2 then [2, 5, 7, 10, 13, 16, 18, 21, 24, 26, 29]
  else if k = 3 then [2, 5, 8, 10, 13, 16, 19, 21, 24, 27, 29] else if k = 4 then [2, 5, 8, 11, 13, 16, 19, 21, 24, 27, 30] else []
/-- Whether a year of the cycle, from 1 to 30, is a leap year. -/
def ilpP (k p : Int) : Bool := (ileapL k).contains p
def ileapB (k y : Int) : Bool := iyr k y && ilpP k ((y - 1) % 30 + 1)
def ilp (k y : Int) : Int := if ilpP k ((y - 1) % 30 + 1) then 1 else 0
/-- How many of the first years of a cycle are leap years. -/
def icnt (k r : Int) : Int := ((ileapL k).countP fun p => decide (p ≤ r) : Nat)
def ilenM (k y m : Int) : Int :=
  if iyr k y = false ∨ m < 1 ∨ 12 < m then 0 else if m % 2 = 1 ∨ m = 12 ∧ ileapB k y = true then 30 else 29
def ivld (k y m d : Int) : Bool := decide (1 ≤ d ∧ d ≤ ilenM k y m)
def icum (m : Int) : Int := 29 * (m - 1) + m / 2
def ifirst (k y : Int) : Int := -492148 + (y - 1) / 30 * 10631 + 354 * ((y - 1) % 30) + icnt k ((y - 1) % 30)
def idayN (k y m d : Int) : Int := ifirst k y + icum m + d - 1
theorem ikd_iff {k : Int} : ikd k = true ↔ 1 ≤ k ∧ k ≤ 4 := by unfold ikd; simp
theorem iyr_iff {k y : Int} : iyr k y = true ↔ 1 ≤ k ∧ k ≤ 4 ∧ 1 ≤ y ∧ y ≤ 9600 := by unfold iyr; simp
theorem ilp_01 (k y : Int) : 0 ≤ ilp k y ∧ ilp k y ≤ 1 := by unfold ilp; split <;> omega
theorem ilp_eq {k y : Int} (h : iyr k y = true) : ileapB k y = true ∧ ilp k y = 1 ∨ ileapB k y = false ∧ ilp k y = 0 := by
  unfold ilp ileapB
  rw [h]
  cases ilpP k ((y - 1) % 30 + 1)
  · right; exact ⟨rfl, rfl⟩
  · left; exact ⟨rfl, rfl⟩
theorem kind_cases {k : Int} (h0 : 1 ≤ k) (h1 : k ≤ 4) : k = 1 ∨ k = 2 ∨ k = 3 ∨ k = 4 := by omega
theorem icnt_all : ∀ r : Fin 30, ∀ k : Fin 4, icnt ((k : Nat) + 1 : Int) ((r : Nat) + 1 : Int) = icnt ((k : Nat) + 1 : Int) (r : Nat) + (if ilpP ((k : Nat) + 1 : Int) ((r : Nat) + 1 : Int) then 1 else 0) := by decide +kernel
theorem icnt_ends : ∀ k : Fin 4, icnt ((k : Nat) + 1 : Int) 0 = 0 ∧ icnt ((k : Nat) + 1 : Int) 30 = 11 := by decide +kernel
theorem icnt_succ {k r : Int} (k0 : 1 ≤ k) (k1 : k ≤ 4) (r0 : 0 ≤ r) (r1 : r ≤ 29) : icnt k (r + 1) = icnt k r + (if ilpP k (r + 1) then 1 else 0) := by
  have h := icnt_all ⟨r.toNat, by omega⟩ ⟨(k - 1).toNat, by omega⟩
  simp only [show (((k - 1).toNat : Nat) : Int) + 1 = k by omega, show ((r.toNat : Nat) : Int) = r by omega] at h
  exact h
theorem icnt_end {k : Int} (k0 : 1 ≤ k) (k1 : k ≤ 4) : icnt k 0 = 0 ∧ icnt k 30 = 11 := by
  have h := icnt_ends ⟨(k - 1).toNat, by omega⟩
  simp only [show (((k - 1).toNat : Nat) : Int) + 1 = k by omega] at h
  exact h
theorem icnt_bds : ∀ r : Fin 31, ∀ k : Fin 4, 0 ≤ icnt ((k : Nat) + 1 : Int) (r : Nat) ∧ icnt ((k : Nat) + 1 : Int) (r : Nat) ≤ 11 := by decide +kernel
theorem icnt_bd {k r : Int} (k0 : 1 ≤ k) (k1 : k ≤ 4) (r0 : 0 ≤ r) (r1 : r ≤ 30) : 0 ≤ icnt k r ∧ icnt k r ≤ 11 := by
  have h := icnt_bds ⟨r.toNat, by omega⟩ ⟨(k - 1).toNat, by omega⟩
  simp only [show (((k - 1).toNat : Nat) : Int) + 1 = k by omega, show ((r.toNat : Nat) : Int) = r by omega] at h
  exact h
/-- Two kinds have counts that differ by at most one. -/
theorem icnt_nears : ∀ r : Fin 31, ∀ k : Fin 4, ∀ l : Fin 4, icnt ((k : Nat) + 1 : Int) (r : Nat) - icnt ((l : Nat) + 1 : Int) (r : Nat) ≤ 1 := by decide +kernel
theorem icnt_near {k l r : Int} (k0 : 1 ≤ k) (k1 : k ≤ 4) (l0 : 1 ≤ l) (l1 : l ≤ 4) (r0 : 0 ≤ r) (r1 : r ≤ 30) : icnt k r - icnt l r ≤ 1 := by
  have h := icnt_nears ⟨r.toNat, by omega⟩ ⟨(k - 1).toNat, by omega⟩ ⟨(l - 1).toNat, by omega⟩
  simp only [show (((k - 1).toNat : Nat) : Int) + 1 = k by omega, show (((l - 1).toNat : Nat) : Int) + 1 = l by omega, show ((r.toNat : Nat) : Int) = r by omega] at h
  exact h
theorem ifirst_succ {k y : Int} (k0 : 1 ≤ k) (k1 : k ≤ 4) (y0 : 1 ≤ y) : ifirst k (y + 1) = ifirst k y + 354 + ilp k y := by
  have e := icnt_end k0 k1
  have s := icnt_succ (r := (y - 1) % 30) k0 k1 (by omega) (by omega)
  unfold ifirst ilp
  rw [show y + 1 - 1 = y by omega]
  by_cases h : (y - 1) % 30 = 29
  · rw [show y % 30 = 0 by omega, show y / 30 = (y - 1) / 30 + 1 by omega, e.1]
    rw [h] at s ⊢
    rw [show (29 : Int) + 1 = 30 by omega] at s ⊢
    rw [e.2] at s
    omega
  · rw [show y % 30 = (y - 1) % 30 + 1 by omega, show y / 30 = (y - 1) / 30 by omega]
    omega
theorem ifirst_one {k : Int} (k0 : 1 ≤ k) (k1 : k ≤ 4) : ifirst k 1 = -492148 := by
  have e := icnt_end k0 k1
  unfold ifirst
  rw [show ((1 : Int) - 1) % 30 = 0 by decide, e.1]; rfl
theorem ifirst_last {k : Int} (k0 : 1 ≤ k) (k1 : k ≤ 4) : ifirst k 9601 = 2909772 := by
  have e := icnt_end k0 k1
  unfold ifirst
  rw [show ((9601 : Int) - 1) % 30 = 0 by decide, e.1]; decide
/-- The first year of a cycle. -/
theorem ifirst_cycle {k y : Int} (k0 : 1 ≤ k) (k1 : k ≤ 4) (h : (y - 1) % 30 = 0) : ifirst k y = -492148 + (y - 1) / 30 * 10631 := by
  have e := icnt_end k0 k1
  unfold ifirst
  rw [h, e.1]; omega
theorem ifirst_later {k y : Int} : ifirst k (y + 30) = ifirst k y + 10631 := by
  unfold ifirst
  rw [show (y + 30 - 1) / 30 = (y - 1) / 30 + 1 by omega, show (y + 30 - 1) % 30 = (y - 1) % 30 by omega]; omega
theorem ilp_later {k y : Int} : ilp k (y + 30) = ilp k y := by
  unfold ilp
  rw [show (y + 30 - 1) % 30 = (y - 1) % 30 by omega]
theorem ilenM_out {k y m : Int} (h : iyr k y = false ∨ m < 1 ∨ 12 < m) : ilenM k y m = 0 := by unfold ilenM; rw [if_pos h]
theorem ilenM_at {k y m : Int} (h : iyr k y = true) (m0 : 1 ≤ m) (m1 : m ≤ 12) : ilenM k y m = if m % 2 = 1 ∨ m = 12 ∧ ileapB k y = true then 30 else 29 := by
  unfold ilenM; rw [if_neg (by rw [h]; simp; omega)]
theorem ilenM_in {k y m : Int} (h : iyr k y = true) (m0 : 1 ≤ m) (m1 : m ≤ 12) : 29 ≤ ilenM k y m ∧ ilenM k y m ≤ 30 := by
  rw [ilenM_at h m0 m1]; split <;> omega
theorem ilenM_pos {k y m : Int} (h : 0 < ilenM k y m) : iyr k y = true ∧ 1 ≤ m ∧ m ≤ 12 := by
  by_cases q : iyr k y = false ∨ m < 1 ∨ 12 < m
  · rw [ilenM_out q] at h; omega
  · refine ⟨?_, by omega, by omega⟩
    cases z : iyr k y
    · exact absurd (Or.inl z) q
    · rfl
theorem ilenM_bd (k y m : Int) : 0 ≤ ilenM k y m ∧ ilenM k y m ≤ 30 := by
  unfold ilenM; split <;> (try split) <;> omega
theorem ivld_iff {k y m d : Int} : ivld k y m d = true ↔ 1 ≤ d ∧ d ≤ ilenM k y m := by unfold ivld; simp
theorem ivld_split {k y m d : Int} : ivld k y m d = (decide (1 ≤ d) && decide (d ≤ ilenM k y m)) := by unfold ivld; simp
theorem ivld_bd {k y m d : Int} (h : ivld k y m d = true) : 1 ≤ k ∧ k ≤ 4 ∧ 1 ≤ y ∧ y ≤ 9600 ∧ 1 ≤ m ∧ m ≤ 12 ∧ 1 ≤ d ∧ d ≤ 30 := by
  have v := ivld_iff.1 h
  have p := ilenM_pos (show 0 < ilenM k y m by omega)
  have q := iyr_iff.1 p.1
  have l := ilenM_bd k y m
  omega
theorem ivld_yr {k y m d : Int} (h : ivld k y m d = true) : iyr k y = true := by
  have b := ivld_bd h
  exact iyr_iff.2 (by omega)
/-- The days ahead of a month; of the month 13: of the whole year. -/
def icumL (k y m : Int) : Int := if m ≤ 12 then icum m else 354 + ilp k y
theorem icumL_late {k y m : Int} (h : m ≤ 12) : icumL k y m = icum m := by unfold icumL; rw [if_pos h]
theorem icumL_end (k y : Int) : icumL k y 13 = 354 + ilp k y := rfl
theorem icumL_one (k y : Int) : icumL k y 1 = 0 := rfl
theorem icumL_succ {k y m : Int} (h : iyr k y = true) (m0 : 1 ≤ m) (m1 : m ≤ 12) : icumL k y (m + 1) = icumL k y m + ilenM k y m := by
  rw [ilenM_at h m0 m1, icumL_late m1]
  have e := ilp_eq h
  by_cases q : m = 12
  · subst q
    rw [show (12 : Int) + 1 = 13 by omega, icumL_end]
    unfold icum
    rcases e with ⟨a, b⟩ | ⟨a, b⟩
    · rw [if_pos (Or.inr ⟨rfl, a⟩), b]; decide
    · rw [if_neg (by rw [a]; simp), b]; decide
  · rw [icumL_late (by omega)]
    unfold icum
    have z : ¬ (m = 12 ∧ ileapB k y = true) := fun c => q c.1
    by_cases o : m % 2 = 1
    · rw [if_pos (Or.inl o)]; omega
    · rw [if_neg (by rintro (c | c); exact o c; exact z c)]; omega
theorem icumL_mono {k y : Int} (h : iyr k y = true) : ∀ (j : Nat) (m : Int), 1 ≤ m → m + j ≤ 13 → icumL k y m ≤ icumL k y (m + j) := by
  intro j
  induction j with
  | zero => intro m _ _; simp
  | succ j ih =>
    intro m m0 m1
    have a := ih m m0 (by omega)
    have b := icumL_succ h (m := m + j) (by omega) (by omega)
    have c := ilenM_in h (m := m + j) (by omega) (by omega)
    rw [show m + ((j + 1 : Nat) : Int) = m + (j : Int) + 1 by omega]
    omega
theorem icumL_bd {k y m : Int} (h : iyr k y = true) (m0 : 1 ≤ m) (m1 : m ≤ 13) : 0 ≤ icumL k y m ∧ icumL k y m ≤ 355 := by
  have a := icumL_mono h (m - 1).toNat 1 (by omega) (by omega)
  have b := icumL_mono h (13 - m).toNat m m0 (by omega)
  rw [show (1 : Int) + ((m - 1).toNat : Int) = m by omega, icumL_one] at a
  rw [show m + ((13 - m).toNat : Int) = 13 by omega, icumL_end] at b
  have := ilp_01 k y
  omega
theorem ifirst_mono {k : Int} (k0 : 1 ≤ k) (k1 : k ≤ 4) : ∀ (j : Nat) (y : Int), 1 ≤ y → ifirst k y + 354 * j ≤ ifirst k (y + j) := by
  intro j
  induction j with
  | zero => intro y _; simp
  | succ j ih =>
    intro y y0
    have a := ih y y0
    have b := ifirst_succ (y := y + j) k0 k1 (by omega)
    have c := ilp_01 k (y + j)
    rw [show y + ((j + 1 : Nat) : Int) = y + (j : Int) + 1 by omega]
    omega
theorem ifirst_le {k y z : Int} (k0 : 1 ≤ k) (k1 : k ≤ 4) (y0 : 1 ≤ y) (h : y ≤ z) : ifirst k y + 354 * (z - y) ≤ ifirst k z := by
  have a := ifirst_mono k0 k1 (z - y).toNat y y0
  rw [show y + ((z - y).toNat : Int) = z by omega] at a
  omega
theorem ifirst_bd {k y : Int} (k0 : 1 ≤ k) (k1 : k ≤ 4) (y0 : 1 ≤ y) (y1 : y ≤ 9601) : -492148 ≤ ifirst k y ∧ ifirst k y ≤ 2909772 := by
  have a := ifirst_le k0 k1 (y := 1) (z := y) (by omega) y0
  have b := ifirst_le k0 k1 y0 y1
  rw [ifirst_one k0 k1] at a
  rw [ifirst_last k0 k1] at b
  omega
theorem iday_in {k y m d : Int} (h : ivld k y m d = true) : ifirst k y ≤ idayN k y m d ∧ idayN k y m d < ifirst k (y + 1) ∧ idayN k y m d = ifirst k y + icumL k y m + d - 1 := by
  obtain ⟨k0, k1, y0, y1, m0, m1, d0, d1⟩ := ivld_bd h
  have r := ivld_yr h
  have v := ivld_iff.1 h
  have a := icumL_succ r m0 m1
  have b := icumL_bd r m0 (by omega)
  have c := icumL_mono r (12 - m).toNat (m + 1) (by omega) (by omega)
  rw [show m + 1 + ((12 - m).toNat : Int) = 13 by omega, icumL_end] at c
  have e := ifirst_succ k0 k1 y0
  have l := icumL_late (k := k) (y := y) m1
  unfold idayN
  omega
theorem iday_range {k y m d : Int} (h : ivld k y m d = true) : -492148 ≤ idayN k y m d ∧ idayN k y m d < 2909772 := by
  obtain ⟨k0, k1, y0, y1, m0, m1, d0, d1⟩ := ivld_bd h
  have a := iday_in h
  have b := ifirst_bd k0 k1 y0 (show y ≤ 9601 by omega)
  have c := ifirst_bd k0 k1 (show 1 ≤ y + 1 by omega) (show y + 1 ≤ 9601 by omega)
  omega
theorem iday_inj {k y m d y' m' d' : Int} (h : ivld k y m d = true) (h' : ivld k y' m' d' = true) (e : idayN k y m d = idayN k y' m' d') : y = y' ∧ m = m' ∧ d = d' := by
  obtain ⟨k0, k1, y0, y1, m0, m1, d0, d1⟩ := ivld_bd h
  obtain ⟨-, -, y0', y1', m0', m1', d0', d1'⟩ := ivld_bd h'
  have a := iday_in h
  have a' := iday_in h'
  have hy : y = y' := by
    rcases Int.lt_or_le y y' with z | z
    · have := ifirst_le k0 k1 (y := y + 1) (z := y') (by omega) (by omega); omega
    · rcases Int.lt_or_le y' y with z' | z'
      · have := ifirst_le k0 k1 (y := y' + 1) (z := y) (by omega) (by omega); omega
      · omega
  subst hy
  have r := ivld_yr h
  have v := ivld_iff.1 h
  have v' := ivld_iff.1 h'
  have hm : m = m' := by
    rcases Int.lt_or_le m m' with z | z
    · have s := icumL_succ r m0 m1
      have := icumL_mono r (m' - (m + 1)).toNat (m + 1) (by omega) (by omega)
      rw [show m + 1 + ((m' - (m + 1)).toNat : Int) = m' by omega] at this
      omega
    · rcases Int.lt_or_le m' m with z' | z'
      · have s := icumL_succ r m0' m1'
        have := icumL_mono r (m - (m' + 1)).toNat (m' + 1) (by omega) (by omega)
        rw [show m' + 1 + ((m - (m' + 1)).toNat : Int) = m by omega] at this
        omega
      · omega
  subst hm
  omega
theorem iyear_of {k n : Int} (k0 : 1 ≤ k) (k1 : k ≤ 4) (h0 : -492148 ≤ n) : ∀ j : Nat, j ≤ 9600 → n < ifirst k (1 + j) → ∃ y, 1 ≤ y ∧ y ≤ 9600 ∧ ifirst k y ≤ n ∧ n < ifirst k (y + 1) := by
  intro j
  induction j with
  | zero => intro _ h; rw [show (1 : Int) + ((0 : Nat) : Int) = 1 by omega, ifirst_one k0 k1] at h; omega
  | succ j ih =>
    intro hj h
    by_cases c : n < ifirst k (1 + j)
    · exact ih (by omega) c
    · exact ⟨1 + j, by omega, by omega, by omega, by rw [show (1 : Int) + (j : Int) + 1 = 1 + ((j + 1 : Nat) : Int) by omega]; exact h⟩
theorem imonth_of {k y x : Int} (h0 : 0 ≤ x) : ∀ j : Nat, j ≤ 12 → x < icumL k y (1 + j) → ∃ m, 1 ≤ m ∧ m ≤ 12 ∧ icumL k y m ≤ x ∧ x < icumL k y (m + 1) := by
  intro j
  induction j with
  | zero => intro _ h; rw [show (1 : Int) + ((0 : Nat) : Int) = 1 by omega, icumL_one] at h; omega
  | succ j ih =>
    intro hj h
    by_cases c : x < icumL k y (1 + j)
    · exact ih (by omega) c
    · exact ⟨1 + j, by omega, by omega, by omega, by rw [show (1 : Int) + (j : Int) + 1 = 1 + ((j + 1 : Nat) : Int) by omega]; exact h⟩
theorem idate_of {k n : Int} (k0 : 1 ≤ k) (k1 : k ≤ 4) (h0 : -492148 ≤ n) (h1 : n < 2909772) : ∃ y m d, ivld k y m d = true ∧ idayN k y m d = n := by
  obtain ⟨y, y0, y1, a, b⟩ := iyear_of k0 k1 h0 9600 (by omega) (by rw [show (1 : Int) + ((9600 : Nat) : Int) = 9601 by omega, ifirst_last k0 k1]; exact h1)
  have s := ifirst_succ k0 k1 y0
  have r : iyr k y = true := iyr_iff.2 (by omega)
  obtain ⟨m, m0, m1, c, d⟩ := imonth_of (k := k) (x := n - ifirst k y) (y := y) (by omega) 12 (by omega) (by rw [show (1 : Int) + ((12 : Nat) : Int) = 13 by omega, icumL_end]; omega)
  have q := icumL_succ r m0 m1
  have l := icumL_late (k := k) (y := y) m1
  refine ⟨y, m, n - ifirst k y - icumL k y m + 1, ivld_iff.2 ⟨by omega, by omega⟩, ?_⟩
  unfold idayN; omega
theorem inext_in {k y m d : Int} (h : ivld k y m d = true) (q : d < ilenM k y m) : ivld k y m (d + 1) = true ∧ idayN k y m (d + 1) = idayN k y m d + 1 := by
  have v := ivld_iff.1 h
  exact ⟨ivld_iff.2 ⟨by omega, by omega⟩, by unfold idayN; omega⟩
theorem inext_month {k y m d : Int} (h : ivld k y m d = true) (q : d = ilenM k y m) (hm : m < 12) : ivld k y (m + 1) 1 = true ∧ idayN k y (m + 1) 1 = idayN k y m d + 1 := by
  obtain ⟨k0, k1, y0, y1, m0, m1, d0, d1⟩ := ivld_bd h
  have r := ivld_yr h
  have l := ilenM_in r (m := m + 1) (by omega) (by omega)
  have h' : ivld k y (m + 1) 1 = true := ivld_iff.2 ⟨by omega, by omega⟩
  have s := icumL_succ r m0 m1
  have a := icumL_late (k := k) (y := y) m1
  have b := icumL_late (k := k) (y := y) (show m + 1 ≤ 12 by omega)
  exact ⟨h', by unfold idayN; omega⟩
theorem iday_first {k y : Int} (h : iyr k y = true) : ivld k y 1 1 = true ∧ idayN k y 1 1 = ifirst k y := by
  have l := ilenM_in h (m := 1) (by omega) (by omega)
  refine ⟨ivld_iff.2 ⟨by omega, by omega⟩, ?_⟩
  unfold idayN icum; omega
theorem inext_year {k y m d : Int} (h : ivld k y m d = true) (q : d = ilenM k y m) (hm : m = 12) (hy : y < 9600) : ivld k (y + 1) 1 1 = true ∧ idayN k (y + 1) 1 1 = idayN k y m d + 1 := by
  obtain ⟨k0, k1, y0, y1, m0, m1, d0, d1⟩ := ivld_bd h
  have r := ivld_yr h
  have r' : iyr k (y + 1) = true := iyr_iff.2 (by omega)
  have f := iday_first r'
  have s := icumL_succ r m0 m1
  have a := icumL_late (k := k) (y := y) m1
  have g := ifirst_succ k0 k1 y0
  subst hm
  have e : icumL k y (12 + 1) = 354 + ilp k y := icumL_end k y
  exact ⟨f.1, by rw [f.2]; unfold idayN; omega⟩
theorem ilast_day {k y m d : Int} (h : ivld k y m d = true) (e : idayN k y m d = 2909771) : y = 9600 ∧ m = 12 ∧ d = ilenM k 9600 12 := by
  obtain ⟨k0, k1, y0, y1, m0, m1, d0, d1⟩ := ivld_bd h
  have r : iyr k 9600 = true := iyr_iff.2 (by omega)
  have l := ilenM_in r (m := 12) (by omega) (by omega)
  have h' : ivld k 9600 12 (ilenM k 9600 12) = true := ivld_iff.2 ⟨by omega, by omega⟩
  have s := icumL_succ r (m := 12) (by omega) (by omega)
  have a := icumL_late (k := k) (y := 9600) (m := 12) (by omega)
  have g := ifirst_succ (y := 9600) k0 k1 (by omega)
  rw [show (9600 : Int) + 1 = 9601 by omega, ifirst_last k0 k1] at g
  rw [show (12 : Int) + 1 = 13 by omega, icumL_end] at s
  exact iday_inj h h' (by rw [e]; unfold idayN; omega)
theorem iday_later {k y m d : Int} (h : ivld k y m d = true) (hy : y + 30 ≤ 9600) : ivld k (y + 30) m d = true ∧ idayN k (y + 30) m d = idayN k y m d + 10631 := by
  obtain ⟨k0, k1, y0, y1, m0, m1, d0, d1⟩ := ivld_bd h
  have r := ivld_yr h
  have r' : iyr k (y + 30) = true := iyr_iff.2 (by omega)
  have v := ivld_iff.1 h
  have b : ileapB k (y + 30) = ileapB k y := by unfold ileapB; rw [r, r', show (y + 30 - 1) % 30 = (y - 1) % 30 by omega]
  refine ⟨ivld_iff.2 ⟨d0, ?_⟩, ?_⟩
  · rw [ilenM_at r' m0 m1, b, ← ilenM_at r m0 m1]; exact v.2
  · unfold idayN; rw [ifirst_later]; omega
/-- Two kinds are at most one day apart. -/
theorem iday_near {k l y m d : Int} (h : ivld k y m d = true) (h' : ivld l y m d = true) : idayN k y m d - idayN l y m d ≤ 1 := by
  obtain ⟨k0, k1, y0, y1, m0, m1, d0, d1⟩ := ivld_bd h
  obtain ⟨l0, l1, -⟩ := ivld_bd h'
  have c := icnt_near (r := (y - 1) % 30) k0 k1 l0 l1 (by omega) (by omega)
  unfold idayN ifirst
  omega
theorem idate_lt {k y m d y' m' d' : Int} (h : ivld k y m d = true) (h' : ivld k y' m' d' = true) (q : y < y' ∨ y = y' ∧ (m < m' ∨ m = m' ∧ d < d')) : idayN k y m d < idayN k y' m' d' := by
  obtain ⟨k0, k1, y0, y1, m0, m1, d0, d1⟩ := ivld_bd h
  obtain ⟨-, -, y0', y1', m0', m1', d0', d1'⟩ := ivld_bd h'
  have a := iday_in h
  have b := iday_in h'
  rcases q with q | ⟨rfl, q | ⟨rfl, q⟩⟩
  · have f := ifirst_le k0 k1 (y := y + 1) (z := y') (by omega) (by omega); omega
  · have r := ivld_yr h
    have s := icumL_succ r m0 m1
    have mo := icumL_mono r (m' - (m + 1)).toNat (m + 1) (by omega) (by omega)
    rw [show m + 1 + ((m' - (m + 1)).toNat : Int) = m' by omega] at mo
    have v := ivld_iff.1 h
    omega
  · omega
end Go.Proofs.YtobipbmigpkhmaaDoor

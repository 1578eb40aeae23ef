/- Plain facts on the order of the months in a year of the Hebrew calendar; its dates and days. No program is mentioned. -/
import Derived.Test.YtpkkhkkanpcniaaHeMath
import Derived.WalkKit
namespace Go.Proofs.Ytpkkhkkanpcniaa
open Go.RowKit
set_option linter.unusedVariables false

/-- The months in the order of the year. -/
def hord (b : Bool) : List Int := if b then [7, 8, 9, 10, 11, 12, 13, 1, 2, 3, 4, 5, 6] else [7, 8, 9, 10, 11, 12, 1, 2, 3, 4, 5, 6]
def hcn (b : Bool) : Nat := if b then 13 else 12
/-- The place of a month in it. -/
def hpos (b : Bool) (m : Int) : Nat := (if 7 ≤ m then m - 7 else m + (if b then 6 else 5)).toNat
/-- The days ahead of a place. -/
def hS (b : Bool) (l : Int) (i : Nat) : Int := (((hord b).take i).map (hlenB b l)).sum
def hsix (b : Bool) (l : Int) : Prop := b = true ∧ 383 ≤ l ∧ l ≤ 385 ∨ b = false ∧ 353 ≤ l ∧ l ≤ 355
theorem hord_len (b : Bool) : (hord b).length = hcn b := by cases b <;> rfl
theorem hS_zero (b : Bool) (l : Int) : hS b l 0 = 0 := by unfold hS; rfl
theorem hS_succ (b : Bool) (l : Int) (i : Nat) (h : i < hcn b) : hS b l (i + 1) = hS b l i + hlenB b l ((hord b).getD i 0) := by
  unfold hS
  rw [List.take_add_one, List.map_append, List.sum_append]
  have q : i < (hord b).length := by rw [hord_len]; exact h
  rw [List.getD_eq_getElem?_getD, List.getElem?_eq_getElem q]
  simp
theorem hS_end {b : Bool} {l : Int} (h : hsix b l) : hS b l (hcn b) = l := by
  rcases h with ⟨rfl, h0, h1⟩ | ⟨rfl, h0, h1⟩
  · have : l = 383 ∨ l = 384 ∨ l = 385 := by omega
    rcases this with rfl | rfl | rfl <;> decide
  · have : l = 353 ∨ l = 354 ∨ l = 355 := by omega
    rcases this with rfl | rfl | rfl <;> decide
theorem hS_mono (b : Bool) (l : Int) : ∀ (j i : Nat), i + j ≤ hcn b → hS b l i + 29 * j ≤ hS b l (i + j) := by
  intro j
  induction j with
  | zero => intro i _; simp
  | succ j ih =>
    intro i h
    have a := ih i (by omega)
    have s := hS_succ b l (i + j) (by omega)
    have c := hlenB_bd b l ((hord b).getD (i + j) 0)
    rw [← Nat.add_assoc]
    omega
theorem hS_le {b : Bool} {l : Int} {i j : Nat} (h : i ≤ j) (h1 : j ≤ hcn b) : hS b l i + 29 * ((j : Int) - i) ≤ hS b l j := by
  have a := hS_mono b l (j - i) i (by omega)
  rw [show i + (j - i) = j by omega] at a
  omega
theorem hS_bd {b : Bool} {l : Int} {i : Nat} (h : i ≤ hcn b) : 0 ≤ hS b l i ∧ hS b l i ≤ 400 := by
  have a := hS_le (b := b) (l := l) (Nat.zero_le i) h
  rw [hS_zero] at a
  have up : ∀ j : Nat, j ≤ hcn b → hS b l j ≤ 30 * j := by
    intro j
    induction j with
    | zero => intro _; rw [hS_zero]; omega
    | succ j ih =>
      intro hj
      have s := hS_succ b l j (by omega)
      have c := hlenB_bd b l ((hord b).getD j 0)
      have := ih (by omega)
      omega
  have := up i h
  have c : hcn b ≤ 13 := by cases b <;> decide
  omega
/-- A month and its place. -/
theorem hpos_at {b : Bool} {m : Int} (m0 : 1 ≤ m) (m1 : m ≤ hcn b) : hpos b m < hcn b ∧ (hord b).getD (hpos b m) 0 = m := by
  have h : ∀ b : Bool, ∀ k : Fin 13, (k : Nat) + 1 ≤ hcn b → hpos b ((k : Nat) + 1 : Int) < hcn b ∧ (hord b).getD (hpos b ((k : Nat) + 1 : Int)) 0 = ((k : Nat) + 1 : Int) := by decide +kernel
  have c : hcn b ≤ 13 := by cases b <;> decide
  have q := h b ⟨(m - 1).toNat, by omega⟩ (by show (m - 1).toNat + 1 ≤ _; omega)
  simp only [show (((m - 1).toNat : Nat) : Int) + 1 = m by omega] at q
  exact q
theorem hord_at {b : Bool} {i : Nat} (h : i < hcn b) : 1 ≤ (hord b).getD i 0 ∧ (hord b).getD i 0 ≤ hcn b ∧ hpos b ((hord b).getD i 0) = i := by
  have q : ∀ b : Bool, ∀ i : Fin 13, (i : Nat) < hcn b → 1 ≤ (hord b).getD (i : Nat) 0 ∧ (hord b).getD (i : Nat) 0 ≤ hcn b ∧ hpos b ((hord b).getD (i : Nat) 0) = (i : Nat) := by decide +kernel
  have c : hcn b ≤ 13 := by cases b <;> decide
  exact q b ⟨i, by omega⟩ h
theorem hsix_yr (y : Int) : hsix (hlp y) (hyl y) := by
  have := hlen y
  unfold hsix hyl; exact this
theorem hmn_cn {y : Int} (h : hyr y = true) : hmn y = hcn (hlp y) := by
  rcases hmn_in h with ⟨a, b⟩ | ⟨a, b⟩ <;> rw [a, b] <;> rfl
theorem hlenM_at {y m : Int} (h : hyr y = true) (m0 : 1 ≤ m) (m1 : m ≤ hmn y) : hlenM y m = hlenB (hlp y) (hyl y) m := by
  unfold hlenM; rw [if_neg (by omega)]
theorem hlenM_in {y m : Int} (h : hyr y = true) (m0 : 1 ≤ m) (m1 : m ≤ hmn y) : 29 ≤ hlenM y m ∧ hlenM y m ≤ 30 := by
  rw [hlenM_at h m0 m1]; exact hlenB_bd _ _ _
theorem hlenM_pos {y m : Int} (h : 0 < hlenM y m) : hyr y = true ∧ 1 ≤ m ∧ m ≤ hmn y := by
  unfold hlenM at h
  split at h
  · omega
  · refine ⟨?_, by omega, by omega⟩
    cases z : hyr y
    · rw [hmn_out z] at *; omega
    · rfl
/-- The first day of a month, the day of a date. -/
def hfst (y m : Int) : Int := hN y + hS (hlp y) (hyl y) (hpos (hlp y) m)
def hday (y m d : Int) : Int := hfst y m + d - 1
def hvld (y m d : Int) : Bool := decide (1 ≤ d ∧ d ≤ hlenM y m)
theorem hvld_iff {y m d : Int} : hvld y m d = true ↔ 1 ≤ d ∧ d ≤ hlenM y m := by unfold hvld; simp
theorem hvld_bd {y m d : Int} (h : hvld y m d = true) : hyr y = true ∧ 1 ≤ y ∧ y ≤ 20000 ∧ 1 ≤ m ∧ m ≤ hmn y ∧ m ≤ 13 ∧ 1 ≤ d ∧ d ≤ 30 := by
  have v := hvld_iff.1 h
  have p := hlenM_pos (show 0 < hlenM y m by omega)
  have b := hmn_bd y
  have l := hlenM_bd y m
  have q := hyr_iff.1 p.1
  exact ⟨p.1, q.1, q.2, p.2.1, p.2.2, by omega, v.1, by omega⟩
theorem hday_in {y m d : Int} (h : hvld y m d = true) : hN y ≤ hday y m d ∧ hday y m d < hN (y + 1) ∧ hpos (hlp y) m < hcn (hlp y) ∧ hS (hlp y) (hyl y) (hpos (hlp y) m) ≤ hday y m d - hN y ∧ hday y m d - hN y < hS (hlp y) (hyl y) (hpos (hlp y) m + 1) := by
  obtain ⟨hy, y0, y1, m0, m1, -, d0, d1⟩ := hvld_bd h
  have v := hvld_iff.1 h
  rw [hlenM_at hy m0 m1] at v
  rw [hmn_cn hy] at m1
  obtain ⟨p0, p1⟩ := hpos_at m0 m1
  have s := hS_succ (hlp y) (hyl y) _ p0
  rw [p1] at s
  have b := hS_bd (b := hlp y) (l := hyl y) (Nat.le_of_lt p0)
  have t := hS_le (b := hlp y) (l := hyl y) (show hpos (hlp y) m + 1 ≤ hcn (hlp y) from p0) (Nat.le_refl _)
  rw [hS_end (hsix_yr y)] at t
  unfold hday hfst
  unfold hyl at *
  omega
theorem hplace_uniq {b : Bool} {l x : Int} {i j : Nat} (hi : i < hcn b) (hj : j < hcn b) (a0 : hS b l i ≤ x) (a1 : x < hS b l (i + 1)) (b0 : hS b l j ≤ x) (b1 : x < hS b l (j + 1)) : i = j := by
  rcases Nat.lt_trichotomy i j with z | z | z
  · have := hS_le (b := b) (l := l) (show i + 1 ≤ j from z) (Nat.le_of_lt hj); omega
  · exact z
  · have := hS_le (b := b) (l := l) (show j + 1 ≤ i from z) (Nat.le_of_lt hi); omega
theorem hday_inj {y m d y' m' d' : Int} (h : hvld y m d = true) (h' : hvld y' m' d' = true) (e : hday y m d = hday y' m' d') : y = y' ∧ m = m' ∧ d = d' := by
  obtain ⟨hy, y0, y1, m0, m1, -, d0, d1⟩ := hvld_bd h
  obtain ⟨hy', y0', y1', m0', m1', -, d0', d1'⟩ := hvld_bd h'
  have a := hday_in h
  have a' := hday_in h'
  have yy : y = y' := by
    rcases Int.lt_or_le y y' with z | z
    · have := hN_le (y := y + 1) (z := y') (by omega); omega
    · rcases Int.lt_or_le y' y with z' | z'
      · have := hN_le (y := y' + 1) (z := y) (by omega); omega
      · omega
  subst yy
  have p := hplace_uniq a.2.2.1 a'.2.2.1 a.2.2.2.1 a.2.2.2.2 (by rw [e]; exact a'.2.2.2.1) (by rw [e]; exact a'.2.2.2.2)
  rw [hmn_cn hy] at m1 m1'
  have q := hpos_at m0 m1
  have q' := hpos_at m0' m1'
  have mm : m = m' := by rw [← q.2, ← q'.2, p]
  subst mm
  unfold hday at e
  omega
theorem hyear_of {n : Int} (h0 : hN 1 ≤ n) : ∀ j : Nat, n < hN (1 + j) → ∃ y : Int, 1 ≤ y ∧ y < 1 + j ∧ hN y ≤ n ∧ n < hN (y + 1) := by
  intro j
  induction j with
  | zero => intro h; rw [show (1 : Int) + ((0 : Nat) : Int) = 1 by omega] at h; omega
  | succ j ih =>
    intro h
    by_cases c : n < hN (1 + j)
    · obtain ⟨y, a, b, c, d⟩ := ih c
      exact ⟨y, a, by omega, c, d⟩
    · exact ⟨1 + j, by omega, by omega, by omega, by rw [show (1 : Int) + (j : Int) + 1 = 1 + ((j + 1 : Nat) : Int) by omega]; exact h⟩
theorem hplace_of {b : Bool} {l x : Int} (h0 : 0 ≤ x) : ∀ j : Nat, j ≤ hcn b → x < hS b l j → ∃ i, i < hcn b ∧ hS b l i ≤ x ∧ x < hS b l (i + 1) := by
  intro j
  induction j with
  | zero => intro _ h; rw [hS_zero] at h; omega
  | succ j ih =>
    intro hj h
    by_cases c : x < hS b l j
    · exact ih (by omega) c
    · exact ⟨j, by omega, by omega, h⟩
/-- A day of a year, by its place. -/
theorem hday_place {y n : Int} {i : Nat} (hy : hyr y = true) (hi : i < hcn (hlp y)) (a0 : hS (hlp y) (hyl y) i ≤ n - hN y) (a1 : n - hN y < hS (hlp y) (hyl y) (i + 1)) :
    hvld y ((hord (hlp y)).getD i 0) (n - hN y - hS (hlp y) (hyl y) i + 1) = true ∧ hday y ((hord (hlp y)).getD i 0) (n - hN y - hS (hlp y) (hyl y) i + 1) = n := by
  obtain ⟨m0, m1, p⟩ := hord_at hi
  have s := hS_succ (hlp y) (hyl y) i hi
  have l := hlenM_at (y := y) (m := (hord (hlp y)).getD i 0) hy m0 (by rw [hmn_cn hy]; exact m1)
  refine ⟨hvld_iff.2 ⟨by omega, by omega⟩, ?_⟩
  unfold hday hfst; rw [p]; omega
theorem hdate_of {n : Int} (h0 : hN 1 ≤ n) (h1 : n < hN 20001) : ∃ y m d, hvld y m d = true ∧ hday y m d = n := by
  obtain ⟨y, y0, y1, a, b⟩ := hyear_of h0 20000 (by rw [show (1 : Int) + ((20000 : Nat) : Int) = 20001 by omega]; exact h1)
  have hy : hyr y = true := hyr_iff.2 (by omega)
  obtain ⟨i, hi, c, d⟩ := hplace_of (b := hlp y) (l := hyl y) (x := n - hN y) (by omega) (hcn (hlp y)) (Nat.le_refl _) (by rw [hS_end (hsix_yr y)]; unfold hyl; omega)
  exact ⟨y, _, _, hday_place hy hi c d⟩
theorem hN_first : hN 1 = -2092590 := by decide +kernel
theorem hN_last : hN 20001 = 5212335 := by decide +kernel
theorem hN_bd {y : Int} (y0 : 1 ≤ y) (y1 : y ≤ 20001) : -2092590 ≤ hN y ∧ hN y ≤ 5212335 := by
  have a := hN_le y0
  have b := hN_le y1
  rw [hN_first] at a
  rw [hN_last] at b
  omega
end Go.Proofs.Ytpkkhkkanpcniaa

/- Plain facts on groups of months of the Islamic calendar. No program is mentioned. -/
import Derived.Test.YtobipbmigpkhmaaDoorIsMath
import Derived.WalkKit
namespace Go.Proofs.YtobipbmigpkhmaaDoor
open Go.RowKit
set_option linter.unusedVariables false

/-- The day, from the beginning of a cycle on, on which its month j begins (the first one: 0). -/
def imon (k j : Int) : Int := 354 * (j / 12) + icnt k (j / 12) + icum (j % 12 + 1)
theorem imon_zero {k : Int} (k0 : 1 ≤ k) (k1 : k ≤ 4) : imon k 0 = 0 := by
  have e := icnt_end k0 k1
  unfold imon
  rw [show (0 : Int) / 12 = 0 by decide, e.1]; decide
theorem imon_end {k : Int} (k0 : 1 ≤ k) (k1 : k ≤ 4) : imon k 360 = 10631 := by
  have e := icnt_end k0 k1
  unfold imon
  rw [show (360 : Int) / 12 = 30 by decide, e.2]; decide
theorem imon_succ {k f j : Int} (k0 : 1 ≤ k) (k1 : k ≤ 4) (f0 : 1 ≤ f) (f1 : f ≤ 9571) (hf : (f - 1) % 30 = 0) (j0 : 0 ≤ j) (j1 : j < 360) :
    imon k (j + 1) = imon k j + ilenM k (f + j / 12) (j % 12 + 1) := by
  have hr : iyr k (f + j / 12) = true := iyr_iff.2 (by omega)
  have s := icumL_succ hr (m := j % 12 + 1) (by omega) (by omega)
  have a := icumL_late (k := k) (y := f + j / 12) (m := j % 12 + 1) (by omega)
  unfold imon
  by_cases q : j % 12 = 11
  · rw [q, show (11 : Int) + 1 = 12 by decide] at s a ⊢
    rw [show (12 : Int) + 1 = 13 by decide, icumL_end] at s
    have c := icnt_succ (r := j / 12) k0 k1 (by omega) (by omega)
    have l : ilp k (f + j / 12) = if ilpP k (j / 12 + 1) then 1 else 0 := by unfold ilp; rw [show (f + j / 12 - 1) % 30 = j / 12 by omega]
    rw [← l] at c
    rw [show (j + 1) / 12 = j / 12 + 1 by omega, show (j + 1) % 12 = 0 by omega, c]
    have z : icum (0 + 1) = 0 := by decide
    omega
  · have b := icumL_late (k := k) (y := f + j / 12) (m := j % 12 + 1 + 1) (by omega)
    rw [show (j + 1) / 12 = j / 12 by omega, show (j + 1) % 12 + 1 = j % 12 + 1 + 1 by omega]
    omega
theorem imon_mono {k : Int} (k0 : 1 ≤ k) (k1 : k ≤ 4) : ∀ (i : Nat) (j : Int), 0 ≤ j → j + i ≤ 360 → imon k j + 29 * i ≤ imon k (j + i) := by
  intro i
  induction i with
  | zero => intro j _ _; simp
  | succ i ih =>
    intro j j0 j1
    have a := ih j j0 (by omega)
    have b := imon_succ (f := 1) (j := j + i) k0 k1 (by omega) (by omega) (by omega) (by omega) (by omega)
    have hr : iyr k (1 + (j + i) / 12) = true := iyr_iff.2 (by omega)
    have c := ilenM_in hr (m := (j + i) % 12 + 1) (by omega) (by omega)
    rw [show j + ((i + 1 : Nat) : Int) = j + (i : Int) + 1 by omega]
    omega
theorem imon_bd {k j : Int} (k0 : 1 ≤ k) (k1 : k ≤ 4) (j0 : 0 ≤ j) (j1 : j ≤ 360) : 0 ≤ imon k j ∧ imon k j ≤ 10631 := by
  have a := imon_mono k0 k1 j.toNat 0 (by omega) (by omega)
  have b := imon_mono k0 k1 (360 - j).toNat j j0 (by omega)
  rw [show (0 : Int) + (j.toNat : Int) = j by omega, imon_zero k0 k1] at a
  rw [show j + ((360 - j).toNat : Int) = 360 by omega, imon_end k0 k1] at b
  omega
theorem imon_le {k i j : Int} (k0 : 1 ≤ k) (k1 : k ≤ 4) (i0 : 0 ≤ i) (h : i ≤ j) (j1 : j ≤ 360) : imon k i ≤ imon k j := by
  have a := imon_mono k0 k1 (j - i).toNat i i0 (by omega)
  rw [show i + ((j - i).toNat : Int) = j by omega] at a
  omega
/-- The month j of the cycle that begins with the year f, by its year and its number. -/
theorem imon_day {k f j : Int} (k0 : 1 ≤ k) (k1 : k ≤ 4) (f0 : 1 ≤ f) (f1 : f ≤ 9571) (hf : (f - 1) % 30 = 0) (j0 : 0 ≤ j) (j1 : j < 360) :
    ivld k (f + j / 12) (j % 12 + 1) 1 = true ∧ idayN k (f + j / 12) (j % 12 + 1) 1 = ifirst k f + imon k j := by
  have hr : iyr k (f + j / 12) = true := iyr_iff.2 (by omega)
  have l := ilenM_in hr (m := j % 12 + 1) (by omega) (by omega)
  refine ⟨ivld_iff.2 ⟨by omega, by omega⟩, ?_⟩
  have c := ifirst_cycle k0 k1 hf
  unfold idayN imon
  rw [c]
  unfold ifirst
  rw [show (f + j / 12 - 1) / 30 = (f - 1) / 30 by omega, show (f + j / 12 - 1) % 30 = j / 12 by omega]
  omega
/-- The spans of groups of n months: c of them. -/
def ispans (k n : Int) (c : Nat) : List (Int × Int) := (List.range c).map fun i : Nat => (imon k ((i : Int) * n), imon k ((i : Int) * n + n))
theorem ispans_length (k n : Int) (c : Nat) : (ispans k n c).length = c := by simp [ispans]
theorem ispans_succ (k n : Int) (c : Nat) : ispans k n (c + 1) = ispans k n c ++ [(imon k (c * n), imon k ((c : Int) * n + n))] := by
  unfold ispans; rw [List.range_succ, List.map_append]; rfl
theorem ispans_get (k n : Int) (c i : Nat) (h : i < c) : (ispans k n c).getD i (0, 0) = (imon k (i * n), imon k ((i : Int) * n + n)) := by
  simp [ispans, List.getD_eq_getElem?_getD, h]
/-- Groups of n months fill the cycle. -/
theorem group_le {n X : Int} {i c : Nat} (n0 : 1 ≤ n) (hc : (c : Int) * n = 360) (hX : X = i * n) (h : X < 360) : i < c ∧ X + n ≤ 360 ∧ ((i + 1 : Nat) : Int) * n = X + n := by
  have hic : i < c := by
    rcases Nat.lt_or_ge i c with z | z
    · exact z
    · have := Int.mul_le_mul_of_nonneg_right (show (c : Int) ≤ i by omega) (show (0 : Int) ≤ n by omega)
      omega
  have e : ((i + 1 : Nat) : Int) * n = X + n := by rw [Int.natCast_add, Int.add_mul, hX]; simp
  have := Int.mul_le_mul_of_nonneg_right (show ((i + 1 : Nat) : Int) ≤ c by omega) (show (0 : Int) ≤ n by omega)
  exact ⟨hic, by omega, e⟩
theorem group_end {n X : Int} {i c : Nat} (n0 : 1 ≤ n) (hc : (c : Int) * n = 360) (hX : X = i * n) (h : ¬ X < 360) (h2 : X ≤ 360) : i = c ∧ X = 360 := by
  have hx : X = 360 := by omega
  have e : (i : Int) * n = c * n := by omega
  have := Int.eq_of_mul_eq_mul_right (show n ≠ 0 by omega) e
  exact ⟨by omega, hx⟩
/-- Months: the error number, the first day, the period, the spans. -/
def imonE (k f n : Int) : Int := if ikd k = false ∨ n < 1 ∨ 360 < n ∨ ¬ 360 % n = 0 then 1 else if f < 1 ∨ 9571 < f ∨ ¬ (f - 1) % 30 = 0 then 2 else 0
def imonO (k f n : Int) : Int := if imonE k f n = 0 then ifirst k f else 0
def imonP (k f n : Int) : Int := if imonE k f n = 0 then 10631 else 0
def imonL (k f n : Int) : List (Int × Int) := if imonE k f n = 0 then ispans k n (360 / n).toNat else []
theorem imon_arg {k f n : Int} (h : ikd k = false ∨ n < 1 ∨ 360 < n ∨ ¬ 360 % n = 0) : imonE k f n = 1 ∧ imonO k f n = 0 ∧ imonP k f n = 0 ∧ imonL k f n = [] := by
  have e : imonE k f n = 1 := by unfold imonE; rw [if_pos h]
  unfold imonO imonP imonL; rw [e]; exact ⟨rfl, rfl, rfl, rfl⟩
theorem imon_range {k f n : Int} (h : ¬ (ikd k = false ∨ n < 1 ∨ 360 < n ∨ ¬ 360 % n = 0)) (h2 : f < 1 ∨ 9571 < f ∨ ¬ (f - 1) % 30 = 0) : imonE k f n = 2 ∧ imonO k f n = 0 ∧ imonP k f n = 0 ∧ imonL k f n = [] := by
  have e : imonE k f n = 2 := by unfold imonE; rw [if_neg h, if_pos h2]
  unfold imonO imonP imonL; rw [e]; exact ⟨rfl, rfl, rfl, rfl⟩
theorem imon_good {k f n : Int} (h : ¬ (ikd k = false ∨ n < 1 ∨ 360 < n ∨ ¬ 360 % n = 0)) (h2 : ¬ (f < 1 ∨ 9571 < f ∨ ¬ (f - 1) % 30 = 0)) : imonE k f n = 0 ∧ imonO k f n = ifirst k f ∧ imonP k f n = 10631 ∧ imonL k f n = ispans k n (360 / n).toNat := by
  have e : imonE k f n = 0 := by unfold imonE; rw [if_neg h, if_neg h2]
  unfold imonO imonP imonL; rw [e]; exact ⟨rfl, rfl, rfl, rfl⟩
theorem imon_parts {k n : Int} (h : ¬ (ikd k = false ∨ n < 1 ∨ 360 < n ∨ ¬ 360 % n = 0)) : ikd k = true ∧ 1 ≤ n ∧ n ≤ 360 ∧ 360 % n = 0 ∧ ((360 / n).toNat : Int) * n = 360 ∧ (360 / n).toNat ≤ 360 := by
  have hk : ikd k = true := by
    cases q : ikd k
    · exact absurd (Or.inl q) h
    · rfl
  have n0 : 1 ≤ n := by omega
  have n1 : n ≤ 360 := by omega
  have hm : 360 % n = 0 := by
    by_cases z : 360 % n = 0
    · exact z
    · exact absurd (Or.inr (Or.inr (Or.inr z))) h
  have q0 : 0 ≤ 360 / n := Int.ediv_nonneg (by omega) (by omega)
  have e : 360 / n * n = 360 := Int.ediv_mul_cancel (Int.dvd_of_emod_eq_zero hm)
  have q1 : 360 / n ≤ 360 := by
    rcases Int.lt_or_le 360 (360 / n) with z | z
    · have := Int.mul_le_mul_of_nonneg_left n0 q0
      omega
    · exact z
  exact ⟨hk, n0, n1, hm, by rw [Int.toNat_of_nonneg q0]; exact e, by omega⟩
end Go.Proofs.YtobipbmigpkhmaaDoor

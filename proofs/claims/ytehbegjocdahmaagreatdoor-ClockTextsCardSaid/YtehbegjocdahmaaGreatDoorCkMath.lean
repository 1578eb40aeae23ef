/- Plain facts on times of day, instants, and rounding. No program is mentioned. -/
import Derived.Test.YtehbegjocdahmaaGreatDoorLCal

namespace Go.Proofs.YtehbegjocdahmaaGreatDoor

open Go.RowKit

set_option linter.unusedVariables false

/-- A time of day is valid. -/
def vldT (h m s : Int) : Bool := (decide (0 ≤ h) && decide (h < 24)) && ((decide (0 ≤ m) && decide (m < 60)) && (decide (0 ≤ s) && decide (s < 60)))
theorem vldT_iff {h m s : Int} : vldT h m s = true ↔ (0 ≤ h ∧ h < 24) ∧ (0 ≤ m ∧ m < 60) ∧ 0 ≤ s ∧ s < 60 := by unfold vldT; simp [and_assoc]
def secT (h m s : Int) : Int := 3600 * h + 60 * m + s
theorem secT_bd {h m s : Int} (v : vldT h m s = true) : 0 ≤ secT h m s ∧ secT h m s < 86400 := by
  have := vldT_iff.1 v; unfold secT; omega
/-- The time of day of a second. -/
def tH (n : Int) : Int := n / 3600
def tM (n : Int) : Int := n / 60 % 60
def tS (n : Int) : Int := n % 60
theorem time_back {n : Int} (n0 : 0 ≤ n) (n1 : n < 86400) : vldT (tH n) (tM n) (tS n) = true ∧ secT (tH n) (tM n) (tS n) = n := by
  rw [vldT_iff]; unfold tH tM tS secT; omega
theorem time_forth {h m s : Int} (v : vldT h m s = true) : tH (secT h m s) = h ∧ tM (secT h m s) = m ∧ tS (secT h m s) = s := by
  have := vldT_iff.1 v; unfold tH tM tS secT; omega
/-- An instant. -/
def insB (t : Int) : Bool := decide (-62135596800 ≤ t ∧ t < 253402300800)
theorem insB_iff {t : Int} : insB t = true ↔ -62135596800 ≤ t ∧ t < 253402300800 := by unfold insB; simp
theorem ins_split {t : Int} (h : insB t = true) : (-719162 ≤ t / 86400 ∧ t / 86400 < 2932897) ∧ 0 ≤ t % 86400 ∧ t % 86400 < 86400 ∧ 86400 * (t / 86400) + t % 86400 = t := by
  have := insB_iff.1 h; omega
theorem ins_join {d s : Int} (d0 : -719162 ≤ d) (d1 : d < 2932897) (s0 : 0 ≤ s) (s1 : s < 86400) : insB (86400 * d + s) = true ∧ (86400 * d + s) / 86400 = d ∧ (86400 * d + s) % 86400 = s := by
  rw [insB_iff]; omega
/-- The line. -/
def linB (n : Int) : Bool := decide (-4398046511104 ≤ n ∧ n ≤ 4398046511104)
theorem linB_iff {n : Int} : linB n = true ↔ -4398046511104 ≤ n ∧ n ≤ 4398046511104 := by unfold linB; simp
/-- Rounding. -/
def rndV (n u k : Int) : Int := if k = 2 ∧ n % u ≠ 0 ∨ k = 3 ∧ u ≤ 2 * (n % u) then n - n % u + u else n - n % u
/-- A number with its multiple below. -/
theorem low_of {n u : Int} (u0 : 0 < u) : ∃ q : Int, n = u * q + n % u ∧ 0 ≤ n % u ∧ n % u < u := ⟨n / u, by have := Int.mul_ediv_add_emod n u; omega, Int.emod_nonneg n (by omega), Int.emod_lt_of_pos n u0⟩
theorem low_uniq {n u q r : Int} (u0 : 0 < u) (h : n = u * q + r) (r0 : 0 ≤ r) (r1 : r < u) : n % u = r := by
  rw [h, Int.mul_add_emod_self_left]; exact Int.emod_eq_of_lt r0 r1
theorem low_le {n m u : Int} (u0 : 0 < u) (h : n ≤ m) : n - n % u = m - m % u ∨ n - n % u + u ≤ m - m % u := by
  obtain ⟨q, e, a, b⟩ := low_of (n := n) u0
  obtain ⟨q', e', a', b'⟩ := low_of (n := m) u0
  rcases Int.lt_trichotomy q q' with l | rfl | l
  · right
    have : u * (q + 1) ≤ u * q' := Int.mul_le_mul_of_nonneg_left (by omega) (by omega)
    rw [Int.mul_add] at this; omega
  · left; omega
  · exfalso
    have : u * (q' + 1) ≤ u * q := Int.mul_le_mul_of_nonneg_left (by omega) (by omega)
    rw [Int.mul_add] at this; omega
theorem rnd_mod {n u k : Int} (u0 : 0 < u) : rndV n u k % u = 0 := by
  obtain ⟨q, e, a, b⟩ := low_of (n := n) u0
  unfold rndV
  split
  · exact low_uniq (q := q + 1) u0 (by rw [Int.mul_add]; omega) (by omega) u0
  · exact low_uniq (q := q) u0 (by omega) (by omega) u0
theorem rnd_near {n u k : Int} (u0 : 0 < u) (k0 : 1 ≤ k) (k1 : k ≤ 3) : rndV n u k - n < u ∧ n - rndV n u k < u := by
  obtain ⟨q, e, a, b⟩ := low_of (n := n) u0
  unfold rndV
  split <;> omega
theorem rnd_again {n u k : Int} (u0 : 0 < u) (h : n % u = 0) : rndV n u k = n := by
  unfold rndV; rw [h]; split <;> omega
theorem rnd_mono {n m u k : Int} (u0 : 0 < u) (k0 : 1 ≤ k) (k1 : k ≤ 3) (h : n ≤ m) : rndV n u k ≤ rndV m u k := by
  obtain ⟨q, e, a, b⟩ := low_of (n := n) u0
  obtain ⟨q', e', a', b'⟩ := low_of (n := m) u0
  have l := low_le u0 h
  unfold rndV
  split <;> split <;> omega
/-- Up and down are mirror images. -/
theorem rnd_mirror {n u : Int} (u0 : 0 < u) : rndV (-n) u 2 = -rndV n u 1 := by
  obtain ⟨q, e, a, b⟩ := low_of (n := n) u0
  have h : (-n) % u = if n % u = 0 then 0 else u - n % u := by
    by_cases z : n % u = 0
    · rw [if_pos z]; exact low_uniq (q := -q) u0 (by rw [Int.mul_neg]; omega) (by omega) u0
    · rw [if_neg z]; exact low_uniq (q := -q - 1) u0 (by rw [Int.mul_sub, Int.mul_neg]; omega) (by omega) (by omega)
  unfold rndV
  rw [h]
  by_cases z : n % u = 0
  · rw [if_pos z]; simp [z]
  · rw [if_neg z, if_pos (by left; omega), if_neg (by omega)]; omega
theorem rnd_half {n u : Int} (u0 : 0 < u) : rndV n u 3 - n ≤ n - rndV n u 1 ∧ rndV n u 1 ≤ rndV n u 3 ∧ (rndV n u 3 = rndV n u 1 ↔ 2 * (n - rndV n u 1) < u) := by
  obtain ⟨q, e, a, b⟩ := low_of (n := n) u0
  have h1 : rndV n u 1 = n - n % u := by unfold rndV; rw [if_neg (by omega)]
  rw [h1]
  unfold rndV
  split <;> omega
end Go.Proofs.YtehbegjocdahmaaGreatDoor

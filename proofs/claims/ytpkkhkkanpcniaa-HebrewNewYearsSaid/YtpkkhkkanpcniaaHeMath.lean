/- Plain facts on the arithmetic Hebrew calendar: months before a year, elapsed days, new years, lengths of years. No program is mentioned. -/
import Derived.Test.YtpkkhkkanpcniaaLCal
import Derived.WalkKit
namespace Go.Proofs.Ytpkkhkkanpcniaa
open Go.RowKit
set_option linter.unusedVariables false

/-- The months before a year. -/
def hM (y : Int) : Int := (235 * y - 234) / 19
def hlp (y : Int) : Bool := decide ((7 * y + 1) % 19 < 7)
/-- The day of a conjunction at noon, its parts, and the elapsed days. -/
def hD (m : Int) : Int := 29 * m + (12084 + 13753 * m) / 25920
def hR (m : Int) : Int := (12084 + 13753 * m) % 25920
def hP (d : Int) : Int := if 3 * (d + 1) % 7 < 3 then d + 1 else d
def hE (y : Int) : Int := hP (hD (hM y))
def hc (a b c : Int) : Int := if c - b = 356 then 2 else if b - a = 382 then 1 else 0
/-- The new year. -/
def hN (y : Int) : Int := -2092590 + hE y + hc (hE (y - 1)) (hE y) (hE (y + 1))
theorem hlp_iff {y : Int} : hlp y = true ↔ (7 * y + 1) % 19 < 7 := by unfold hlp; simp
theorem hlp_mod {y : Int} : hlp y = true ↔ y % 19 = 0 ∨ y % 19 = 3 ∨ y % 19 = 6 ∨ y % 19 = 8 ∨ y % 19 = 11 ∨ y % 19 = 14 ∨ y % 19 = 17 := by
  rw [hlp_iff]
  have h : y % 19 = 0 ∨ y % 19 = 1 ∨ y % 19 = 2 ∨ y % 19 = 3 ∨ y % 19 = 4 ∨ y % 19 = 5 ∨ y % 19 = 6 ∨ y % 19 = 7 ∨ y % 19 = 8 ∨ y % 19 = 9 ∨ y % 19 = 10 ∨ y % 19 = 11 ∨ y % 19 = 12 ∨ y % 19 = 13 ∨ y % 19 = 14 ∨ y % 19 = 15 ∨ y % 19 = 16 ∨ y % 19 = 17 ∨ y % 19 = 18 := by omega
  rcases h with h | h | h | h | h | h | h | h | h | h | h | h | h | h | h | h | h | h | h <;> omega
def hk (b : Bool) : Int := if b then 13 else 12
def hb (b : Bool) : Int := if b then 383 else 354
def hs (b : Bool) : Int := if b then 23269 else 9516
def h1 (b : Bool) : Int := if b then 1 else 0
theorem hM_succ (y : Int) : hM (y + 1) = hM y + hk (hlp y) := by
  have e : hk (hlp y) = if y % 19 = 0 ∨ y % 19 = 3 ∨ y % 19 = 6 ∨ y % 19 = 8 ∨ y % 19 = 11 ∨ y % 19 = 14 ∨ y % 19 = 17 then 13 else 12 := by
    unfold hk
    by_cases z : hlp y = true
    · rw [if_pos z, if_pos (hlp_mod.1 z)]
    · rw [if_neg z, if_neg (fun q => z (hlp_mod.2 q))]
  rw [e]
  unfold hM
  have h : y % 19 = 0 ∨ y % 19 = 1 ∨ y % 19 = 2 ∨ y % 19 = 3 ∨ y % 19 = 4 ∨ y % 19 = 5 ∨ y % 19 = 6 ∨ y % 19 = 7 ∨ y % 19 = 8 ∨ y % 19 = 9 ∨ y % 19 = 10 ∨ y % 19 = 11 ∨ y % 19 = 12 ∨ y % 19 = 13 ∨ y % 19 = 14 ∨ y % 19 = 15 ∨ y % 19 = 16 ∨ y % 19 = 17 ∨ y % 19 = 18 := by omega
  rcases h with h | h | h | h | h | h | h | h | h | h | h | h | h | h | h | h | h | h | h <;> (split <;> omega)
theorem hD_step (m : Int) (b : Bool) : ∃ e : Bool, hD (m + hk b) = hD m + hb b + h1 e ∧ hR (m + hk b) = hR m + hs b - 25920 * h1 e := by
  unfold hD hR hk hb hs h1
  cases b
  · by_cases h : 16404 ≤ (12084 + 13753 * m) % 25920
    · exact ⟨true, by simp; omega, by simp; omega⟩
    · exact ⟨false, by simp; omega, by simp; omega⟩
  · by_cases h : 2651 ≤ (12084 + 13753 * m) % 25920
    · exact ⟨true, by simp; omega, by simp; omega⟩
    · exact ⟨false, by simp; omega, by simp; omega⟩
theorem hR_bd (m : Int) : 0 ≤ hR m ∧ hR m < 25920 := by unfold hR; omega
/-- By how much a day of the week is put off. -/
def ha (v : Int) : Int := if v % 7 = 2 ∨ v % 7 = 4 ∨ v % 7 = 6 then 1 else 0
theorem hP_eq (d : Int) : hP d = d + ha d := by
  unfold hP ha
  have h : d % 7 = 0 ∨ d % 7 = 1 ∨ d % 7 = 2 ∨ d % 7 = 3 ∨ d % 7 = 4 ∨ d % 7 = 5 ∨ d % 7 = 6 := by omega
  rcases h with h | h | h | h | h | h | h <;> (split <;> split <;> omega)
theorem ha_shift (d w x : Int) (h : d % 7 = w) : ha (d + x) = ha (w + x) := by
  unfold ha
  rw [show (d + x) % 7 = (w + x) % 7 by omega]
/-- One case: leap years (the one before, this one, the next), the weekday, the carries of the parts, before noon. All that is asked of a year: its length, its weekday, its distance from the conjunction. -/
def hchk (k0 k1 k2 e0 e1 e2 e3 : Bool) (w : Int) : Bool :=
  let lo := max (max (if e0 then 0 else hs k0) (if e1 then 25920 - hs k1 else 0)) (max (if e2 then 25920 - hs k2 - hs k1 + 25920 * h1 e1 else 0) (if e3 then 0 else 12960))
  let hi := min (min (if e0 then hs k0 - 1 else 25919) (if e1 then 25919 else 25919 - hs k1)) (min (if e2 then 25919 else 25919 - hs k2 - hs k1 + 25920 * h1 e1) (if e3 then 12959 else 25919))
  let x0 := - hb k0 - h1 e0 + ha (w + (- hb k0 - h1 e0))
  let x1 := ha (w + 0)
  let x2 := hb k1 + h1 e1 + ha (w + (hb k1 + h1 e1))
  let x3 := hb k1 + h1 e1 + hb k2 + h1 e2 + ha (w + (hb k1 + h1 e1 + hb k2 + h1 e2))
  let c1 := hc x0 x1 x2
  let c2 := hc x1 x2 x3
  let l := x2 + c2 - x1 - c1
  let v := (w + x1 + c1 - 2092590 + 719162) % 7 + 1
  decide (hi < lo) || (if k1 then decide (383 ≤ l ∧ l ≤ 385) else decide (353 ≤ l ∧ l ≤ 355)) && decide (v ≠ 7 ∧ v ≠ 3 ∧ v ≠ 5) && decide (0 ≤ x1 + c1 + h1 e3 ∧ x1 + c1 + h1 e3 ≤ 2)
theorem hchk_all : ∀ k0 k1 k2 e0 e1 e2 e3 : Bool, ∀ w : Fin 7, (k0 && k1) = false → (k1 && k2) = false → (k0 || k1 || k2) = true → hchk k0 k1 k2 e0 e1 e2 e3 (w : Nat) = true := by decide +kernel
theorem hc_shift (a b c d : Int) : hc (d + a) (d + b) (d + c) = hc a b c := by
  unfold hc
  rw [show d + c - (d + b) = c - b by omega, show d + b - (d + a) = b - a by omega]
theorem ha_nn (v : Int) : 0 ≤ ha v ∧ ha v ≤ 1 := by unfold ha; split <;> omega
theorem hc_nn (a b c : Int) : 0 ≤ hc a b c ∧ hc a b c ≤ 2 := by unfold hc; split <;> (try split) <;> omega
/-- What holds of every year. -/
theorem hyear (y : Int) : (hlp y = true ∧ 383 ≤ hN (y + 1) - hN y ∧ hN (y + 1) - hN y ≤ 385 ∨ hlp y = false ∧ 353 ≤ hN (y + 1) - hN y ∧ hN (y + 1) - hN y ≤ 355) ∧
    ((hN y + 719162) % 7 + 1 ≠ 7 ∧ (hN y + 719162) % 7 + 1 ≠ 3 ∧ (hN y + 719162) % 7 + 1 ≠ 5) ∧
    (0 ≤ hN y + 2092590 - (765433 * hM y - 876) / 25920 ∧ hN y + 2092590 - (765433 * hM y - 876) / 25920 ≤ 2) ∧
    (hR (hM y) < 12960 ∧ 0 ≤ hN y + 2092590 - hD (hM y) ∧ hN y + 2092590 - hD (hM y) ≤ 1 ∨ 12960 ≤ hR (hM y) ∧ 0 ≤ hN y + 2092590 - hD (hM y) ∧ hN y + 2092590 - hD (hM y) ≤ 2) := by
  have s0 := hM_succ (y - 1)
  have s1 := hM_succ y
  have s2 := hM_succ (y + 1)
  rw [show y - 1 + 1 = y by omega] at s0
  have p0 : hM (y - 1) = hM y - hk (hlp (y - 1)) := by omega
  have a01 : (hlp (y - 1) && hlp y) = false := by
    rw [Bool.and_eq_false_iff]
    by_cases z : hlp (y - 1) = true
    · right; rw [← Bool.not_eq_true, hlp_mod]; have := hlp_mod.1 z; omega
    · left; simpa using z
  have a12 : (hlp y && hlp (y + 1)) = false := by
    rw [Bool.and_eq_false_iff]
    by_cases z : hlp y = true
    · right; rw [← Bool.not_eq_true, hlp_mod]; have := hlp_mod.1 z; omega
    · left; simpa using z
  have a3 : (hlp (y - 1) || hlp y || hlp (y + 1)) = true := by
    by_cases z : hlp (y - 1) = true
    · rw [z]; rfl
    · by_cases z1 : hlp y = true
      · rw [z1]; simp
      · rw [hlp_mod] at z z1
        rw [show hlp (y + 1) = true from hlp_mod.2 (by omega)]; simp
  obtain ⟨e0, d0, r0⟩ := hD_step (hM (y - 1)) (hlp (y - 1))
  obtain ⟨e1, d1, r1⟩ := hD_step (hM y) (hlp y)
  obtain ⟨e2, d2, r2⟩ := hD_step (hM (y + 1)) (hlp (y + 1))
  rw [← s0] at d0 r0
  rw [← s1] at d1 r1
  rw [← s2] at d2 r2
  have b0 := hR_bd (hM (y - 1))
  have b1 := hR_bd (hM y)
  have b2 := hR_bd (hM (y + 1))
  have b3 := hR_bd (hM (y + 1 + 1))
  have hm : (765433 * hM y - 876) / 25920 = hD (hM y) - h1 (decide (hR (hM y) < 12960)) := by
    unfold hD hR h1
    by_cases z : (12084 + 13753 * hM y) % 25920 < 12960
    · simp [z]; omega
    · simp [z]; omega
  have E0 : hE (y - 1) = hD (hM y) + (- hb (hlp (y - 1)) - h1 e0 + ha (hD (hM y) % 7 + (- hb (hlp (y - 1)) - h1 e0))) := by
    unfold hE; rw [hP_eq, ← ha_shift _ _ _ rfl, show hD (hM (y - 1)) = hD (hM y) + (- hb (hlp (y - 1)) - h1 e0) by omega]; omega
  have E1 : hE y = hD (hM y) + ha (hD (hM y) % 7 + 0) := by
    unfold hE; rw [hP_eq, ← ha_shift _ _ _ rfl, Int.add_zero]
  have E2 : hE (y + 1) = hD (hM y) + (hb (hlp y) + h1 e1 + ha (hD (hM y) % 7 + (hb (hlp y) + h1 e1))) := by
    unfold hE; rw [hP_eq, ← ha_shift _ _ _ rfl, show hD (hM (y + 1)) = hD (hM y) + (hb (hlp y) + h1 e1) by omega]; omega
  have E3 : hE (y + 1 + 1) = hD (hM y) + (hb (hlp y) + h1 e1 + hb (hlp (y + 1)) + h1 e2 + ha (hD (hM y) % 7 + (hb (hlp y) + h1 e1 + hb (hlp (y + 1)) + h1 e2))) := by
    unfold hE; rw [hP_eq, ← ha_shift _ _ _ rfl, show hD (hM (y + 1 + 1)) = hD (hM y) + (hb (hlp y) + h1 e1 + hb (hlp (y + 1)) + h1 e2) by omega]; omega
  have H := hchk_all (hlp (y - 1)) (hlp y) (hlp (y + 1)) e0 e1 e2 (decide (hR (hM y) < 12960)) ⟨(hD (hM y) % 7).toNat, by omega⟩ a01 a12 a3
  simp only [show (((hD (hM y) % 7).toNat : Nat) : Int) = hD (hM y) % 7 by omega] at H
  unfold hN
  rw [show y + 1 - 1 = y by omega, hm, E0, E1, E2, E3, show hD (hM y) + ha (hD (hM y) % 7 + 0) = hD (hM y) + (ha (hD (hM y) % 7 + 0)) from rfl, hc_shift, hc_shift]
  unfold hchk at H
  have ne : ¬ (decide ((min (min (if e0 = true then hs (hlp (y - 1)) - 1 else 25919) (if e1 = true then 25919 else 25919 - hs (hlp y))) (min (if e2 = true then 25919 else 25919 - hs (hlp (y + 1)) - hs (hlp y) + 25920 * h1 e1) (if decide (hR (hM y) < 12960) = true then 12959 else 25919)))
      < (max (max (if e0 = true then 0 else hs (hlp (y - 1))) (if e1 = true then 25920 - hs (hlp y) else 0)) (max (if e2 = true then 25920 - hs (hlp (y + 1)) - hs (hlp y) + 25920 * h1 e1 else 0) (if decide (hR (hM y) < 12960) = true then 0 else 12960)))) = true) := by
    rw [decide_eq_true_eq, Int.not_lt]
    have q0 : (if e0 = true then (0 : Int) else hs (hlp (y - 1))) ≤ hR (hM y) ∧ hR (hM y) ≤ (if e0 = true then hs (hlp (y - 1)) - 1 else 25919) := by
      cases e0
      · rw [show h1 false = 0 from rfl] at r0; rw [if_neg (by simp), if_neg (by simp)]; omega
      · rw [show h1 true = 1 from rfl] at r0; rw [if_pos rfl, if_pos rfl]; omega
    have q1 : (if e1 = true then 25920 - hs (hlp y) else (0 : Int)) ≤ hR (hM y) ∧ hR (hM y) ≤ (if e1 = true then 25919 else 25919 - hs (hlp y)) := by
      cases e1
      · rw [show h1 false = 0 from rfl] at r1; rw [if_neg (by simp), if_neg (by simp)]; omega
      · rw [show h1 true = 1 from rfl] at r1; rw [if_pos rfl, if_pos rfl]; omega
    have q2 : (if e2 = true then 25920 - hs (hlp (y + 1)) - hs (hlp y) + 25920 * h1 e1 else (0 : Int)) ≤ hR (hM y) ∧ hR (hM y) ≤ (if e2 = true then 25919 else 25919 - hs (hlp (y + 1)) - hs (hlp y) + 25920 * h1 e1) := by
      cases e2
      · rw [show h1 false = 0 from rfl] at r2; rw [if_neg (by simp), if_neg (by simp)]; omega
      · rw [show h1 true = 1 from rfl] at r2; rw [if_pos rfl, if_pos rfl]; omega
    have q3 : (if decide (hR (hM y) < 12960) = true then (0 : Int) else 12960) ≤ hR (hM y) ∧ hR (hM y) ≤ (if decide (hR (hM y) < 12960) = true then 12959 else 25919) := by
      by_cases z : hR (hM y) < 12960 <;> simp [z] <;> omega
    exact Int.le_trans (Int.max_le.2 ⟨Int.max_le.2 ⟨q0.1, q1.1⟩, Int.max_le.2 ⟨q2.1, q3.1⟩⟩) (Int.le_min.2 ⟨Int.le_min.2 ⟨q0.2, q1.2⟩, Int.le_min.2 ⟨q2.2, q3.2⟩⟩)
  simp only [Bool.or_eq_true, Bool.and_eq_true] at H
  rcases H with H | ⟨⟨H1, H2⟩, H3⟩
  · exact absurd H ne
  · clear ne E0 E1 E2 E3 hm d0 d1 d2 r0 r1 r2 s0 s1 s2 p0
    rw [decide_eq_true_eq] at H2 H3
    generalize hD (hM y) = d at *
    generalize hR (hM y) = r at *
    refine ⟨?_, ?_, ?_, ?_⟩
    · cases hl : hlp y
      · rw [hl] at H1
        simp only [Bool.false_eq_true, if_false, decide_eq_true_eq] at H1
        right; refine ⟨rfl, ?_⟩; omega
      · rw [hl] at H1
        simp only [if_true, decide_eq_true_eq] at H1
        left; refine ⟨rfl, ?_⟩; omega
    · omega
    · omega
    · have n1 := ha_nn (d % 7 + 0)
      have n2 := hc_nn (-hb (hlp (y - 1)) - h1 e0 + ha (d % 7 + (-hb (hlp (y - 1)) - h1 e0))) (ha (d % 7 + 0)) (hb (hlp y) + h1 e1 + ha (d % 7 + (hb (hlp y) + h1 e1)))
      by_cases z : r < 12960
      · left; rw [decide_eq_true z, show h1 true = 1 from rfl] at H3; omega
      · right; rw [decide_eq_false z, show h1 false = 0 from rfl] at H3; omega
theorem hlen (y : Int) : hlp y = true ∧ 383 ≤ hN (y + 1) - hN y ∧ hN (y + 1) - hN y ≤ 385 ∨ hlp y = false ∧ 353 ≤ hN (y + 1) - hN y ∧ hN (y + 1) - hN y ≤ 355 := (hyear y).1
/-- 19 years. -/
theorem hcycle (y : Int) : hM (y + 19) = hM y + 235 ∧ 6938 ≤ hN (y + 19) - hN y ∧ hN (y + 19) - hN y ≤ 6942 := by
  have a := (hyear y).2.2.2
  have b := (hyear (y + 19)).2.2.2
  have e : hM (y + 19) = hM y + 235 := by unfold hM; omega
  refine ⟨e, ?_⟩
  rw [e] at b
  have d : hD (hM y + 235) = hD (hM y) + 6939 ∧ hR (hM y + 235) = hR (hM y) + 17875 ∨ hD (hM y + 235) = hD (hM y) + 6940 ∧ hR (hM y + 235) = hR (hM y) + 17875 - 25920 := by unfold hD hR; omega
  have r := hR_bd (hM y)
  have r' := hR_bd (hM y + 235)
  omega
theorem hN_mono : ∀ (j : Nat) (y : Int), hN y + 353 * j ≤ hN (y + j) := by
  intro j
  induction j with
  | zero => intro y; simp
  | succ j ih =>
    intro y
    have a := ih y
    have b := hlen (y + j)
    rw [show y + ((j + 1 : Nat) : Int) = y + (j : Int) + 1 by omega]
    omega
theorem hN_le {y z : Int} (h : y ≤ z) : hN y + 353 * (z - y) ≤ hN z := by
  have a := hN_mono (z - y).toNat y
  rw [show y + ((z - y).toNat : Int) = z by omega] at a
  omega
/-- The days of a year, the lengths of its months. -/
def hyl (y : Int) : Int := hN (y + 1) - hN y
def hyr (y : Int) : Bool := decide (1 ≤ y ∧ y ≤ 20000)
def hmn (y : Int) : Int := if hyr y then (if hlp y then 13 else 12) else 0
/-- The length of a month, of a year whose leap and length are known. -/
def hlenB (b : Bool) (l m : Int) : Int :=
  if m = 2 ∨ m = 4 ∨ m = 6 ∨ m = 10 ∨ m = 13 then 29 else if m = 12 then (if b then 30 else 29) else if m = 8 then (if l % 10 = 5 then 30 else 29) else if m = 9 then (if l % 10 = 3 then 29 else 30) else 30
def hlenM (y m : Int) : Int := if m < 1 ∨ hmn y < m then 0 else hlenB (hlp y) (hyl y) m
theorem hyr_iff {y : Int} : hyr y = true ↔ 1 ≤ y ∧ y ≤ 20000 := by unfold hyr; simp
theorem hmn_bd (y : Int) : 0 ≤ hmn y ∧ hmn y ≤ 13 := by unfold hmn; split <;> (try split) <;> omega
theorem hmn_in {y : Int} (h : hyr y = true) : hlp y = true ∧ hmn y = 13 ∨ hlp y = false ∧ hmn y = 12 := by
  unfold hmn; rw [if_pos h]
  cases z : hlp y
  · right; exact ⟨rfl, rfl⟩
  · left; exact ⟨rfl, rfl⟩
theorem hmn_out {y : Int} (h : hyr y = false) : hmn y = 0 := by unfold hmn; rw [if_neg (by rw [h]; simp)]
/-- The days of a year ahead of a month, in the order of the year; of the month 7 in the next year (here the month 0): the whole year. -/
theorem hsum_leap {l : Int} (h : l = 383 ∨ l = 384 ∨ l = 385) : hlenB true l 7 + hlenB true l 8 + hlenB true l 9 + hlenB true l 10 + hlenB true l 11 + hlenB true l 12 + hlenB true l 13 + hlenB true l 1 + hlenB true l 2 + hlenB true l 3 + hlenB true l 4 + hlenB true l 5 + hlenB true l 6 = l := by
  rcases h with rfl | rfl | rfl <;> decide
theorem hsum_plain {l : Int} (h : l = 353 ∨ l = 354 ∨ l = 355) : hlenB false l 7 + hlenB false l 8 + hlenB false l 9 + hlenB false l 10 + hlenB false l 11 + hlenB false l 12 + hlenB false l 1 + hlenB false l 2 + hlenB false l 3 + hlenB false l 4 + hlenB false l 5 + hlenB false l 6 = l := by
  rcases h with rfl | rfl | rfl <;> decide
theorem hlenB_bd (b : Bool) (l m : Int) : 29 ≤ hlenB b l m ∧ hlenB b l m ≤ 30 := by
  unfold hlenB; repeat' split
  all_goals omega
theorem hlenM_bd (y m : Int) : 0 ≤ hlenM y m ∧ hlenM y m ≤ 30 := by
  have := hlenB_bd (hlp y) (hyl y) m
  unfold hlenM; split <;> omega
theorem hyl_bd (y : Int) : 353 ≤ hyl y ∧ hyl y ≤ 385 := by
  have := hlen y
  unfold hyl; omega
end Go.Proofs.Ytpkkhkkanpcniaa

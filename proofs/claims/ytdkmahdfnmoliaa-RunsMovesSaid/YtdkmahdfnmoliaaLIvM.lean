/- Plain facts on intervals: relations, common parts, what is left. No program is mentioned. -/
import Derived.Test.YtdkmahdfnmoliaaLPlain

import Derived.WalkKit

namespace Go.Proofs.Ytdkmahdfnmoliaa

open Go.RowKit

set_option linter.unusedVariables false

/-- A valid interval. -/
def ivB (a b : Int) : Bool := decide (-4398046511104 ≤ a ∧ b ≤ 4398046511104 ∧ a < b)
theorem ivB_iff {a b : Int} : ivB a b = true ↔ -4398046511104 ≤ a ∧ b ≤ 4398046511104 ∧ a < b := by unfold ivB; exact decide_eq_true_iff
theorem ivB_no {a b : Int} : ivB a b = false ↔ ¬ (-4398046511104 ≤ a ∧ b ≤ 4398046511104 ∧ a < b) := by unfold ivB; exact decide_eq_false_iff_not
/-- The relation of two valid intervals. -/
def ofW (a b c d : Int) : Int :=
  if b < c then 0 else if b = c then 1 else if d < a then 12 else if d = a then 11 else
  if a < c then (if b < d then 2 else if b = d then 7 else 8) else
  if a = c then (if b < d then 3 else if b = d then 6 else 9) else
  if b < d then 4 else if b = d then 5 else 10
def ofV (a b c d : Int) : Int := if ivB a b && ivB c d then ofW a b c d else -1
theorem ofV_in {a b c d : Int} (h : ivB a b = true) (k : ivB c d = true) : ofV a b c d = ofW a b c d := by unfold ofV; rw [h, k]; rfl
theorem ofV_out {a b c d : Int} (h : (ivB a b && ivB c d) = false) : ofV a b c d = -1 := by unfold ofV; rw [h]; rfl
/-- Which relation holds, said by the ends. -/
theorem ofW_cases (a b c d : Int) (h : a < b) (k : c < d) :
    (b < c ∧ ofW a b c d = 0) ∨ (b = c ∧ ofW a b c d = 1) ∨ (a < c ∧ c < b ∧ b < d ∧ ofW a b c d = 2) ∨ (a = c ∧ b < d ∧ ofW a b c d = 3) ∨ (c < a ∧ b < d ∧ ofW a b c d = 4) ∨ (c < a ∧ b = d ∧ ofW a b c d = 5) ∨ (a = c ∧ b = d ∧ ofW a b c d = 6) ∨
    (a < c ∧ b = d ∧ ofW a b c d = 7) ∨ (a < c ∧ d < b ∧ ofW a b c d = 8) ∨ (a = c ∧ d < b ∧ ofW a b c d = 9) ∨ (c < a ∧ a < d ∧ d < b ∧ ofW a b c d = 10) ∨ (a = d ∧ ofW a b c d = 11) ∨ (d < a ∧ ofW a b c d = 12) := by
  unfold ofW
  by_cases h1 : b < c
  · rw [if_pos h1]; exact .inl ⟨by omega, rfl⟩
  rw [if_neg h1]
  by_cases h2 : b = c
  · rw [if_pos h2]; exact .inr (.inl ⟨by omega, rfl⟩)
  rw [if_neg h2]
  by_cases h3 : d < a
  · rw [if_pos h3]; exact .inr (.inr (.inr (.inr (.inr (.inr (.inr (.inr (.inr (.inr (.inr (.inr (⟨by omega, rfl⟩))))))))))))
  rw [if_neg h3]
  by_cases h4 : d = a
  · rw [if_pos h4]; exact .inr (.inr (.inr (.inr (.inr (.inr (.inr (.inr (.inr (.inr (.inr (.inl ⟨by omega, rfl⟩)))))))))))
  rw [if_neg h4]
  by_cases h5 : a < c
  · rw [if_pos h5]
    by_cases h6 : b < d
    · rw [if_pos h6]; exact .inr (.inr (.inl ⟨by omega, by omega, by omega, rfl⟩))
    rw [if_neg h6]
    by_cases h7 : b = d
    · rw [if_pos h7]; exact .inr (.inr (.inr (.inr (.inr (.inr (.inr (.inl ⟨by omega, by omega, rfl⟩)))))))
    rw [if_neg h7]; exact .inr (.inr (.inr (.inr (.inr (.inr (.inr (.inr (.inl ⟨by omega, by omega, rfl⟩))))))))
  rw [if_neg h5]
  by_cases h8 : a = c
  · rw [if_pos h8]
    by_cases h6 : b < d
    · rw [if_pos h6]; exact .inr (.inr (.inr (.inl ⟨by omega, by omega, rfl⟩)))
    rw [if_neg h6]
    by_cases h7 : b = d
    · rw [if_pos h7]; exact .inr (.inr (.inr (.inr (.inr (.inr (.inl ⟨by omega, by omega, rfl⟩))))))
    rw [if_neg h7]; exact .inr (.inr (.inr (.inr (.inr (.inr (.inr (.inr (.inr (.inl ⟨by omega, by omega, rfl⟩)))))))))
  rw [if_neg h8]
  by_cases h6 : b < d
  · rw [if_pos h6]; exact .inr (.inr (.inr (.inr (.inl ⟨by omega, by omega, rfl⟩))))
  rw [if_neg h6]
  by_cases h7 : b = d
  · rw [if_pos h7]; exact .inr (.inr (.inr (.inr (.inr (.inl ⟨by omega, by omega, rfl⟩)))))
  rw [if_neg h7]; exact .inr (.inr (.inr (.inr (.inr (.inr (.inr (.inr (.inr (.inr (.inl ⟨by omega, by omega, by omega, rfl⟩))))))))))
/-- The relation is the one whose condition holds. -/
theorem ofW_bd {a b c d : Int} (h : a < b) (k : c < d) : 0 ≤ ofW a b c d ∧ ofW a b c d ≤ 12 := by
  rcases ofW_cases a b c d h k with q | q | q | q | q | q | q | q | q | q | q | q | q <;> omega
theorem ofW_inv {a b c d : Int} (h : a < b) (k : c < d) : ofW c d a b = 12 - ofW a b c d := by
  rcases ofW_cases a b c d h k with q | q | q | q | q | q | q | q | q | q | q | q | q <;>
  rcases ofW_cases c d a b k h with p | p | p | p | p | p | p | p | p | p | p | p | p <;> omega
theorem ofW_same {a b c d : Int} (h : a < b) (k : c < d) : ofW a b c d = 6 ↔ a = c ∧ b = d := by
  rcases ofW_cases a b c d h k with q | q | q | q | q | q | q | q | q | q | q | q | q <;> omega
theorem ofW_move {a b c d : Int} (n : Int) (h : a < b) (k : c < d) : ofW (a + n) (b + n) (c + n) (d + n) = ofW a b c d := by
  rcases ofW_cases a b c d h k with q | q | q | q | q | q | q | q | q | q | q | q | q <;>
  rcases ofW_cases (a + n) (b + n) (c + n) (d + n) (by omega) (by omega) with p | p | p | p | p | p | p | p | p | p | p | p | p <;> omega
theorem ofV_bd (a b c d : Int) : -1 ≤ ofV a b c d ∧ ofV a b c d ≤ 12 := by
  cases h : ivB a b && ivB c d
  · rw [ofV_out h]; omega
  · rw [Bool.and_eq_true] at h
    rw [ofV_in h.1 h.2]
    have := ofW_bd (ivB_iff.1 h.1).2.2 (ivB_iff.1 h.2).2.2
    omega
/-- The inverse of a relation. -/
def invV (r : Int) : Int := if 0 ≤ r ∧ r ≤ 12 then 12 - r else -1
theorem invV_in {r : Int} (h : 0 ≤ r ∧ r ≤ 12) : invV r = 12 - r := by unfold invV; rw [if_pos h]
theorem invV_out {r : Int} (h : ¬ (0 ≤ r ∧ r ≤ 12)) : invV r = -1 := by unfold invV; rw [if_neg h]
/-- What two intervals have in common; the least one around both. -/
def loV (a c : Int) : Int := if a < c then c else a
def hiV (b d : Int) : Int := if d < b then d else b
theorem loV_bd (a c : Int) : (a < c ∧ loV a c = c) ∨ (c ≤ a ∧ loV a c = a) := by
  unfold loV; by_cases h : a < c
  · rw [if_pos h]; exact .inl ⟨h, rfl⟩
  · rw [if_neg h]; exact .inr ⟨by omega, rfl⟩
theorem hiV_bd (b d : Int) : (d < b ∧ hiV b d = d) ∨ (b ≤ d ∧ hiV b d = b) := by
  unfold hiV; by_cases h : d < b
  · rw [if_pos h]; exact .inl ⟨h, rfl⟩
  · rw [if_neg h]; exact .inr ⟨by omega, rfl⟩
theorem loV_max (a c : Int) : loV a c = max a c := by rcases loV_bd a c with h | h <;> omega
theorem hiV_min (b d : Int) : hiV b d = min b d := by rcases hiV_bd b d with h | h <;> omega
def mtB (a b c d : Int) : Bool := ivB a b && ivB c d && decide (loV a c < hiV b d)
def mtF (a b c d : Int) : Int := if mtB a b c d then loV a c else 0
def mtT (a b c d : Int) : Int := if mtB a b c d then hiV b d else 0
def hlE (a b c d : Int) : Int := if ivB a b && ivB c d then 0 else 1
def hlF (a b c d : Int) : Int := if ivB a b && ivB c d then hiV a c else 0
def hlT (a b c d : Int) : Int := if ivB a b && ivB c d then loV b d else 0
/-- What is left of the first one. -/
def mnA (a b c d : Int) : List (Int × Int) := if a < hiV b c then [(a, hiV b c)] else []
def mnZ (a b c d : Int) : List (Int × Int) := if loV a d < b then [(loV a d, b)] else []
def mnL (a b c d : Int) : List (Int × Int) := if ivB a b && ivB c d then mnA a b c d ++ mnZ a b c d else []
theorem mnL_out {a b c d : Int} (h : (ivB a b && ivB c d) = false) : mnL a b c d = [] := by unfold mnL; rw [h]; rfl
theorem mnL_in {a b c d : Int} (h : ivB a b = true) (k : ivB c d = true) : mnL a b c d = mnA a b c d ++ mnZ a b c d := by unfold mnL; rw [h, k]; rfl
theorem mnA_yes {a b c d : Int} (h : a < hiV b c) : mnA a b c d = [(a, hiV b c)] := by unfold mnA; rw [if_pos h]
theorem mnA_no {a b c d : Int} (h : ¬ a < hiV b c) : mnA a b c d = [] := by unfold mnA; rw [if_neg h]
theorem mnZ_yes {a b c d : Int} (h : loV a d < b) : mnZ a b c d = [(loV a d, b)] := by unfold mnZ; rw [if_pos h]
theorem mnZ_no {a b c d : Int} (h : ¬ loV a d < b) : mnZ a b c d = [] := by unfold mnZ; rw [if_neg h]
/-- Membership, length, moving. -/
def hsB (a b x : Int) : Bool := ivB a b && decide (a ≤ x) && decide (x < b)
theorem hsB_iff {a b x : Int} : hsB a b x = true ↔ ivB a b = true ∧ a ≤ x ∧ x < b := by unfold hsB; simp [and_assoc]
def lnV (a b : Int) : Int := if ivB a b then b - a else 0
def mvE (a b n : Int) : Int := if ivB a b then (if ivB (a + n) (b + n) then 0 else 2) else 1
def mvF (a b n : Int) : Int := if mvE a b n = 0 then a + n else 0
def mvT (a b n : Int) : Int := if mvE a b n = 0 then b + n else 0
theorem mvE_ok {a b n : Int} : mvE a b n = 0 ↔ ivB a b = true ∧ ivB (a + n) (b + n) = true := by
  unfold mvE
  cases h : ivB a b
  · simp
  · cases k : ivB (a + n) (b + n) <;> simp
/-- The integers of the first one are in exactly one of the parts. -/
theorem iv_covers {a b c d : Int} (h : ivB a b = true) (k : ivB c d = true) (x : Int) :
    (hsB (mtF a b c d) (mtT a b c d) x && mtB a b c d) = (hsB a b x && hsB c d x) ∧ ((mnL a b c d).filter (fun p => hsB p.1 p.2 x)).length = (if hsB a b x && !hsB c d x then 1 else 0) := by
  have p := ivB_iff.1 h
  have q := ivB_iff.1 k
  have l1 := loV_bd a c
  have h1 := hiV_bd b d
  have h2 := hiV_bd b c
  have l2 := loV_bd a d
  constructor
  · rw [Bool.eq_iff_iff, Bool.and_eq_true, Bool.and_eq_true, hsB_iff, hsB_iff, hsB_iff]
    unfold mtF mtT mtB
    rw [h, k]
    by_cases z : loV a c < hiV b d
    · rw [decide_eq_true z]
      simp only [Bool.and_self, if_true, ivB_iff, and_true, true_and]
      omega
    · rw [decide_eq_false z]
      simp
      omega
  · rw [mnL_in h k, List.filter_append, List.length_append]
    have A : ((mnA a b c d).filter (fun p => hsB p.1 p.2 x)).length = if a ≤ x ∧ x < hiV b c then 1 else 0 := by
      by_cases z : a < hiV b c
      · rw [mnA_yes z]
        by_cases y : a ≤ x ∧ x < hiV b c
        · rw [if_pos y, List.filter_cons_of_pos (by rw [hsB_iff, ivB_iff]; omega)]; rfl
        · rw [if_neg y, List.filter_cons_of_neg (by rw [hsB_iff, ivB_iff]; omega)]; rfl
      · rw [mnA_no z, if_neg (by omega)]; rfl
    have Z : ((mnZ a b c d).filter (fun p => hsB p.1 p.2 x)).length = if loV a d ≤ x ∧ x < b then 1 else 0 := by
      by_cases z : loV a d < b
      · rw [mnZ_yes z]
        by_cases y : loV a d ≤ x ∧ x < b
        · rw [if_pos y, List.filter_cons_of_pos (by rw [hsB_iff, ivB_iff]; omega)]; rfl
        · rw [if_neg y, List.filter_cons_of_neg (by rw [hsB_iff, ivB_iff]; omega)]; rfl
      · rw [mnZ_no z, if_neg (by omega)]; rfl
    rw [A, Z]
    have e : (hsB a b x && !hsB c d x) = decide ((a ≤ x ∧ x < b) ∧ ¬ (c ≤ x ∧ x < d)) := by
      rw [Bool.eq_iff_iff, Bool.and_eq_true, Bool.not_eq_true', decide_eq_true_iff, ← Bool.not_eq_true, hsB_iff, hsB_iff, h, k]
      simp
    rw [e]
    simp only [decide_eq_true_eq]
    split <;> split <;> split <;> omega
/-- Which relations have points in common; which lie inside; how many parts are left. -/
theorem iv_parts {a b c d : Int} (h : ivB a b = true) (k : ivB c d = true) :
    (mtB a b c d = true ↔ 1 < ofW a b c d ∧ ofW a b c d < 11) ∧ ((mtB a b c d = true ∧ mtF a b c d = a ∧ mtT a b c d = b) ↔ 3 ≤ ofW a b c d ∧ ofW a b c d ≤ 6) ∧
    ((mnL a b c d).length = 0 ↔ 3 ≤ ofW a b c d ∧ ofW a b c d ≤ 6) ∧ ((mnL a b c d).length = 2 ↔ ofW a b c d = 8) := by
  have p := ivB_iff.1 h
  have q := ivB_iff.1 k
  have l1 := loV_bd a c
  have h1 := hiV_bd b d
  have h2 := hiV_bd b c
  have l2 := loV_bd a d
  have B : mtB a b c d = true ↔ loV a c < hiV b d := by unfold mtB; rw [h, k]; simp
  have F : loV a c < hiV b d → mtF a b c d = loV a c ∧ mtT a b c d = hiV b d := fun z => by unfold mtF mtT; rw [B.2 z]; exact ⟨rfl, rfl⟩
  have L : (mnL a b c d).length = (if a < hiV b c then 1 else 0) + (if loV a d < b then 1 else 0) := by
    rw [mnL_in h k, List.length_append]
    congr 1
    · by_cases z : a < hiV b c
      · rw [mnA_yes z, if_pos z]; rfl
      · rw [mnA_no z, if_neg z]; rfl
    · by_cases z : loV a d < b
      · rw [mnZ_yes z, if_pos z]; rfl
      · rw [mnZ_no z, if_neg z]; rfl
  have o := ofW_cases a b c d p.2.2 q.2.2
  rw [B, L]
  generalize ofW a b c d = r at *
  refine ⟨by omega, ⟨fun z => ?_, fun z => ?_⟩, ?_, ?_⟩
  · have := F z.1; omega
  · have y : loV a c < hiV b d := by omega
    have := F y
    exact ⟨y, by omega, by omega⟩
  · by_cases u : a < hiV b c
    · rw [if_pos u]
      by_cases v : loV a d < b
      · rw [if_pos v]; omega
      · rw [if_neg v]; omega
    · rw [if_neg u]
      by_cases v : loV a d < b
      · rw [if_pos v]; omega
      · rw [if_neg v]; omega
  · by_cases u : a < hiV b c
    · rw [if_pos u]
      by_cases v : loV a d < b
      · rw [if_pos v]; omega
      · rw [if_neg v]; omega
    · rw [if_neg u]
      by_cases v : loV a d < b
      · rw [if_pos v]; omega
      · rw [if_neg v]; omega
end Go.Proofs.Ytdkmahdfnmoliaa

/- Plain facts on the numbers of a range that fit: as a list, one after another. No program is mentioned. -/
import Derived.Test.YtljpjchcmiohpaaDoorLPlain
import Derived.WalkKit
namespace Go.Proofs.YtljpjchcmiohpaaDoor
open Go.RowKit
set_option linter.unusedVariables false

def flt (p : Int → Bool) (lo : Int) : Nat → List Int
  | 0 => []
  | j + 1 => flt p lo j ++ (if p (lo + j) then [lo + j] else [])
theorem flt_yes {p : Int → Bool} {lo : Int} {j : Nat} (h : p (lo + j) = true) : flt p lo (j + 1) = flt p lo j ++ [lo + j] := by
  show flt p lo j ++ (if p (lo + j) then [lo + j] else []) = _
  rw [if_pos h]
theorem flt_no {p : Int → Bool} {lo : Int} {j : Nat} (h : p (lo + j) = false) : flt p lo (j + 1) = flt p lo j := by
  show flt p lo j ++ (if p (lo + j) then [lo + j] else []) = _
  rw [if_neg (by rw [h]; simp), List.append_nil]
theorem flt_len (p : Int → Bool) (lo : Int) : ∀ j : Nat, (flt p lo j).length ≤ j := by
  intro j
  induction j with
  | zero => exact Nat.le_refl _
  | succ j ih =>
    cases h : p (lo + j)
    · rw [flt_no h]; omega
    · rw [flt_yes h]; simp; omega
theorem flt_le (p : Int → Bool) (lo : Int) (j : Nat) : ∀ k : Nat, ∃ r, flt p lo (j + k) = flt p lo j ++ r := by
  intro k
  induction k with
  | zero => exact ⟨[], by simp⟩
  | succ k ih =>
    obtain ⟨r, e⟩ := ih
    cases h : p (lo + ((j + k : Nat) : Int))
    · exact ⟨r, by rw [← Nat.add_assoc, flt_no h, e]⟩
    · exact ⟨r ++ [lo + ((j + k : Nat) : Int)], by rw [← Nat.add_assoc, flt_yes h, e, List.append_assoc]⟩
/-- Where a number that fits stands. -/
theorem flt_at {p : Int → Bool} {lo : Int} {j n : Nat} (hj : j < n) (h : p (lo + j) = true) : (flt p lo j).length < (flt p lo n).length ∧ (flt p lo n).getD (flt p lo j).length 0 = lo + j := by
  obtain ⟨r, e⟩ := flt_le p lo (j + 1) (n - (j + 1))
  rw [show j + 1 + (n - (j + 1)) = n by omega, flt_yes h] at e
  rw [e]
  constructor
  · simp
  · simp [List.getD_eq_getElem?_getD]
theorem flt_mem {p : Int → Bool} {lo : Int} : ∀ {n : Nat} {x : Int}, x ∈ flt p lo n → p x = true ∧ lo ≤ x ∧ x < lo + n := by
  intro n
  induction n with
  | zero => intro x h; cases h
  | succ n ih =>
    intro x h
    cases q : p (lo + n)
    · rw [flt_no q] at h
      have := ih h
      exact ⟨this.1, this.2.1, by omega⟩
    · rw [flt_yes q, List.mem_append] at h
      rcases h with h | h
      · have := ih h
        exact ⟨this.1, this.2.1, by omega⟩
      · rw [List.mem_singleton] at h
        subst h
        exact ⟨q, by omega, by omega⟩
theorem flt_get {p : Int → Bool} {lo : Int} {n i : Nat} (h : i < (flt p lo n).length) : p ((flt p lo n).getD i 0) = true ∧ lo ≤ (flt p lo n).getD i 0 ∧ (flt p lo n).getD i 0 < lo + n := by
  have e : (flt p lo n).getD i 0 = (flt p lo n)[i] := by simp [List.getD_eq_getElem?_getD, h]
  rw [e]; exact flt_mem (List.getElem_mem h)
theorem flt_asc {p : Int → Bool} {lo : Int} : ∀ {n i : Nat}, i + 1 < (flt p lo n).length → (flt p lo n).getD i 0 < (flt p lo n).getD (i + 1) 0 := by
  intro n
  induction n with
  | zero => intro i h; exact absurd h (Nat.not_lt_zero _)
  | succ n ih =>
    intro i h
    cases q : p (lo + n)
    · rw [flt_no q] at h ⊢; exact ih h
    · rw [flt_yes q] at h ⊢
      rw [List.length_append, List.length_singleton] at h
      have hi : i < (flt p lo n).length := by omega
      have e0 : (flt p lo n ++ [lo + (n : Int)]).getD i 0 = (flt p lo n).getD i 0 := by simp [List.getD_eq_getElem?_getD, List.getElem?_append, hi]
      rw [e0]
      by_cases z : i + 1 < (flt p lo n).length
      · have e1 : (flt p lo n ++ [lo + (n : Int)]).getD (i + 1) 0 = (flt p lo n).getD (i + 1) 0 := by simp [List.getD_eq_getElem?_getD, List.getElem?_append, z]
        rw [e1]; exact ih z
      · have e1 : (flt p lo n ++ [lo + (n : Int)]).getD (i + 1) 0 = lo + n := by
          rw [show i + 1 = (flt p lo n).length by omega]
          simp [List.getD_eq_getElem?_getD]
        rw [e1]; exact (flt_get hi).2.2
/-- The first one. -/
theorem flt_head {p : Int → Bool} {lo : Int} {n : Nat} (h : p lo = true) (hn : 0 < n) : 0 < (flt p lo n).length ∧ (flt p lo n).getD 0 0 = lo := by
  have := flt_at (p := p) (lo := lo) (j := 0) hn (by simpa using h)
  simpa [flt] using this
/-- How many numbers a range has. -/
def rgN (lo hi : Int) : Nat := (hi + 1 - lo).toNat
end Go.Proofs.YtljpjchcmiohpaaDoor

/- strings.Cut at one byte. -/
import Derived.Test.YtiaidmjhgfaobaaDoorLGen

import Derived.Test.YtiaidmjhgfaobaaDoorShelfThree

import Derived.Test.YtiaidmjhgfaobaaDoorProg

import Derived.WalkKit

namespace Go.Proofs.YtiaidmjhgfaobaaDoor

open Go.RowKit

set_option linter.unusedVariables false

theorem ib_no (c : UInt8) : ∀ l : List UInt8, (∀ j, j < l.length → ¬ l.getD j 0 = c) → Lib.indexByte l c = -1
  | [], _ => rfl
  | a :: r, h => by
    have h0 : ¬ a = c := by simpa using h 0 (by simp)
    have ih := ib_no c r (fun j hj => by simpa using h (j + 1) (by simpa using hj))
    unfold Lib.indexByte
    rw [if_neg (by simpa using h0), ih, if_pos (by decide)]
theorem ib_yes (c : UInt8) : ∀ (l : List UInt8) (i : Nat), i < l.length → (∀ j, j < i → ¬ l.getD j 0 = c) → l.getD i 0 = c → Lib.indexByte l c = i
  | [], i, hi, _, _ => by simp at hi
  | a :: r, 0, _, _, e => by
    have h0 : a = c := by simpa using e
    unfold Lib.indexByte
    rw [if_pos (by simpa using h0)]; rfl
  | a :: r, i + 1, hi, f, e => by
    have h0 : ¬ a = c := by simpa using f 0 (by omega)
    have ih := ib_yes c r i (by simpa using hi) (fun j hj => by simpa using f (j + 1) (by omega)) (by simpa using e)
    unfold Lib.indexByte
    rw [if_neg (by simpa using h0), ih, if_neg (by simp)]; omega
/-- The first place of a byte. -/
theorem first_at (c : UInt8) : ∀ l : List UInt8, (∀ j, j < l.length → ¬ l.getD j 0 = c) ∨ ∃ i, i < l.length ∧ (∀ j, j < i → ¬ l.getD j 0 = c) ∧ l.getD i 0 = c
  | [] => .inl (fun j hj => by simp at hj)
  | a :: r => by
    by_cases h0 : a = c
    · exact .inr ⟨0, by simp, fun j hj => absurd hj (Nat.not_lt_zero _), by simpa using h0⟩
    · rcases first_at c r with h | ⟨i, hi, f, e⟩
      · refine .inl fun j hj => ?_
        cases j with
        | zero => simpa using h0
        | succ j => simpa using h j (by simpa using hj)
      · refine .inr ⟨i + 1, by simpa using hi, fun j hj => ?_, by simpa using e⟩
        cases j with
        | zero => simpa using h0
        | succ j => simpa using f j (by omega)
end Go.Proofs.YtiaidmjhgfaobaaDoor

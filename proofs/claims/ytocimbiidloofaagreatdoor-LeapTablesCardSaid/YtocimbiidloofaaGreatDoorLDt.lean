/- The date of a day, as functions. No program is mentioned. -/
import Derived.Test.YtocimbiidloofaaGreatDoorLCal

import Derived.WalkKit

namespace Go.Proofs.YtocimbiidloofaaGreatDoor

open Go.RowKit

set_option linter.unusedVariables false

def dtY (n : Int) : Int := 2000 + pC n * 400 + pA n * 100 + pF n * 4 + pO n + (if 10 ≤ pM n then 1 else 0)
def dtM (n : Int) : Int := if 10 ≤ pM n then pM n + 3 - 12 else pM n + 3
def dtD (n : Int) : Int := pR3 n - (153 * pM n + 2) / 5 + 1
theorem dt_of {n : Int} (h0 : -719162 ≤ n) (h1 : n < 2932897) : vld (dtY n) (dtM n) (dtD n) = true ∧ dayN (dtY n) (dtM n) (dtD n) = n := by
  have p := parts_of h0 h1
  unfold dtY dtM dtD
  by_cases z : 10 ≤ pM n
  · rw [if_pos z, if_pos z]; exact parts_early p h0 h1 z
  · rw [if_neg z, if_neg z, Int.add_zero]; exact parts_late p h0 h1 (by omega)
theorem dt_at {y m d : Int} (h : vld y m d = true) : dtY (dayN y m d) = y ∧ dtM (dayN y m d) = m ∧ dtD (dayN y m d) = d := by
  have r := day_range h
  have q := dt_of r.1 r.2
  exact day_inj q.1 h q.2
end Go.Proofs.YtocimbiidloofaaGreatDoor

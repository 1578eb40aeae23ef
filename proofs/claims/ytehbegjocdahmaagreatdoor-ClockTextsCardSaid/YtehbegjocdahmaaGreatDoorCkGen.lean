/- Boxed structs of six cells. No program is mentioned. -/
import Derived.Test.YtehbegjocdahmaaGreatDoorLGen

namespace Go.Proofs.YtehbegjocdahmaaGreatDoor

open Go.RowKit

set_option linter.unusedVariables false

structure Six (w : World) (b : Nat) (p q r x y z : Value) : Prop where
  c0 : w.cell? ⟨b, 0, none⟩ = some p
  c1 : w.cell? ⟨b, 1, none⟩ = some q
  c2 : w.cell? ⟨b, 2, none⟩ = some r
  c3 : w.cell? ⟨b, 3, none⟩ = some x
  c4 : w.cell? ⟨b, 4, none⟩ = some y
  c5 : w.cell? ⟨b, 5, none⟩ = some z
  lt : b < w.heap.size
theorem Six.keep {w w' : World} {b : Nat} {p q r x y z : Value} (h : Six w b p q r x y z) (hb : Below w.heap.size w w') : Six w' b p q r x y z := by
  have l := h.lt
  refine ⟨?_, ?_, ?_, ?_, ?_, ?_, by have := hb.size; omega⟩
  · rw [hb.cell (p := ⟨b, 0, none⟩) l]; exact h.c0
  · rw [hb.cell (p := ⟨b, 1, none⟩) l]; exact h.c1
  · rw [hb.cell (p := ⟨b, 2, none⟩) l]; exact h.c2
  · rw [hb.cell (p := ⟨b, 3, none⟩) l]; exact h.c3
  · rw [hb.cell (p := ⟨b, 4, none⟩) l]; exact h.c4
  · rw [hb.cell (p := ⟨b, 5, none⟩) l]; exact h.c5
theorem Six.new {w w' : World} {p q r x y z : Value} {t : TypeId} (hb : Below (w.alloc (.cells #[p, q, r, x, y, z] t)).heap.size (w.alloc (.cells #[p, q, r, x, y, z] t)) w') : Six w' w.heap.size p q r x y z := by
  have hs : w.heap.size < (w.alloc (.cells #[p, q, r, x, y, z] t)).heap.size := by simp
  have := hb.size
  refine ⟨?_, ?_, ?_, ?_, ?_, ?_, by simp at this; omega⟩
  · rw [hb.cell (p := ⟨w.heap.size, 0, none⟩) hs, World.cell?_alloc_new]; rfl
  · rw [hb.cell (p := ⟨w.heap.size, 1, none⟩) hs, World.cell?_alloc_new]; rfl
  · rw [hb.cell (p := ⟨w.heap.size, 2, none⟩) hs, World.cell?_alloc_new]; rfl
  · rw [hb.cell (p := ⟨w.heap.size, 3, none⟩) hs, World.cell?_alloc_new]; rfl
  · rw [hb.cell (p := ⟨w.heap.size, 4, none⟩) hs, World.cell?_alloc_new]; rfl
  · rw [hb.cell (p := ⟨w.heap.size, 5, none⟩) hs, World.cell?_alloc_new]; rfl
theorem Six.old {w : World} {b : Nat} {p q r x y z : Value} (h : Six w b p q r x y z) (o : Obj) : Six (w.alloc o) b p q r x y z := h.keep (grow (here w) o)
theorem Six.drewN {w : World} {b : Nat} {p q r x y z : Value} (h : Six w b p q r x y z) (n : Nat) : Six (w.drewN n) b p q r x y z := h.keep (below_drewN (here w) n)
theorem Six.snd {w w' : World} {o : Obj} {p q r x y z : Value} {t : TypeId} (hb : Below ((w.alloc o).alloc (.cells #[p, q, r, x, y, z] t)).heap.size ((w.alloc o).alloc (.cells #[p, q, r, x, y, z] t)) w') : Six w' (w.heap.size + 1) p q r x y z := by
  have h := Six.new hb; rw [size_two] at h; exact h
theorem Six.fst {w w' : World} {o : Obj} {p q r x y z : Value} {t : TypeId} (hb : Below ((w.alloc (.cells #[p, q, r, x, y, z] t)).alloc o).heap.size ((w.alloc (.cells #[p, q, r, x, y, z] t)).alloc o) w') : Six w' w.heap.size p q r x y z :=
  ((Six.new (here (w.alloc (.cells #[p, q, r, x, y, z] t)))).old o).keep hb
theorem Box.fst {w w' : World} {o : Obj} {x y z : Value} {t : TypeId} (hb : Below ((w.alloc (.cells #[x, y, z] t)).alloc o).heap.size ((w.alloc (.cells #[x, y, z] t)).alloc o) w') : Box w' w.heap.size x y z :=
  ((Box.new (here (w.alloc (.cells #[x, y, z] t)))).old o).keep hb
/-- A boxed struct of six cells that may be written. -/
structure Free6 (w : World) (b : Nat) : Prop where
  f0 : w.frozen? ⟨b, 0, none⟩ = false
  f1 : w.frozen? ⟨b, 1, none⟩ = false
  f2 : w.frozen? ⟨b, 2, none⟩ = false
  f3 : w.frozen? ⟨b, 3, none⟩ = false
  f4 : w.frozen? ⟨b, 4, none⟩ = false
  f5 : w.frozen? ⟨b, 5, none⟩ = false
theorem Free6.new {w w' : World} {cs : Array Value} {t : TypeId} (hb : Below (w.alloc (.cells cs t)).heap.size (w.alloc (.cells cs t)) w') : Free6 w' w.heap.size := by
  have e : w.heap.size < (w.alloc (.cells cs t)).heap.size := by simp
  refine ⟨?_, ?_, ?_, ?_, ?_, ?_⟩
  · rw [hb.frozen (p := ⟨w.heap.size, 0, none⟩) e]; exact World.frozen?_alloc_new _ _ _ _
  · rw [hb.frozen (p := ⟨w.heap.size, 1, none⟩) e]; exact World.frozen?_alloc_new _ _ _ _
  · rw [hb.frozen (p := ⟨w.heap.size, 2, none⟩) e]; exact World.frozen?_alloc_new _ _ _ _
  · rw [hb.frozen (p := ⟨w.heap.size, 3, none⟩) e]; exact World.frozen?_alloc_new _ _ _ _
  · rw [hb.frozen (p := ⟨w.heap.size, 4, none⟩) e]; exact World.frozen?_alloc_new _ _ _ _
  · rw [hb.frozen (p := ⟨w.heap.size, 5, none⟩) e]; exact World.frozen?_alloc_new _ _ _ _
theorem Free6.keep {w w' : World} {b : Nat} (h : Free6 w b) (l : b < w.heap.size) (hb : Below w.heap.size w w') : Free6 w' b :=
  ⟨by rw [hb.frozen (p := ⟨b, 0, none⟩) l]; exact h.f0, by rw [hb.frozen (p := ⟨b, 1, none⟩) l]; exact h.f1, by rw [hb.frozen (p := ⟨b, 2, none⟩) l]; exact h.f2, by rw [hb.frozen (p := ⟨b, 3, none⟩) l]; exact h.f3, by rw [hb.frozen (p := ⟨b, 4, none⟩) l]; exact h.f4, by rw [hb.frozen (p := ⟨b, 5, none⟩) l]; exact h.f5⟩
theorem Below.set6 {w w1 : World} {b : Nat} (h : Below w.heap.size w w1) (hb : w.heap.size ≤ b) (p q r x y z : Value) :
    Below w.heap.size w ((((((w1.setCell ⟨b, 0, none⟩ p).setCell ⟨b, 1, none⟩ q).setCell ⟨b, 2, none⟩ r).setCell ⟨b, 3, none⟩ x).setCell ⟨b, 4, none⟩ y).setCell ⟨b, 5, none⟩ z) :=
  (((((h.setCell hb p).setCell hb q).setCell hb r).setCell hb x).setCell hb y).setCell hb z
end Go.Proofs.YtehbegjocdahmaaGreatDoor

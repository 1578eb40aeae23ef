/- Worlds: boxes of two cells. No program is mentioned. -/
import Derived.Test.YtimpaaimdjlhjaaDoorLGen
namespace Go.Proofs.YtimpaaimdjlhjaaDoor
open Go.RowKit
set_option linter.unusedVariables false

/-- A boxed struct of two cells. -/
structure Two (w : World) (b : Nat) (x y : Value) : Prop where
  c0 : w.cell? ⟨b, 0, none⟩ = some x
  c1 : w.cell? ⟨b, 1, none⟩ = some y
  lt : b < w.heap.size
theorem Two.keep {w w' : World} {b : Nat} {x y : Value} (h : Two w b x y) (hb : Below w.heap.size w w') : Two w' b x y := by
  have l := h.lt
  refine ⟨?_, ?_, by have := hb.size; omega⟩
  · rw [hb.cell (p := ⟨b, 0, none⟩) l]; exact h.c0
  · rw [hb.cell (p := ⟨b, 1, none⟩) l]; exact h.c1
theorem Two.new {w w' : World} {x y : Value} {t : TypeId} (hb : Below (w.alloc (.cells #[x, y] t)).heap.size (w.alloc (.cells #[x, y] t)) w') : Two w' w.heap.size x y := by
  have hs : w.heap.size < (w.alloc (.cells #[x, y] t)).heap.size := by simp
  have := hb.size
  refine ⟨?_, ?_, by simp at this; omega⟩
  · rw [hb.cell (p := ⟨w.heap.size, 0, none⟩) hs, World.cell?_alloc_new]; rfl
  · rw [hb.cell (p := ⟨w.heap.size, 1, none⟩) hs, World.cell?_alloc_new]; rfl
theorem Two.old {w : World} {b : Nat} {x y : Value} (h : Two w b x y) (o : Obj) : Two (w.alloc o) b x y := h.keep (grow (here w) o)
theorem Two.drewN {w : World} {b : Nat} {x y : Value} (h : Two w b x y) (n : Nat) : Two (w.drewN n) b x y := h.keep (below_drewN (here w) n)
theorem size_two (w : World) (o : Obj) : (w.alloc o).heap.size = w.heap.size + 1 := by simp
theorem Box.snd {w w' : World} {o : Obj} {x y z : Value} {t : TypeId} (hb : Below ((w.alloc o).alloc (.cells #[x, y, z] t)).heap.size ((w.alloc o).alloc (.cells #[x, y, z] t)) w') : Box w' (w.heap.size + 1) x y z := by
  have h := Box.new hb; rw [size_two] at h; exact h
theorem Free.snd {w w' : World} {o : Obj} {x y z : Value} {t : TypeId} (hb : Below ((w.alloc o).alloc (.cells #[x, y, z] t)).heap.size ((w.alloc o).alloc (.cells #[x, y, z] t)) w') : Free w' (w.heap.size + 1) := by
  have h := Free.new hb; rw [size_two] at h; exact h
theorem Two.fst {w w' : World} {o : Obj} {x y : Value} {t : TypeId} (hb : Below ((w.alloc (.cells #[x, y] t)).alloc o).heap.size ((w.alloc (.cells #[x, y] t)).alloc o) w') : Two w' w.heap.size x y :=
  ((Two.new (here (w.alloc (.cells #[x, y] t)))).old o).keep hb
end Go.Proofs.YtimpaaimdjlhjaaDoor

/- Three boxes in a row. -/
import Derived.Test.YtiaidmjhgfaobaaDoorLGen

namespace Go.Proofs.YtiaidmjhgfaobaaDoor

open Go.RowKit

set_option linter.unusedVariables false

theorem Two.fst3 {w w' : World} {o o' : Obj} {x y : Value} {t : TypeId} (hb : Below (((w.alloc (.cells #[x, y] t)).alloc o).alloc o').heap.size (((w.alloc (.cells #[x, y] t)).alloc o).alloc o') w') : Two w' w.heap.size x y :=
  (((Two.new (here (w.alloc (.cells #[x, y] t)))).old o).old o').keep hb
theorem Two.snd3 {w w' : World} {o o' : Obj} {x y : Value} {t : TypeId} (hb : Below (((w.alloc o).alloc (.cells #[x, y] t)).alloc o').heap.size (((w.alloc o).alloc (.cells #[x, y] t)).alloc o') w') : Two w' (w.heap.size + 1) x y :=
  ((Two.snd (here ((w.alloc o).alloc (.cells #[x, y] t)))).old o').keep hb
theorem Two.trd3 {w w' : World} {o o' : Obj} {x y : Value} {t : TypeId} (hb : Below (((w.alloc o).alloc o').alloc (.cells #[x, y] t)).heap.size (((w.alloc o).alloc o').alloc (.cells #[x, y] t)) w') : Two w' (w.heap.size + 2) x y := by
  have h := Two.new hb; rw [size_two, size_two] at h; exact h
theorem One.fst3 {w w' : World} {o o' : Obj} {x : Value} {t : TypeId} (hb : Below (((w.alloc (.cells #[x] t)).alloc o).alloc o').heap.size (((w.alloc (.cells #[x] t)).alloc o).alloc o') w') : One w' w.heap.size x :=
  (((One.new (here (w.alloc (.cells #[x] t)))).old o).old o').keep hb
theorem One.snd3 {w w' : World} {o o' : Obj} {x : Value} {t : TypeId} (hb : Below (((w.alloc o).alloc (.cells #[x] t)).alloc o').heap.size (((w.alloc o).alloc (.cells #[x] t)).alloc o') w') : One w' (w.heap.size + 1) x := by
  have h := ((One.new (here ((w.alloc o).alloc (.cells #[x] t)))).old o').keep hb; rw [size_two] at h; exact h
theorem One.trd3 {w w' : World} {o o' : Obj} {x : Value} {t : TypeId} (hb : Below (((w.alloc o).alloc o').alloc (.cells #[x] t)).heap.size (((w.alloc o).alloc o').alloc (.cells #[x] t)) w') : One w' (w.heap.size + 2) x := by
  have h := One.new hb; rw [size_two, size_two] at h; exact h
end Go.Proofs.YtiaidmjhgfaobaaDoor

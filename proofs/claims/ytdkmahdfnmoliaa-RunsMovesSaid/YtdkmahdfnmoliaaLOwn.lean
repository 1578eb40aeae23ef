/- Slices that a function makes by appending: what they own, and that it stays. -/
import Derived.Test.YtdkmahdfnmoliaaLSl

import Derived.OwnWalk

namespace Go.Proofs.Ytdkmahdfnmoliaa

open Go.RowKit

set_option linter.unusedVariables false

theorem One.under {w w' : World} {B b : Nat} {v : Value} (h : One w b v) (hb : Below B w w') (l : b < B) : One w' b v :=
  ⟨by rw [hb.cell (p := ⟨b, 0, none⟩) l]; exact h.c, by have := hb.size; have := h.lt; omega⟩
theorem Box.under {w w' : World} {B b : Nat} {x y z : Value} (h : Box w b x y z) (hb : Below B w w') (l : b < B) : Box w' b x y z := by
  refine ⟨?_, ?_, ?_, by have := hb.size; have := h.lt; omega⟩
  · rw [hb.cell (p := ⟨b, 0, none⟩) l]; exact h.c0
  · rw [hb.cell (p := ⟨b, 1, none⟩) l]; exact h.c1
  · rw [hb.cell (p := ⟨b, 2, none⟩) l]; exact h.c2
theorem Free.under {w w' : World} {B b : Nat} (h : Free w b) (hb : Below B w w') (l : b < B) : Free w' b :=
  ⟨by rw [hb.frozen (p := ⟨b, 0, none⟩) l]; exact h.f0, by rw [hb.frozen (p := ⟨b, 1, none⟩) l]; exact h.f1, by rw [hb.frozen (p := ⟨b, 2, none⟩) l]; exact h.f2⟩
theorem owns_below {w w' : World} {base : Nat} {e : TypeId} {size : Nat} {v : Value} {n : Nat} {xs : List Value} (h : w.ownsRow base e size v n xs) (hb : Below w.heap.size w w') : w'.ownsRow base e size v n xs :=
  h.kept (row := none) ⟨hb.os, hb.tape, hb.output, hb.size, fun k hk _ => hb.block k hk⟩ (by
    cases v.ownBlock <;> simp)
theorem own_ge {w : World} {base : Nat} {e : TypeId} {size : Nat} {v : Value} {n : Nat} {xs : List Value} (h : w.ownsRow base e size v n xs) : ∀ k, v.ownBlock = some k → base ≤ k := fun k hk => (h.lt k hk).1
theorem infoInt : (Try.prog.info? 3).map (fun i => (i.zero, i.size, i.bytes)) = some (some (.int .i64 0), 1, 8) := by kernel_rfl
end Go.Proofs.Ytdkmahdfnmoliaa

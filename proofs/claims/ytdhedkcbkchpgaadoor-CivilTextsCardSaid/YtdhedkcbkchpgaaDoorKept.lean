/- A region that draws its order, whose operations read and whose callees keep what was there: one walk, in the order of the text. And boxed structs of three cells. -/
import Derived.Test.YtdhedkcbkchpgaaDoorRefB
import Derived.Deep.QuietTactic
import Derived.BigQuiet
import Derived.Below
import Derived.WalkKit
namespace Go.Proofs.YtdhedkcbkchpgaaDoor
open Go.RowKit

/-- A world in which all that 'w' holds is still there. -/
structure Kept (w : World) where
  wd : World
  ok : Below w.heap.size w wd
instance kept_some (w : World) : Nonempty (Kept w) := ⟨⟨w, Below.refl _ _⟩⟩
theorem wp_region_kept {P : Program} {id : Nat} {Q : Exit → Act → World → Prop} {a : Act} {w : World} {l : List Oper} (hm : P.follows .mixedOrders = true) (hB : Region.lexB .any l.toArray = true)
    (h : wpQuiet P l.toArray (fun w' => ∃ x : Kept w, w' = x.wd) (fun a' => ∀ w', (∃ x : Kept w, w' = x.wd) → Q .normal a' w') l a) : (Code.region id l.toArray true).wp P Q a w :=
  wp_region_quiet (C := fun w' => ∃ x : Kept w, w' = x.wd) hm hB ⟨⟨w.drew, (Below.refl _ _).drew⟩, rfl⟩ (by simpa using h)
/-- What a callee hands back that keeps what was there. -/
theorem kept_call {P : Program} {f : FuncId} {args : Array Value} {w : World} {v : Value} (x : Kept w)
    (h : Calls P f args x.wd fun e w' => e = .returned v ∧ Below x.wd.heap.size x.wd w') : Calls P f args x.wd fun e w'' => e = .returned v ∧ ∃ m : Kept w, w'' = m.wd :=
  h.mono fun _ w' ⟨he, hb⟩ => ⟨he, ⟨w', x.ok.trans (hb.mono x.ok.size)⟩, rfl⟩
theorem kept_same {P : Program} {f : FuncId} {args : Array Value} {w : World} {v : Value} (x : Kept w)
    (h : Calls P f args x.wd fun e w' => e = .returned v ∧ x.wd = w') : Calls P f args x.wd fun e w'' => e = .returned v ∧ ∃ m : Kept w, w'' = m.wd :=
  h.mono fun _ _ ⟨he, hb⟩ => ⟨he, x, hb.symm⟩
theorem kept_drew {P : Program} {f : FuncId} {args : Array Value} {w : World} {v : Value} (x : Kept w)
    (h : Calls P f args x.wd fun e w' => e = .returned v ∧ ∃ k, w' = x.wd.drewN k) : Calls P f args x.wd fun e w'' => e = .returned v ∧ ∃ m : Kept w, w'' = m.wd :=
  h.mono fun _ _ ⟨he, k, hb⟩ => ⟨he, ⟨x.wd.drewN k, below_drewN x.ok k⟩, hb⟩
theorem down {w a b : World} (h : Below w.heap.size w a) (k : Below a.heap.size a b) : Below w.heap.size w b := h.trans (k.mono h.size)
theorem grow {a w : World} (h : Below a.heap.size a w) (o : Obj) : Below a.heap.size a (w.alloc o) := h.alloc h.size o
theorem here (w : World) : Below w.heap.size w w := Below.refl _ _
/-- A boxed struct of three cells. -/
structure Box (w : World) (b : Nat) (x y z : Value) : Prop where
  c0 : w.cell? ⟨b, 0, none⟩ = some x
  c1 : w.cell? ⟨b, 1, none⟩ = some y
  c2 : w.cell? ⟨b, 2, none⟩ = some z
  lt : b < w.heap.size
theorem Box.keep {w w' : World} {b : Nat} {x y z : Value} (h : Box w b x y z) (hb : Below w.heap.size w w') : Box w' b x y z := by
  have l := h.lt
  refine ⟨?_, ?_, ?_, by have := hb.size; omega⟩
  · rw [hb.cell (p := ⟨b, 0, none⟩) l]; exact h.c0
  · rw [hb.cell (p := ⟨b, 1, none⟩) l]; exact h.c1
  · rw [hb.cell (p := ⟨b, 2, none⟩) l]; exact h.c2
theorem Box.new {w w' : World} {x y z : Value} {t : TypeId} (hb : Below (w.alloc (.cells #[x, y, z] t)).heap.size (w.alloc (.cells #[x, y, z] t)) w') : Box w' w.heap.size x y z := by
  obtain ⟨h0, h1, h2⟩ := box_cells hb
  have := hb.size
  exact ⟨h0, h1, h2, by simp at this; omega⟩
theorem Box.old {w : World} {b : Nat} {x y z : Value} (h : Box w b x y z) (o : Obj) : Box (w.alloc o) b x y z := h.keep (grow (here w) o)
theorem Box.drewN {w : World} {b : Nat} {x y z : Value} (h : Box w b x y z) (n : Nat) : Box (w.drewN n) b x y z := h.keep (below_drewN (here w) n)
end Go.Proofs.YtdhedkcbkchpgaaDoor

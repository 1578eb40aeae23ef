/- Boxed structs of three cells that are written. -/
import Derived.Test.YtdhedkcbkchpgaaDoorKept
namespace Go.Proofs.YtdhedkcbkchpgaaDoor
open Go.RowKit
set_option linter.unusedVariables false

/-- A boxed struct of three cells that may be written. -/
structure Free (w : World) (b : Nat) : Prop where
  f0 : w.frozen? ⟨b, 0, none⟩ = false
  f1 : w.frozen? ⟨b, 1, none⟩ = false
  f2 : w.frozen? ⟨b, 2, none⟩ = false
theorem Free.new {w w' : World} {x y z : Value} {t : TypeId} (hb : Below (w.alloc (.cells #[x, y, z] t)).heap.size (w.alloc (.cells #[x, y, z] t)) w') : Free w' w.heap.size := by
  have e : w.heap.size < (w.alloc (.cells #[x, y, z] t)).heap.size := by simp
  refine ⟨?_, ?_, ?_⟩
  · rw [hb.frozen (p := ⟨w.heap.size, 0, none⟩) e]; exact World.frozen?_alloc_new _ _ _ _
  · rw [hb.frozen (p := ⟨w.heap.size, 1, none⟩) e]; exact World.frozen?_alloc_new _ _ _ _
  · rw [hb.frozen (p := ⟨w.heap.size, 2, none⟩) e]; exact World.frozen?_alloc_new _ _ _ _
theorem Free.set {w : World} {b : Nat} (h : Free w b) (a : Addr) (v : Value) : Free (w.setCell a v) b :=
  ⟨by rw [World.frozen?_setCell]; exact h.f0, by rw [World.frozen?_setCell]; exact h.f1, by rw [World.frozen?_setCell]; exact h.f2⟩
theorem Free.keep {w w' : World} {b : Nat} (h : Free w b) (l : b < w.heap.size) (hb : Below w.heap.size w w') : Free w' b :=
  ⟨by rw [hb.frozen (p := ⟨b, 0, none⟩) l]; exact h.f0, by rw [hb.frozen (p := ⟨b, 1, none⟩) l]; exact h.f1, by rw [hb.frozen (p := ⟨b, 2, none⟩) l]; exact h.f2⟩
theorem Free.drewN {w : World} {b : Nat} (h : Free w b) (n : Nat) : Free (w.drewN n) b := ⟨h.f0, h.f1, h.f2⟩
theorem Box.drew {w : World} {b : Nat} {x y z : Value} (h : Box w b x y z) : Box w.drew b x y z := h.drewN 1
theorem size_set (w : World) (a : Addr) (v : Value) : (w.setCell a v).heap.size = w.heap.size := by simp [World.setCell]
theorem Box.far {w : World} {b b' : Nat} {x y z : Value} (h : Box w b' x y z) (hne : b ≠ b') (o : Nat) (v : Value) : Box (w.setCell ⟨b, o, none⟩ v) b' x y z := by
  have q : ∀ j, (⟨b, o, none⟩ : Addr) ≠ ⟨b', j, none⟩ := fun j e => hne (congrArg Addr.block e)
  exact ⟨by rw [World.cell?_setCell_other (h := q 0)]; exact h.c0, by rw [World.cell?_setCell_other (h := q 1)]; exact h.c1, by rw [World.cell?_setCell_other (h := q 2)]; exact h.c2, by rw [size_set]; exact h.lt⟩
theorem Box.put0 {w : World} {b : Nat} {x y z : Value} (h : Box w b x y z) (v : Value) : Box (w.setCell ⟨b, 0, none⟩ v) b v y z :=
  ⟨World.cell?_setCell_same w _ v h.c0, by rw [World.cell?_setCell_other (h := by simp)]; exact h.c1, by rw [World.cell?_setCell_other (h := by simp)]; exact h.c2, by rw [size_set]; exact h.lt⟩
theorem Box.put1 {w : World} {b : Nat} {x y z : Value} (h : Box w b x y z) (v : Value) : Box (w.setCell ⟨b, 1, none⟩ v) b x v z :=
  ⟨by rw [World.cell?_setCell_other (h := by simp)]; exact h.c0, World.cell?_setCell_same w _ v h.c1, by rw [World.cell?_setCell_other (h := by simp)]; exact h.c2, by rw [size_set]; exact h.lt⟩
theorem Box.put2 {w : World} {b : Nat} {x y z : Value} (h : Box w b x y z) (v : Value) : Box (w.setCell ⟨b, 2, none⟩ v) b x y v :=
  ⟨by rw [World.cell?_setCell_other (h := by simp)]; exact h.c0, by rw [World.cell?_setCell_other (h := by simp)]; exact h.c1, World.cell?_setCell_same w _ v h.c2, by rw [size_set]; exact h.lt⟩
end Go.Proofs.YtdhedkcbkchpgaaDoor

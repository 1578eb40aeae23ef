/- Boxes of two cells that may be written; spans that a function appends. -/
import Derived.Test.YtdkmahdfnmoliaaLSl

import Derived.Test.YtdkmahdfnmoliaaLOwn

import Derived.OwnWalk

import Derived.Deep.QuietTactic

import Derived.BigQuiet

import Derived.Outline

import Derived.Lib.SmallJoins

namespace Go.Proofs.Ytdkmahdfnmoliaa

open Go.RowKit

set_option linter.unusedVariables false

theorem infoSpan : (Try.prog.info? 33).map (fun i => (i.zero, i.size, i.bytes)) = some (some (.agg #[.int .i64 0, .int .i64 0]), 2, 16) := by kernel_rfl
/-- A boxed struct of two cells that may be written. -/
structure Tuo (w : World) (b : Nat) (x y : Value) : Prop where
  t : Two w b x y
  f0 : w.frozen? ⟨b, 0, none⟩ = false
  f1 : w.frozen? ⟨b, 1, none⟩ = false
theorem Tuo.keep {w w' : World} {b : Nat} {x y : Value} (h : Tuo w b x y) (hb : Below w.heap.size w w') : Tuo w' b x y :=
  ⟨h.t.keep hb, by rw [hb.frozen (p := ⟨b, 0, none⟩) h.t.lt]; exact h.f0, by rw [hb.frozen (p := ⟨b, 1, none⟩) h.t.lt]; exact h.f1⟩
theorem Tuo.new (w : World) (x y : Value) (t : TypeId) : Tuo (w.alloc (.cells #[x, y] t)) w.heap.size x y :=
  ⟨Two.new (here _), World.frozen?_alloc_new _ _ _ _, World.frozen?_alloc_new _ _ _ _⟩
theorem Tuo.put {w : World} {b : Nat} {x y : Value} (h : Tuo w b x y) (u v : Value) : Two ((w.setCell ⟨b, 0, none⟩ u).setCell ⟨b, 1, none⟩ v) b u v :=
  ⟨by rw [World.cell?_setCell_other (h := by simp)]; exact World.cell?_setCell_same w _ u h.t.c0, World.cell?_setCell_same _ _ v (by rw [World.cell?_setCell_other (h := by simp)]; exact h.t.c1), by rw [size_set, size_set]; exact h.t.lt⟩
theorem Tuo.put0 {w : World} {b : Nat} {x y : Value} (h : Tuo w b x y) (u : Value) : Tuo (w.setCell ⟨b, 0, none⟩ u) b u y :=
  ⟨⟨World.cell?_setCell_same w _ u h.t.c0, by rw [World.cell?_setCell_other (h := by simp)]; exact h.t.c1, by rw [size_set]; exact h.t.lt⟩, by rw [World.frozen?_setCell]; exact h.f0, by rw [World.frozen?_setCell]; exact h.f1⟩
theorem Tuo.put1 {w : World} {b : Nat} {x y : Value} (h : Tuo w b x y) (v : Value) : Tuo (w.setCell ⟨b, 1, none⟩ v) b x v :=
  ⟨⟨by rw [World.cell?_setCell_other (h := by simp)]; exact h.t.c0, World.cell?_setCell_same w _ v h.t.c1, by rw [size_set]; exact h.t.lt⟩, by rw [World.frozen?_setCell]; exact h.f0, by rw [World.frozen?_setCell]; exact h.f1⟩
theorem Two.under {w w' : World} {B b : Nat} {x y : Value} (h : Two w b x y) (hb : Below B w w') (l : b < B) : Two w' b x y := by
  refine ⟨?_, ?_, by have := hb.size; have := h.lt; omega⟩
  · rw [hb.cell (p := ⟨b, 0, none⟩) l]; exact h.c0
  · rw [hb.cell (p := ⟨b, 1, none⟩) l]; exact h.c1
/-- One more span behind those that a function has made. -/
theorem own_snoc {w : World} {B : Nat} {v : Value} {n : Nat} {l : List (Int × Int)} {p : Int × Int} (h : w.ownsRow B 33 2 v n (pairs l ++ [.int .i64 p.1, .int .i64 p.2])) : w.ownsRow B 33 2 v n (pairs (l ++ [p])) := by
  rw [pairs_append]; exact h
end Go.Proofs.Ytdkmahdfnmoliaa

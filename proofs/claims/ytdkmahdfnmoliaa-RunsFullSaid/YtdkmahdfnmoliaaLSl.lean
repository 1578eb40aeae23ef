/- Slices of ints and of pairs: where they lie, what stays; slices.Equal, slices.Index, slices.Contains of ints. -/
import Derived.Test.YtdkmahdfnmoliaaLGen

import Derived.Test.YtdkmahdfnmoliaaProg

import Derived.WalkKit

import Derived.Outline

import Derived.BigQuiet

import Derived.Deep.QuietTactic

namespace Go.Proofs.Ytdkmahdfnmoliaa

open Go.RowKit

set_option linter.unusedVariables false

/-- Cells lie from a place on. -/
structure Lies (w : World) (b off : Nat) (xs : List Value) : Prop where
  lt : b < w.heap.size
  cell : ∀ (j : Nat) (u : Value), xs[j]? = some u → w.cell? ⟨b, off + j, none⟩ = some u
theorem Lies.keep {w w' : World} {b off : Nat} {xs : List Value} (h : Lies w b off xs) (hb : Below w.heap.size w w') : Lies w' b off xs := by
  have l := h.lt
  refine ⟨by have := hb.size; omega, fun j u hj => ?_⟩
  rw [hb.cell (p := ⟨b, off + j, none⟩) l]; exact h.cell j u hj
/-- A slice of n elements whose cells are xs, in a block from base on. -/
def Sl (base : Nat) (w : World) (v : Value) (n : Nat) (xs : List Value) : Prop :=
  (n = 0 ∧ ∃ ao c, v = .slice ao 0 c) ∨ ∃ b off c, v = .slice (some ⟨b, off, none⟩) n c ∧ base ≤ b ∧ Lies w b off xs
theorem Sl.keep {base : Nat} {w w' : World} {v : Value} {n : Nat} {xs : List Value} (h : Sl base w v n xs) (hb : Below w.heap.size w w') : Sl base w' v n xs := by
  rcases h with h | ⟨b, off, c, h, l, k⟩
  · exact .inl h
  · exact .inr ⟨b, off, c, h, l, k.keep hb⟩
theorem Sl.weak {base base' : Nat} {w : World} {v : Value} {n : Nat} {xs : List Value} (h : Sl base w v n xs) (hb : base' ≤ base) : Sl base' w v n xs := by
  rcases h with h | ⟨b, off, c, h, l, k⟩
  · exact .inl h
  · exact .inr ⟨b, off, c, h, Nat.le_trans hb l, k⟩
theorem Sl.far {base : Nat} {w : World} {v : Value} {n : Nat} {xs : List Value} (h : Sl base w v n xs) {b' o : Nat} (hb : b' < base) (u : Value) : Sl base (w.setCell ⟨b', o, none⟩ u) v n xs := by
  rcases h with h | ⟨b, off, c, h, l, k⟩
  · exact .inl h
  · refine .inr ⟨b, off, c, h, l, by rw [size_set]; exact k.lt, fun j x hj => ?_⟩
    rw [World.cell?_setCell_other (h := fun e => by have := congrArg Addr.block e; simp at this; omega)]
    exact k.cell j x hj
theorem Sl.none (base : Nat) (w : World) : Sl base w (.slice none 0 0) 0 [] := .inl ⟨rfl, _, _, rfl⟩
theorem Sl.shape {base : Nat} {w : World} {v : Value} {n : Nat} {xs : List Value} (h : Sl base w v n xs) : ∃ ao c, v = .slice ao n c := by
  rcases h with ⟨rfl, a, c, rfl⟩ | ⟨b, o, c, rfl, -⟩ <;> exact ⟨_, _, rfl⟩
theorem Sl.owns {w : World} {base : Nat} {e : TypeId} {size : Nat} {v : Value} {n : Nat} {xs : List Value} (h : w.ownsRow base e size v n xs) : Sl base w v n xs := by
  rcases h.2 with ⟨rfl, rfl⟩ | ⟨g, cap, cur, rfl, hb, hh, -, -, -, hx⟩
  · exact .inl ⟨rfl, _, _, rfl⟩
  · refine .inr ⟨g, 0, cap, rfl, hb, ?_, fun j u hj => ?_⟩
    · exact (h.lt g rfl).2
    · have := h.cells (g := g) rfl j u hj
      rw [Addr.add_lit, Nat.zero_add] at this
      rw [Nat.zero_add]; exact this
abbrev ints (zs : List Int) : List Value := zs.map (Value.int .i64)
def IntS (base : Nat) (w : World) (v : Value) (zs : List Int) : Prop := Sl base w v zs.length (ints zs)
/-- The cells of pairs of ints. -/
def pairs : List (Int × Int) → List Value
  | [] => []
  | p :: l => .int .i64 p.1 :: .int .i64 p.2 :: pairs l
def PairS (base : Nat) (w : World) (v : Value) (ps : List (Int × Int)) : Prop := Sl base w v ps.length (pairs ps)
theorem IntS.keep {base : Nat} {w w' : World} {v : Value} {zs : List Int} (h : IntS base w v zs) (hb : Below w.heap.size w w') : IntS base w' v zs := Sl.keep h hb
theorem PairS.keep {base : Nat} {w w' : World} {v : Value} {ps : List (Int × Int)} (h : PairS base w v ps) (hb : Below w.heap.size w w') : PairS base w' v ps := Sl.keep h hb
theorem ints_at {w : World} {b off : Nat} {zs : List Int} (h : Lies w b off (ints zs)) (j : Nat) (hj : j < zs.length) : w.cell? ⟨b, off + j, none⟩ = some (.int .i64 (zs.getD j 0)) := by
  refine h.cell j _ ?_
  simp [ints, List.getD_eq_getElem?_getD, hj]
theorem pairs_length (ps : List (Int × Int)) : (pairs ps).length = ps.length * 2 := by
  induction ps with
  | nil => rfl
  | cons p l ih => simp [pairs, ih]; omega
theorem pairs_append (a b : List (Int × Int)) : pairs (a ++ b) = pairs a ++ pairs b := by
  induction a with
  | nil => rfl
  | cons p l ih => simp [pairs, ih]
theorem pairs_get (ps : List (Int × Int)) (j : Nat) (hj : j < ps.length) : (pairs ps)[2 * j]? = some (.int .i64 (ps.getD j (0, 0)).1) ∧ (pairs ps)[2 * j + 1]? = some (.int .i64 (ps.getD j (0, 0)).2) := by
  induction ps generalizing j with
  | nil => exact absurd hj (Nat.not_lt_zero _)
  | cons p l ih =>
    cases j with
    | zero => exact ⟨rfl, rfl⟩
    | succ j =>
      have h := ih j (by simpa using hj)
      rw [show 2 * (j + 1) = 2 * j + 2 by omega, show 2 * j + 2 + 1 = 2 * j + 1 + 2 by omega]
      simpa [pairs] using h
theorem pairs_at {w : World} {b off : Nat} {ps : List (Int × Int)} (h : Lies w b off (pairs ps)) (j : Nat) (hj : j < ps.length) :
    w.cell? ⟨b, off + j * 2, none⟩ = some (.int .i64 (ps.getD j (0, 0)).1) ∧ w.cell? ⟨b, off + j * 2 + 1, none⟩ = some (.int .i64 (ps.getD j (0, 0)).2) := by
  have q := pairs_get ps j hj
  rw [Nat.mul_comm 2 j] at q
  exact ⟨h.cell _ _ q.1, by rw [Nat.add_assoc]; exact h.cell _ _ q.2⟩
theorem list_eq_of {α : Type} {d : α} {a b : List α} (l : a.length = b.length) (h : ∀ j, j < a.length → a.getD j d = b.getD j d) : a = b := by
  refine List.ext_getElem l fun j h1 h2 => ?_
  have := h j h1
  simpa [List.getD_eq_getElem?_getD, h1, h2] using this
theorem list_ne_of {α : Type} {d : α} {a b : List α} (j : Nat) (h : ¬ a.getD j d = b.getD j d) : ¬ a = b := fun e => h (by rw [e])
end Go.Proofs.Ytdkmahdfnmoliaa

/- Plain facts: the table of compositions, associativity, inverses. No program is mentioned. -/
import Derived.Test.YtiaidmjhgfaobaaDoorAlSnd
namespace Go.Proofs.YtiaidmjhgfaobaaDoor
open Go.RowKit
set_option linter.unusedVariables false

def otL : List (List Nat) := [[6, 3, 3, 3, 3, 1, 1, 1, 1, 0, 0, 0, 0, 0, 0], [9, 6, 3, 3, 3, 7, 2, 2, 2, 1, 1, 1, 0, 0, 0], [9, 9, 6, 3, 3, 8, 7, 2, 2, 7, 2, 2, 1, 1, 0], [9, 9, 9, 6, 3, 8, 8, 7, 2, 8, 7, 2, 7, 2, 1], [9, 9, 9, 9, 6, 8, 8, 8, 7, 8, 8, 7, 8, 7, 7], [11, 5, 4, 4, 4, 6, 3, 3, 3, 1, 1, 1, 0, 0, 0], [11, 10, 5, 4, 4, 9, 6, 3, 3, 7, 2, 2, 1, 1, 0], [11, 10, 10, 5, 4, 9, 9, 6, 3, 8, 7, 2, 7, 2, 1], [11, 10, 10, 10, 5, 9, 9, 9, 6, 8, 8, 7, 8, 7, 7], [12, 11, 5, 4, 4, 11, 5, 4, 4, 6, 3, 3, 1, 1, 0], [12, 11, 10, 5, 4, 11, 10, 5, 4, 9, 6, 3, 7, 2, 1], [12, 11, 10, 10, 5, 11, 10, 10, 5, 9, 9, 6, 8, 7, 7], [12, 12, 11, 5, 4, 12, 11, 5, 4, 11, 5, 4, 6, 3, 1], [12, 12, 11, 10, 5, 12, 11, 10, 5, 11, 10, 5, 9, 6, 7], [12, 12, 12, 11, 5, 12, 12, 11, 5, 12, 11, 5, 11, 5, 6]]
def ot (i j : Nat) : Nat := (otL.getD i []).getD j 0
def tbL : List (List Nat) := [[1, 1, 1, 1, 31, 31, 1, 1, 1, 1, 31, 31, 8191], [1, 1, 1, 2, 28, 28, 2, 1, 1, 2, 28, 224, 7936], [1, 1, 7, 4, 28, 28, 4, 7, 391, 388, 2044, 1792, 7936], [1, 1, 7, 8, 16, 16, 8, 7, 391, 584, 1072, 2048, 4096], [1, 1, 31, 16, 16, 16, 16, 31, 8191, 7216, 7216, 4096, 4096], [1, 2, 28, 16, 16, 32, 32, 224, 7936, 7168, 7168, 4096, 4096], [1, 2, 4, 8, 16, 32, 64, 128, 256, 512, 1024, 2048, 4096], [1, 2, 4, 4, 28, 224, 128, 128, 256, 256, 1792, 1792, 7936], [391, 388, 388, 388, 2044, 1792, 256, 256, 256, 256, 1792, 1792, 7936], [391, 388, 388, 584, 1072, 1024, 512, 256, 256, 512, 1024, 2048, 4096], [391, 388, 2044, 1072, 1072, 1024, 1024, 1792, 7936, 7168, 7168, 4096, 4096], [391, 584, 1072, 1072, 1072, 2048, 2048, 2048, 4096, 4096, 4096, 4096, 4096], [8191, 7216, 7216, 7216, 7216, 4096, 4096, 4096, 4096, 4096, 4096, 4096, 4096]]
/-- The composition of two relations. -/
def tb (r q : Nat) : Nat := (tbL.getD r []).getD q 0
def wtL : List (List (List (Nat × Nat × Nat))) := [[[(0, 9, 14)], [(0, 9, 12)], [(0, 10, 13)], [(0, 9, 10)], [(0, 9, 3), (0, 9, 7), (0, 12, 11), (1, 12, 8), (5, 12, 4)], [(0, 9, 2), (0, 9, 6), (0, 12, 10), (1, 12, 7), (5, 12, 3)], [(0, 9, 9)], [(0, 10, 12)], [(0, 11, 12)], [(0, 10, 9)], [(0, 10, 2), (0, 10, 6), (0, 13, 10), (1, 13, 7), (5, 13, 3)], [(0, 9, 1), (0, 9, 5), (0, 12, 9), (1, 12, 6), (5, 12, 2)], [(0, 9, 0), (0, 12, 1), (0, 12, 5), (0, 14, 9), (1, 12, 0), (1, 12, 5), (1, 14, 6), (2, 14, 5), (5, 12, 0), (5, 12, 1), (5, 14, 2), (6, 14, 1), (9, 14, 0)]], [[(0, 5, 12)], [(0, 5, 9)], [(0, 6, 10)], [(0, 5, 6)], [(0, 5, 2), (1, 9, 7), (5, 9, 3)], [(0, 5, 1), (1, 9, 6), (5, 9, 2)], [(0, 5, 5)], [(0, 6, 9)], [(0, 7, 9)], [(0, 6, 5)], [(0, 6, 1), (1, 10, 6), (5, 10, 2)], [(0, 5, 0), (1, 9, 5), (5, 9, 1)], [(1, 9, 0), (2, 12, 5), (5, 9, 0), (6, 12, 1), (9, 12, 0)]], [[(1, 6, 14)], [(1, 6, 12)], [(1, 6, 10), (1, 7, 13), (2, 7, 11)], [(1, 6, 7)], [(1, 6, 3), (2, 10, 8), (6, 10, 4)], [(1, 6, 2), (2, 10, 7), (6, 10, 3)], [(1, 6, 6)], [(1, 6, 9), (1, 7, 12), (2, 7, 10)], [(1, 7, 9), (1, 8, 12), (2, 7, 9), (2, 8, 10), (3, 8, 9)], [(1, 6, 5), (1, 7, 6), (2, 7, 5)], [(1, 6, 1), (1, 7, 2), (2, 7, 1), (2, 10, 6), (2, 11, 7), (3, 11, 6), (6, 10, 2), (6, 11, 3), (7, 11, 2)], [(1, 6, 0), (2, 10, 5), (6, 10, 1)], [(2, 10, 0), (3, 13, 5), (6, 10, 0), (7, 13, 1), (10, 13, 0)]], [[(0, 1, 12)], [(0, 1, 9)], [(0, 1, 6), (0, 2, 10), (1, 2, 7)], [(0, 1, 2)], [(5, 6, 3)], [(5, 6, 2)], [(0, 1, 1)], [(0, 1, 5), (0, 2, 9), (1, 2, 6)], [(0, 2, 5), (0, 3, 9), (1, 2, 5), (1, 3, 6), (2, 3, 5)], [(0, 1, 0), (0, 2, 1), (1, 2, 0)], [(5, 6, 1), (5, 7, 2), (6, 7, 1)], [(5, 6, 0)], [(9, 10, 0)]], [[(5, 2, 14)], [(5, 2, 12)], [(5, 2, 7), (5, 2, 10), (5, 3, 13), (6, 3, 11), (9, 3, 8)], [(5, 2, 3)], [(9, 7, 4)], [(9, 7, 3)], [(5, 2, 2)], [(5, 2, 6), (5, 2, 9), (5, 3, 12), (6, 3, 10), (9, 3, 7)], [(5, 2, 5), (5, 3, 6), (5, 3, 9), (5, 4, 12), (6, 3, 5), (6, 3, 9), (6, 4, 10), (7, 4, 9), (9, 3, 5), (9, 3, 6), (9, 4, 7), (10, 4, 6), (12, 4, 5)], [(5, 2, 0), (5, 2, 1), (5, 3, 2), (6, 3, 1), (9, 3, 0)], [(9, 7, 1), (9, 7, 2), (9, 8, 3), (10, 8, 2), (12, 8, 1)], [(9, 7, 0)], [(12, 11, 0)]], [[(5, 1, 12)], [(5, 1, 9)], [(5, 1, 6), (6, 2, 10), (9, 2, 7)], [(5, 1, 2)], [(9, 6, 3)], [(9, 6, 2)], [(5, 1, 1)], [(5, 1, 5), (6, 2, 9), (9, 2, 6)], [(6, 2, 5), (7, 3, 9), (9, 2, 5), (10, 3, 6), (12, 3, 5)], [(5, 1, 0), (6, 2, 1), (9, 2, 0)], [(9, 6, 1), (10, 7, 2), (12, 7, 1)], [(9, 6, 0)], [(12, 10, 0)]], [[(0, 0, 9)], [(0, 0, 5)], [(1, 1, 6)], [(0, 0, 1)], [(5, 5, 2)], [(5, 5, 1)], [(0, 0, 0)], [(1, 1, 5)], [(2, 2, 5)], [(1, 1, 0)], [(6, 6, 1)], [(5, 5, 0)], [(9, 9, 0)]], [[(1, 5, 12)], [(1, 5, 9)], [(2, 6, 10)], [(1, 5, 6)], [(1, 5, 2), (2, 9, 7), (6, 9, 3)], [(1, 5, 1), (2, 9, 6), (6, 9, 2)], [(1, 5, 5)], [(2, 6, 9)], [(3, 7, 9)], [(2, 6, 5)], [(2, 6, 1), (3, 10, 6), (7, 10, 2)], [(1, 5, 0), (2, 9, 5), (6, 9, 1)], [(2, 9, 0), (3, 12, 5), (6, 9, 0), (7, 12, 1), (10, 12, 0)]], [[(2, 5, 12), (2, 5, 14), (3, 5, 12), (3, 5, 13), (4, 5, 12)], [(2, 5, 9), (2, 5, 10), (3, 5, 9)], [(3, 6, 10), (3, 6, 11), (4, 6, 10)], [(2, 5, 6), (2, 5, 7), (3, 5, 6)], [(2, 5, 2), (2, 5, 3), (3, 5, 2), (3, 9, 7), (3, 9, 8), (4, 9, 7), (7, 9, 3), (7, 9, 4), (8, 9, 3)], [(2, 5, 1), (3, 9, 6), (7, 9, 2)], [(2, 5, 5)], [(3, 6, 9)], [(4, 7, 9)], [(3, 6, 5)], [(3, 6, 1), (4, 10, 6), (8, 10, 2)], [(2, 5, 0), (3, 9, 5), (7, 9, 1)], [(3, 9, 0), (4, 12, 5), (7, 9, 0), (8, 12, 1), (11, 12, 0)]], [[(1, 0, 9), (1, 0, 12), (2, 0, 9), (2, 0, 10), (3, 0, 9)], [(1, 0, 5), (1, 0, 6), (2, 0, 5)], [(2, 1, 6), (2, 1, 7), (3, 1, 6)], [(1, 0, 1), (1, 0, 2), (2, 0, 1)], [(6, 5, 2), (6, 5, 3), (7, 5, 2)], [(6, 5, 1)], [(1, 0, 0)], [(2, 1, 5)], [(3, 2, 5)], [(2, 1, 0)], [(7, 6, 1)], [(6, 5, 0)], [(10, 9, 0)]], [[(6, 1, 12), (6, 1, 14), (7, 1, 12), (7, 1, 13), (8, 1, 12)], [(6, 1, 9), (6, 1, 10), (7, 1, 9)], [(6, 1, 6), (6, 1, 7), (7, 1, 6), (7, 2, 10), (7, 2, 11), (8, 2, 10), (10, 2, 7), (10, 2, 8), (11, 2, 7)], [(6, 1, 2), (6, 1, 3), (7, 1, 2)], [(10, 6, 3), (10, 6, 4), (11, 6, 3)], [(10, 6, 2)], [(6, 1, 1)], [(6, 1, 5), (7, 2, 9), (10, 2, 6)], [(7, 2, 5), (8, 3, 9), (10, 2, 5), (11, 3, 6), (13, 3, 5)], [(6, 1, 0), (7, 2, 1), (10, 2, 0)], [(10, 6, 1), (11, 7, 2), (13, 7, 1)], [(10, 6, 0)], [(13, 10, 0)]], [[(5, 0, 9), (5, 0, 12), (6, 0, 9), (6, 0, 10), (7, 0, 9)], [(5, 0, 5), (5, 0, 6), (6, 0, 5)], [(9, 1, 6), (9, 1, 7), (10, 1, 6)], [(5, 0, 1), (5, 0, 2), (6, 0, 1)], [(9, 5, 2), (9, 5, 3), (10, 5, 2)], [(9, 5, 1)], [(5, 0, 0)], [(9, 1, 5)], [(12, 2, 5)], [(9, 1, 0)], [(12, 6, 1)], [(9, 5, 0)], [(12, 9, 0)]], [[(9, 0, 9), (9, 0, 10), (9, 0, 12), (9, 0, 14), (10, 0, 9), (10, 0, 12), (10, 0, 13), (11, 0, 12), (12, 0, 9), (12, 0, 10), (12, 0, 11), (13, 0, 10), (14, 0, 9)], [(9, 0, 5), (9, 0, 6), (9, 0, 7), (10, 0, 6), (12, 0, 5)], [(12, 1, 6), (12, 1, 7), (12, 1, 8), (13, 1, 7), (14, 1, 6)], [(9, 0, 1), (9, 0, 2), (9, 0, 3), (10, 0, 2), (12, 0, 1)], [(12, 5, 2), (12, 5, 3), (12, 5, 4), (13, 5, 3), (14, 5, 2)], [(12, 5, 1)], [(9, 0, 0)], [(12, 1, 5)], [(14, 2, 5)], [(12, 1, 0)], [(14, 6, 1)], [(12, 5, 0)], [(14, 9, 0)]]]
def wt (r q : Nat) : List (Nat × Nat × Nat) := (wtL.getD r []).getD q []
set_option maxRecDepth 100000
theorem ofN_tab : ∀ i j : Fin 15, ofN i j = ot i j := by decide +kernel
theorem tb_in : ∀ i j k : Fin 15, (tb (ot i j) (ot j k)).testBit (ot i k) = true := by decide +kernel
theorem tb_wit : ∀ r q t : Fin 13, (tb r q).testBit t = true → (wt r q).any (fun w => decide (w.1 < 15) && decide (w.2.1 < 15) && decide (w.2.2 < 15) && ot w.1 w.2.1 == r && ot w.2.1 w.2.2 == q && ot w.1 w.2.2 == t) = true := by decide +kernel
theorem tb_lt : ∀ r q : Fin 13, tb r q < 8192 := by decide +kernel
theorem ot_lt : ∀ i j : Fin 15, ot i j < 13 := by decide +kernel
theorem bit_lt {a t : Nat} (h : a < 8192) (b : a.testBit t = true) : t < 13 := by
  rcases Nat.lt_or_ge t 13 with z | z
  · exact z
  · have : a < 2 ^ t := Nat.lt_of_lt_of_le h (Nat.pow_le_pow_right (n := 2) (by decide) z)
    rw [Nat.testBit_lt_two_pow this] at b; cases b
/-- A composition is the union of the table's. -/
theorem cm_tab {A B : Nat} (t : Nat) : (cmI A B 15).testBit t = true ↔ ∃ r q, r < 13 ∧ q < 13 ∧ A.testBit r = true ∧ B.testBit q = true ∧ (tb r q).testBit t = true := by
  rw [cmI_bit]
  constructor
  · rintro ⟨i, j, k, hi, hj, hk, a, b, c⟩
    have e1 := ofN_tab ⟨i, hi⟩ ⟨j, hj⟩
    have e2 := ofN_tab ⟨j, hj⟩ ⟨k, hk⟩
    have e3 := ofN_tab ⟨i, hi⟩ ⟨k, hk⟩
    simp only at e1 e2 e3
    rw [e1] at a
    rw [e2] at b
    rw [e3] at c
    subst c
    exact ⟨ot i j, ot j k, ot_lt ⟨i, hi⟩ ⟨j, hj⟩, ot_lt ⟨j, hj⟩ ⟨k, hk⟩, a, b, tb_in ⟨i, hi⟩ ⟨j, hj⟩ ⟨k, hk⟩⟩
  · rintro ⟨r, q, hr, hq, a, b, c⟩
    have ht := bit_lt (tb_lt ⟨r, hr⟩ ⟨q, hq⟩) c
    have w := tb_wit ⟨r, hr⟩ ⟨q, hq⟩ ⟨t, ht⟩ c
    rw [List.any_eq_true] at w
    obtain ⟨⟨i, j, k⟩, -, w⟩ := w
    simp only [Bool.and_eq_true, decide_eq_true_eq, beq_iff_eq] at w
    obtain ⟨⟨⟨⟨⟨hi, hj⟩, hk⟩, e1⟩, e2⟩, e3⟩ := w
    refine ⟨i, j, k, hi, hj, hk, ?_, ?_, ?_⟩
    · have := ofN_tab ⟨i, hi⟩ ⟨j, hj⟩; simp only at this; rw [this, e1]; exact a
    · have := ofN_tab ⟨j, hj⟩ ⟨k, hk⟩; simp only at this; rw [this, e2]; exact b
    · have := ofN_tab ⟨i, hi⟩ ⟨k, hk⟩; simp only at this; rw [this, e3]
/-- The union of the table's rows, of its columns. -/
def rowU (A q : Nat) : Nat := (List.range 13).foldl (fun o r => if A.testBit r then o ||| tb r q else o) 0
def colU (r B : Nat) : Nat := (List.range 13).foldl (fun o q => if B.testBit q then o ||| tb r q else o) 0
theorem fold_bit (f : Nat → Nat) (A t : Nat) : ∀ (l : List Nat) (o : Nat), (l.foldl (fun o r => if A.testBit r then o ||| f r else o) o).testBit t = true ↔ o.testBit t = true ∨ ∃ r, r ∈ l ∧ A.testBit r = true ∧ (f r).testBit t = true := by
  intro l
  induction l with
  | nil => intro o; simp
  | cons r l ih =>
    intro o
    rw [List.foldl_cons, ih]
    cases h : A.testBit r
    · simp [h]
    · simp [h, Nat.testBit_or, or_assoc]
theorem rowU_bit (A q t : Nat) : (rowU A q).testBit t = true ↔ ∃ r, r < 13 ∧ A.testBit r = true ∧ (tb r q).testBit t = true := by
  unfold rowU; rw [fold_bit]; simp
theorem colU_bit (r B t : Nat) : (colU r B).testBit t = true ↔ ∃ q, q < 13 ∧ B.testBit q = true ∧ (tb r q).testBit t = true := by
  unfold colU; rw [fold_bit]; simp
theorem tb_assoc : ∀ r q s : Fin 13, rowU (tb r q) s = colU r (tb q s) := by decide +kernel
theorem eq_bits {a b : Nat} (h : ∀ t, a.testBit t = true ↔ b.testBit t = true) : a = b := Nat.eq_of_testBit_eq fun t => by rw [Bool.eq_iff_iff]; exact h t
/-- Composition is associative. -/
theorem cm_assoc (A B D : Nat) : cmI (cmI A B 15) D 15 = cmI A (cmI B D 15) 15 := by
  refine eq_bits fun t => ?_
  rw [cm_tab, cm_tab]
  constructor
  · rintro ⟨m, s, hm, hs, a, d, e⟩
    obtain ⟨r, q, hr, hq, a, b, c⟩ := (cm_tab m).1 a
    have x : (rowU (tb r q) s).testBit t = true := (rowU_bit _ _ _).2 ⟨m, hm, c, e⟩
    have y := tb_assoc ⟨r, hr⟩ ⟨q, hq⟩ ⟨s, hs⟩
    simp only at y
    rw [y, colU_bit] at x
    obtain ⟨n, hn, c, e⟩ := x
    exact ⟨r, n, hr, hn, a, (cm_tab n).2 ⟨q, s, hq, hs, b, d, c⟩, e⟩
  · rintro ⟨r, n, hr, hn, a, d, e⟩
    obtain ⟨q, s, hq, hs, b, d, c⟩ := (cm_tab n).1 d
    have x : (colU r (tb q s)).testBit t = true := (colU_bit _ _ _).2 ⟨n, hn, c, e⟩
    have y := tb_assoc ⟨r, hr⟩ ⟨q, hq⟩ ⟨s, hs⟩
    simp only at y
    rw [← y, rowU_bit] at x
    obtain ⟨m, hm, c, e⟩ := x
    exact ⟨m, s, hm, hs, (cm_tab m).2 ⟨r, q, hr, hq, a, b, c⟩, d, e⟩
/-- It distributes over unions. -/
theorem cm_or (A B D : Nat) : cmI (A ||| B) D 15 = cmI A D 15 ||| cmI B D 15 := by
  refine eq_bits fun t => ?_
  rw [bit_or, Bool.or_eq_true, cm_tab, cm_tab, cm_tab]
  constructor
  · rintro ⟨r, q, hr, hq, a, b, c⟩
    rw [bit_or, Bool.or_eq_true] at a
    rcases a with a | a
    · exact .inl ⟨r, q, hr, hq, a, b, c⟩
    · exact .inr ⟨r, q, hr, hq, a, b, c⟩
  · rintro (⟨r, q, hr, hq, a, b, c⟩ | ⟨r, q, hr, hq, a, b, c⟩)
    · exact ⟨r, q, hr, hq, by rw [bit_or, a]; rfl, b, c⟩
    · exact ⟨r, q, hr, hq, by rw [bit_or, a, Bool.or_true], b, c⟩
theorem tb_unit : ∀ r : Fin 13, tb r 6 = 2 ^ (r : Nat) ∧ tb 6 r = 2 ^ (r : Nat) := by decide +kernel
theorem bit64 (r : Nat) : Nat.testBit 64 r = decide (6 = r) := bit_pow 6 r
/-- Its unit is equals. -/
theorem cm_unit {A : Nat} (h : A < 8192) : cmI A 64 15 = A ∧ cmI 64 A 15 = A := by
  constructor
  · refine eq_bits fun t => ?_
    rw [cm_tab]
    constructor
    · rintro ⟨r, q, hr, hq, a, b, c⟩
      rw [bit64, decide_eq_true_iff] at b
      subst b
      have u := (tb_unit ⟨r, hr⟩).1
      simp only at u
      rw [u, bit_pow, decide_eq_true_iff] at c
      subst c; exact a
    · intro a
      have ht := bit_lt h a
      have u := (tb_unit ⟨t, ht⟩).1
      simp only at u
      exact ⟨t, 6, ht, by decide, a, by decide, by rw [u, bit_pow]; simp⟩
  · refine eq_bits fun t => ?_
    rw [cm_tab]
    constructor
    · rintro ⟨r, q, hr, hq, b, a, c⟩
      rw [bit64, decide_eq_true_iff] at b
      subst b
      have u := (tb_unit ⟨q, hq⟩).2
      simp only at u
      rw [u, bit_pow, decide_eq_true_iff] at c
      subst c; exact a
    · intro a
      have ht := bit_lt h a
      have u := (tb_unit ⟨t, ht⟩).2
      simp only at u
      exact ⟨6, t, by decide, ht, by decide, a, by rw [u, bit_pow]; simp⟩
/-- Inverses. -/
theorem ivK_bit (S t : Nat) : ∀ n, n ≤ 13 → ((ivK S n).testBit t = true ↔ ∃ r, r < n ∧ S.testBit r = true ∧ 12 - r = t) := by
  intro n
  induction n with
  | zero => intro _; simp [ivK]
  | succ n ih =>
    intro hn
    have e : ivK S (n + 1) = if S.testBit n then ivK S n ||| 2 ^ (12 - n) else ivK S n := rfl
    rw [e]
    cases h : S.testBit n
    · rw [if_neg (by simp), ih (by omega)]
      constructor
      · rintro ⟨r, hr, q⟩; exact ⟨r, by omega, q⟩
      · rintro ⟨r, hr, q⟩
        rcases Nat.lt_or_ge r n with z | z
        · exact ⟨r, z, q⟩
        · obtain rfl : r = n := by omega
          rw [h] at q; cases q.1
    · rw [if_pos rfl, bit_or, Bool.or_eq_true, ih (by omega), bit_pow, decide_eq_true_iff]
      constructor
      · rintro (⟨r, hr, q⟩ | q)
        · exact ⟨r, by omega, q⟩
        · exact ⟨n, by omega, h, q⟩
      · rintro ⟨r, hr, q⟩
        rcases Nat.lt_or_ge r n with z | z
        · exact .inl ⟨r, z, q⟩
        · obtain rfl : r = n := by omega
          exact .inr q.2
theorem inv_bit {S t : Nat} (ht : t < 13) : (ivK S 13).testBit t = S.testBit (12 - t) := by
  rw [Bool.eq_iff_iff, ivK_bit S t 13 (Nat.le_refl _)]
  constructor
  · rintro ⟨r, hr, a, e⟩
    rw [show 12 - t = r by omega]; exact a
  · intro a; exact ⟨12 - t, by omega, a, by omega⟩
theorem inv_high {S t : Nat} (ht : 13 ≤ t) : (ivK S 13).testBit t = false := by
  rw [← Bool.not_eq_true]
  intro a
  have := bit_lt (ivK_lt S 13) a
  omega
theorem inv_inv {S : Nat} (h : S < 8192) : ivK (ivK S 13) 13 = S := by
  refine eq_bits fun t => ?_
  rcases Nat.lt_or_ge t 13 with z | z
  · rw [inv_bit z, inv_bit (by omega), show 12 - (12 - t) = t by omega]
  · rw [inv_high z]
    constructor
    · intro q; cases q
    · intro a; have := bit_lt h a; omega
theorem inv_or {A B : Nat} : ivK (A ||| B) 13 = ivK A 13 ||| ivK B 13 := by
  refine eq_bits fun t => ?_
  rcases Nat.lt_or_ge t 13 with z | z
  · rw [bit_or, inv_bit z, inv_bit z, inv_bit z, bit_or]
  · rw [bit_or, inv_high z, inv_high z, inv_high z]; simp
theorem tb_inv : ∀ r q t : Fin 13, (tb r q).testBit t = (tb (12 - q) (12 - r)).testBit (12 - t) := by decide +kernel
/-- The inverse of a composition. -/
theorem cm_inv {A B : Nat} : ivK (cmI A B 15) 13 = cmI (ivK B 13) (ivK A 13) 15 := by
  refine eq_bits fun t => ?_
  rcases Nat.lt_or_ge t 13 with z | z
  · rw [inv_bit z, cm_tab, cm_tab]
    constructor
    · rintro ⟨r, q, hr, hq, a, b, c⟩
      have y := tb_inv ⟨r, hr⟩ ⟨q, hq⟩ ⟨12 - t, by omega⟩
      simp only at y
      rw [y, show 12 - (12 - t) = t by omega] at c
      exact ⟨12 - q, 12 - r, by omega, by omega, by rw [inv_bit (by omega), show 12 - (12 - q) = q by omega]; exact b, by rw [inv_bit (by omega), show 12 - (12 - r) = r by omega]; exact a, c⟩
    · rintro ⟨q, r, hq, hr, b, a, c⟩
      rw [inv_bit hq] at b
      rw [inv_bit hr] at a
      have y := tb_inv ⟨q, hq⟩ ⟨r, hr⟩ ⟨t, z⟩
      simp only at y
      rw [y] at c
      exact ⟨12 - r, 12 - q, by omega, by omega, a, b, c⟩
  · rw [inv_high z]
    constructor
    · intro q; cases q
    · intro a; have := bit_lt (cmI_lt _ _ 15 (Nat.le_refl _)) a; omega
end Go.Proofs.YtiaidmjhgfaobaaDoor

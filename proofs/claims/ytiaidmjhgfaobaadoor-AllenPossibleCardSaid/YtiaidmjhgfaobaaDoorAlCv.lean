/- Plain facts: convex sets, their intersections, inverses and compositions. No program is mentioned. -/
import Derived.Test.YtiaidmjhgfaobaaDoorAlTab
import Derived.Test.YtiaidmjhgfaobaaDoorAlV
namespace Go.Proofs.YtiaidmjhgfaobaaDoor
open Go.RowKit
set_option linter.unusedVariables false
set_option maxRecDepth 100000

/-- The relations of a box of places. -/
def bxS (p q u v : Int) : Nat := (List.range 13).foldl (fun o r => if decide (p ≤ plF r) && decide (plF r ≤ q) && decide (u ≤ plS r) && decide (plS r ≤ v) then o ||| 2 ^ r else o) 0
theorem foldp_bit (f : Nat → Bool) (t : Nat) : ∀ (l : List Nat) (o : Nat), (l.foldl (fun o r => if f r then o ||| 2 ^ r else o) o).testBit t = true ↔ o.testBit t = true ∨ (t ∈ l ∧ f t = true) := by
  intro l
  induction l with
  | nil => intro o; simp
  | cons r l ih =>
    intro o
    rw [List.foldl_cons, ih]
    cases h : f r
    · simp only [Bool.false_eq_true, if_false, List.mem_cons]
      constructor
      · rintro (a | a)
        · exact .inl a
        · exact .inr ⟨.inr a.1, a.2⟩
      · rintro (a | ⟨a | a, b⟩)
        · exact .inl a
        · subst a; rw [h] at b; cases b
        · exact .inr ⟨a, b⟩
    · simp only [if_true, bit_or, Bool.or_eq_true, bit_pow, decide_eq_true_eq, List.mem_cons]
      constructor
      · rintro ((a | a) | a)
        · exact .inl a
        · subst a; exact .inr ⟨.inl rfl, h⟩
        · exact .inr ⟨.inr a.1, a.2⟩
      · rintro (a | ⟨a | a, b⟩)
        · exact .inl (.inl a)
        · exact .inl (.inr a.symm)
        · exact .inr ⟨a, b⟩
/-- The convex sets. -/
def cvL : List Nat := [0, 1, 2, 3, 4, 6, 7, 8, 12, 14, 15, 16, 24, 28, 30, 31, 32, 48, 64, 72, 96, 120, 128, 132, 134, 135, 192, 204, 206, 207, 224, 252, 254, 255, 256, 384, 388, 390, 391, 512, 576, 584, 768, 960, 972, 974, 975, 1024, 1056, 1072, 1536, 1632, 1656, 1792, 2016, 2044, 2046, 2047, 2048, 3072, 3104, 3120, 3584, 3680, 3704, 3840, 4064, 4092, 4094, 4095, 4096, 6144, 7168, 7200, 7216, 7680, 7776, 7800, 7936, 8160, 8188, 8190, 8191]
theorem bx_in : ∀ p : Fin 7, ∀ q : Fin 7, ∀ u : Fin 7, ∀ v : Fin 7, cvL.contains (bxS (p : Nat) (q : Nat) (u : Nat) (v : Nat)) = true := by decide +kernel
theorem cvL_cv : cvL.all (fun S => cvN S && decide (S < 8192)) = true := by decide +kernel
theorem bx_bd (L : List Int) : ∀ k, (0 ≤ bxP L k ∧ bxP L k ≤ 6) ∧ (0 ≤ bxQ L k ∧ bxQ L k ≤ 6) ∧ (0 ≤ bxU L k ∧ bxU L k ≤ 6) ∧ 0 ≤ bxV L k ∧ bxV L k ≤ 6 := by
  intro k
  induction k with
  | zero => exact (by decide : ((0 : Int) ≤ 6 ∧ (6 : Int) ≤ 6) ∧ ((0 : Int) ≤ 0 ∧ (0 : Int) ≤ 6) ∧ ((0 : Int) ≤ 6 ∧ (6 : Int) ≤ 6) ∧ (0 : Int) ≤ 0 ∧ (0 : Int) ≤ 6)
  | succ k ih =>
    have b := pl_bd (L.getD k 0).toNat
    have e1 : bxP L (k + 1) = mnV (bxP L k) (plF (L.getD k 0).toNat) := rfl
    have e2 : bxQ L (k + 1) = mxV (bxQ L k) (plF (L.getD k 0).toNat) := rfl
    have e3 : bxU L (k + 1) = mnV (bxU L k) (plS (L.getD k 0).toNat) := rfl
    have e4 : bxV L (k + 1) = mxV (bxV L k) (plS (L.getD k 0).toNat) := rfl
    rw [e1, e2, e3, e4]
    unfold mnV mxV
    refine ⟨?_, ?_, ?_, ?_⟩ <;> split <;> omega
theorem cv_iff {S : Nat} (h : S < 8192) : cvN S = true ↔ S ∈ cvL := by
  constructor
  · intro c
    rw [cvN_iff] at c
    have b := bx_bd (sgL S 13) (sgL S 13).length
    obtain ⟨⟨p0, p1⟩, ⟨q0, q1⟩, ⟨u0, u1⟩, v0, v1⟩ := b
    obtain ⟨p, hp⟩ : ∃ p : Nat, bxP (sgL S 13) (sgL S 13).length = p := ⟨(bxP (sgL S 13) (sgL S 13).length).toNat, by omega⟩
    obtain ⟨q, hq⟩ : ∃ p : Nat, bxQ (sgL S 13) (sgL S 13).length = p := ⟨(bxQ (sgL S 13) (sgL S 13).length).toNat, by omega⟩
    obtain ⟨u, hu⟩ : ∃ p : Nat, bxU (sgL S 13) (sgL S 13).length = p := ⟨(bxU (sgL S 13) (sgL S 13).length).toNat, by omega⟩
    obtain ⟨v, hv⟩ : ∃ p : Nat, bxV (sgL S 13) (sgL S 13).length = p := ⟨(bxV (sgL S 13) (sgL S 13).length).toNat, by omega⟩
    have e : S = bxS p q u v := by
      refine eq_bits fun t => ?_
      unfold bxS
      rw [foldp_bit]
      have ix : inX (sgL S 13) t = (decide ((p : Int) ≤ plF t) && decide (plF t ≤ (q : Int)) && decide ((u : Int) ≤ plS t) && decide (plS t ≤ (v : Int))) := by unfold inX; rw [hp, hq, hu, hv]
      constructor
      · intro a
        have ht := bit_lt h a
        exact .inr ⟨by simpa using ht, by rw [← ix, c t ht]; exact a⟩
      · rintro (a | ⟨a, b⟩)
        · simp at a
        · have ht : t < 13 := by simpa using a
          rw [← c t ht, ix]; exact b
    rw [hp] at p1; rw [hq] at q1; rw [hu] at u1; rw [hv] at v1
    have m := bx_in ⟨p, by omega⟩ ⟨q, by omega⟩ ⟨u, by omega⟩ ⟨v, by omega⟩
    simp only at m
    rw [← e] at m
    simpa using m
  · intro m
    have := List.all_eq_true.1 cvL_cv S m
    rw [Bool.and_eq_true] at this
    exact this.1
theorem and_in : cvL.all (fun A => cvL.all fun B => cvL.contains (A &&& B)) = true := by decide +kernel
theorem inv_in : cvL.all (fun A => cvL.contains (ivK A 13)) = true := by decide +kernel
def cmT (A B : Nat) : Nat := (List.range 13).foldl (fun o r => if A.testBit r then o ||| colU r B else o) 0
theorem cmT_eq (A B : Nat) : cmI A B 15 = cmT A B := by
  refine eq_bits fun t => ?_
  unfold cmT
  rw [cm_tab, fold_bit]
  constructor
  · rintro ⟨r, q, hr, hq, a, b, c⟩
    exact .inr ⟨r, by simpa using hr, a, (colU_bit _ _ _).2 ⟨q, hq, b, c⟩⟩
  · rintro (a | ⟨r, hr, a, b⟩)
    · simp at a
    · obtain ⟨q, hq, b, c⟩ := (colU_bit _ _ _).1 b
      exact ⟨r, q, by simpa using hr, hq, a, b, c⟩
theorem cmp_in : cvL.all (fun B => (fun (V : List Nat) => cvL.all fun A => cvL.contains ((List.range 13).foldl (fun o r => if A.testBit r then o ||| V.getD r 0 else o) 0)) ((List.range 13).map fun r => colU r B)) = true := by decide +kernel
theorem cmT_map (A B : Nat) : (List.range 13).foldl (fun o r => if A.testBit r then o ||| (((List.range 13).map fun r => colU r B).getD r 0) else o) 0 = cmT A B := by
  refine eq_bits fun t => ?_
  unfold cmT
  rw [fold_bit, fold_bit]
  constructor
  · rintro (a | ⟨r, hr, a, b⟩)
    · exact .inl a
    · refine .inr ⟨r, hr, a, ?_⟩
      have h : r < 13 := by simpa using hr
      simpa [List.getD_eq_getElem?_getD, h] using b
  · rintro (a | ⟨r, hr, a, b⟩)
    · exact .inl a
    · refine .inr ⟨r, hr, a, ?_⟩
      have h : r < 13 := by simpa using hr
      simpa [List.getD_eq_getElem?_getD, h] using b
/-- Intersections, inverses and compositions of convex sets are convex. -/
theorem cv_closed {A B : Nat} (hA : A < 8192) (hB : B < 8192) (a : cvN A = true) (b : cvN B = true) : cvN (A &&& B) = true ∧ cvN (ivK A 13) = true ∧ cvN (cmI A B 15) = true := by
  rw [cv_iff hA] at a
  rw [cv_iff hB] at b
  have l1 : A &&& B < 8192 := Nat.and_lt_two_pow (n := 13) _ hB
  refine ⟨(cv_iff l1).2 ?_, (cv_iff (ivK_lt A 13)).2 ?_, (cv_iff (cmI_lt A B 15 (Nat.le_refl _))).2 ?_⟩
  · have := List.all_eq_true.1 (List.all_eq_true.1 and_in A a) B b
    simpa using this
  · have := List.all_eq_true.1 inv_in A a
    simpa using this
  · have := List.all_eq_true.1 (List.all_eq_true.1 cmp_in B b) A a
    rw [cmT_map, ← cmT_eq] at this
    simpa using this
end Go.Proofs.YtiaidmjhgfaobaaDoor

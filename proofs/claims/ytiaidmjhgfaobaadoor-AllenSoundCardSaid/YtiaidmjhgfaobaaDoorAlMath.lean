/- Plain facts on sets of relations: bits, places, composition. No program is mentioned. -/
import Derived.Test.YtiaidmjhgfaobaaDoorLIvM
import Derived.WalkKit
import Derived.Laws.Entries
namespace Go.Proofs.YtiaidmjhgfaobaaDoor
open Go.RowKit
set_option linter.unusedVariables false

theorem or_i64 (a b : Nat) (ha : a < 9223372036854775808) (hb : b < 9223372036854775808) : bits .or .i64 (a : Int) (b : Int) = ((a ||| b : Nat) : Int) := by
  have hx : a ||| b < 2 ^ 63 := Nat.or_lt_two_pow (by omega) (by omega)
  have h1 : (BitVec.ofInt 64 (a : Int)).toNat = a := by
    rw [BitVec.ofInt_natCast, BitVec.toNat_ofNat]; exact Nat.mod_eq_of_lt (by omega)
  have h2 : (BitVec.ofInt 64 (b : Int)).toNat = b := by
    rw [BitVec.ofInt_natCast, BitVec.toNat_ofNat]; exact Nat.mod_eq_of_lt (by omega)
  show IntKind.i64.wrap ((BitVec.ofInt 64 (a : Int) ||| BitVec.ofInt 64 (b : Int)).toNat : Int) = _
  rw [BitVec.toNat_or, h1, h2, IntKind.wrap_i64]
  omega
theorem and_i64 (a b : Nat) (ha : a < 9223372036854775808) (hb : b < 9223372036854775808) : bits .and .i64 (a : Int) (b : Int) = ((a &&& b : Nat) : Int) := by
  have hx : a &&& b < 2 ^ 63 := Nat.and_lt_two_pow _ (by omega)
  have h1 : (BitVec.ofInt 64 (a : Int)).toNat = a := by
    rw [BitVec.ofInt_natCast, BitVec.toNat_ofNat]; exact Nat.mod_eq_of_lt (by omega)
  have h2 : (BitVec.ofInt 64 (b : Int)).toNat = b := by
    rw [BitVec.ofInt_natCast, BitVec.toNat_ofNat]; exact Nat.mod_eq_of_lt (by omega)
  show IntKind.i64.wrap ((BitVec.ofInt 64 (a : Int) &&& BitVec.ofInt 64 (b : Int)).toNat : Int) = _
  rw [BitVec.toNat_and, h1, h2, IntKind.wrap_i64]
  omega
/-- The test of a bit, as a walk writes it. -/
theorem al_has (S r : Nat) (hS : S < 8192) : (bits .and .i64 ((S : Int) / 2 ^ r) 1 == 1) = S.testBit r := by
  have e : ((S : Int) / 2 ^ r) = ((S / 2 ^ r : Nat) : Int) := by simp
  have l : S / 2 ^ r ≤ S := Nat.div_le_self _ _
  rw [e, show (1 : Int) = ((1 : Nat) : Int) from rfl, and_i64 _ _ (by omega) (by omega), Nat.testBit_eq_decide_div_mod_eq, Nat.and_one_is_mod]
  rw [Bool.eq_iff_iff, beq_iff_eq, decide_eq_true_iff]
  omega
theorem al_pow {r : Nat} (hr : r ≤ 12) : IntKind.i64.wrap (2 ^ r) = ((2 ^ r : Nat) : Int) := by
  have q : r = 0 ∨ r = 1 ∨ r = 2 ∨ r = 3 ∨ r = 4 ∨ r = 5 ∨ r = 6 ∨ r = 7 ∨ r = 8 ∨ r = 9 ∨ r = 10 ∨ r = 11 ∨ r = 12 := by omega
  rcases q with rfl | rfl | rfl | rfl | rfl | rfl | rfl | rfl | rfl | rfl | rfl | rfl | rfl <;> decide
theorem pow_lt {r : Nat} (hr : r ≤ 12) : 2 ^ r < 8192 := Nat.lt_of_le_of_lt (Nat.pow_le_pow_right (by decide) hr) (by decide)
theorem or_lt {a b : Nat} (ha : a < 8192) (hb : b < 8192) : a ||| b < 8192 := Nat.or_lt_two_pow (n := 13) ha hb
theorem bit_pow (r t : Nat) : (2 ^ r).testBit t = decide (r = t) := Nat.testBit_two_pow
theorem bit_or (a b t : Nat) : (a ||| b).testBit t = (a.testBit t || b.testBit t) := Nat.testBit_or a b t
/-- Sets. -/
def isS (s : Int) : Bool := decide (0 ≤ s) && decide (s ≤ 8191)
theorem isS_iff {s : Int} : isS s = true ↔ 0 ≤ s ∧ s ≤ 8191 := by unfold isS; simp
/-- The relations of a set, from r on downward: a fold in the order of the text. -/
def ivK (S : Nat) : Nat → Nat
  | 0 => 0
  | r + 1 => if S.testBit r then ivK S r ||| 2 ^ (12 - r) else ivK S r
theorem ivK_lt (S r : Nat) : ivK S r < 8192 := by
  induction r with
  | zero => exact Nat.zero_lt_succ _
  | succ r ih =>
    show (if S.testBit r then ivK S r ||| 2 ^ (12 - r) else ivK S r) < 8192
    split
    · exact or_lt ih (pow_lt (by omega))
    · exact ih
def ivS (s : Int) : Int := if isS s then (ivK s.toNat 13 : Int) else -1
def sgL (S : Nat) : Nat → List Int
  | 0 => []
  | r + 1 => if S.testBit r then sgL S r ++ [(r : Int)] else sgL S r
theorem sgL_len (S r : Nat) : (sgL S r).length ≤ r := by
  induction r with
  | zero => exact Nat.le_refl _
  | succ r ih =>
    show (if S.testBit r then sgL S r ++ [(r : Int)] else sgL S r).length ≤ _
    split
    · rw [List.length_append, List.length_singleton]; omega
    · omega
def sgV (s : Int) : List Int := if isS s then sgL s.toNat 13 else []
/-- The place of a number with respect to an interval. -/
def plV (x c d : Int) : Int := if x < c then 1 else if x = c then 2 else if x < d then 3 else if x = d then 4 else 5
def plF : Nat → Int
  | 0 => 1 | 1 => 1 | 2 => 1 | 3 => 2 | 4 => 3 | 5 => 3 | 6 => 2 | 7 => 1 | 8 => 1 | 9 => 2 | 10 => 3 | 11 => 4 | _ => 5
def plS : Nat → Int
  | 0 => 1 | 1 => 2 | 2 => 3 | 3 => 3 | 4 => 3 | 5 => 4 | 6 => 4 | 7 => 4 | _ => 5
theorem plV_cases (x c d : Int) (h : c < d) : (x < c ∧ plV x c d = 1) ∨ (x = c ∧ plV x c d = 2) ∨ (c < x ∧ x < d ∧ plV x c d = 3) ∨ (x = d ∧ plV x c d = 4) ∨ (d < x ∧ plV x c d = 5) := by
  unfold plV
  by_cases h1 : x < c
  · rw [if_pos h1]; exact .inl ⟨h1, rfl⟩
  rw [if_neg h1]
  by_cases h2 : x = c
  · rw [if_pos h2]; exact .inr (.inl ⟨h2, rfl⟩)
  rw [if_neg h2]
  by_cases h3 : x < d
  · rw [if_pos h3]; exact .inr (.inr (.inl ⟨by omega, h3, rfl⟩))
  rw [if_neg h3]
  by_cases h4 : x = d
  · rw [if_pos h4]; exact .inr (.inr (.inr (.inl ⟨h4, rfl⟩)))
  rw [if_neg h4]; exact .inr (.inr (.inr (.inr ⟨by omega, rfl⟩)))
theorem pl_dist : ∀ i j : Fin 13, plF i = plF j ∧ plS i = plS j → i = j := by decide +kernel
/-- The relation of two intervals has the places of their ends. -/
theorem pl_of {a b c d : Int} (h : a < b) (k : c < d) : plV a c d = plF (ofW a b c d).toNat ∧ plV b c d = plS (ofW a b c d).toNat := by
  have p := plV_cases a c d k
  have q := plV_cases b c d k
  rcases ofW_cases a b c d h k with r | r | r | r | r | r | r | r | r | r | r | r | r
  all_goals
    have e := r.2
    first
    | (rw [e]; exact ⟨by simp only [plF, Int.toNat]; omega, by simp only [plS, Int.toNat]; omega⟩)
    | (rw [e.2]; exact ⟨by simp only [plF, Int.toNat]; omega, by simp only [plS, Int.toNat]; omega⟩)
    | (rw [e.2.2]; exact ⟨by simp only [plF, Int.toNat]; omega, by simp only [plS, Int.toNat]; omega⟩)
/-- The intervals between 0 and 5. -/
def smL : List (Int × Int) := [(0, 1), (0, 2), (0, 3), (0, 4), (0, 5), (1, 2), (1, 3), (1, 4), (1, 5), (2, 3), (2, 4), (2, 5), (3, 4), (3, 5), (4, 5)]
def ofN (i j : Nat) : Nat := (ofW (smL.getD i (0, 0)).1 (smL.getD i (0, 0)).2 (smL.getD j (0, 0)).1 (smL.getD j (0, 0)).2).toNat
theorem sm_ok : ∀ i : Fin 15, 0 ≤ (smL.getD i (0, 0)).1 ∧ (smL.getD i (0, 0)).1 < (smL.getD i (0, 0)).2 ∧ (smL.getD i (0, 0)).2 ≤ 5 := by decide +kernel
theorem sm_all : ∀ x : Fin 6, ∀ y : Fin 6, x < y → ∃ i : Fin 15, smL.getD i (0, 0) = (((x : Nat) : Int), ((y : Nat) : Int)) := by decide +kernel
theorem ofN_at {i j : Nat} (hi : i < 15) (hj : j < 15) : ofW (smL.getD i (0, 0)).1 (smL.getD i (0, 0)).2 (smL.getD j (0, 0)).1 (smL.getD j (0, 0)).2 = (ofN i j : Int) ∧ ofN i j ≤ 12 := by
  have a := sm_ok ⟨i, hi⟩
  have b := sm_ok ⟨j, hj⟩
  have c := ofW_bd a.2.1 b.2.1
  unfold ofN
  constructor
  · show ofW _ _ _ _ = _
    have : ofW (smL.getD i (0, 0)).1 (smL.getD i (0, 0)).2 (smL.getD j (0, 0)).1 (smL.getD j (0, 0)).2 ≥ 0 := c.1
    omega
  · have : ofW (smL.getD i (0, 0)).1 (smL.getD i (0, 0)).2 (smL.getD j (0, 0)).1 (smL.getD j (0, 0)).2 ≤ 12 := c.2
    omega
/-- Composition, in the order of the text. -/
def cmK (B i j : Nat) (o : Nat) : Nat → Nat
  | 0 => o
  | k + 1 => if B.testBit (ofN j k) then cmK B i j o k ||| 2 ^ ofN i k else cmK B i j o k
def cmJ (A B i : Nat) (o : Nat) : Nat → Nat
  | 0 => o
  | j + 1 => if A.testBit (ofN i j) then cmK B i j (cmJ A B i o j) 15 else cmJ A B i o j
def cmI (A B : Nat) : Nat → Nat
  | 0 => 0
  | i + 1 => cmJ A B i (cmI A B i) 15
theorem cmK_bit (B i j o t : Nat) : ∀ k, (cmK B i j o k).testBit t = true ↔ o.testBit t = true ∨ ∃ x, x < k ∧ B.testBit (ofN j x) = true ∧ ofN i x = t := by
  intro k
  induction k with
  | zero => exact ⟨.inl, fun h => h.elim id (fun ⟨x, hx, _⟩ => absurd hx (Nat.not_lt_zero _))⟩
  | succ k ih =>
    show (if B.testBit (ofN j k) then cmK B i j o k ||| 2 ^ ofN i k else cmK B i j o k).testBit t = true ↔ _
    cases h : B.testBit (ofN j k)
    · rw [if_neg (by simp), ih]
      constructor
      · rintro (q | ⟨x, hx, q⟩)
        · exact .inl q
        · exact .inr ⟨x, by omega, q⟩
      · rintro (q | ⟨x, hx, q⟩)
        · exact .inl q
        · rcases Nat.lt_or_ge x k with z | z
          · exact .inr ⟨x, z, q⟩
          · obtain rfl : x = k := by omega
            rw [h] at q; cases q.1
    · rw [if_pos rfl, bit_or, Bool.or_eq_true, ih, bit_pow, decide_eq_true_iff]
      constructor
      · rintro ((q | ⟨x, hx, q⟩) | q)
        · exact .inl q
        · exact .inr ⟨x, by omega, q⟩
        · exact .inr ⟨k, by omega, h, q⟩
      · rintro (q | ⟨x, hx, q⟩)
        · exact .inl (.inl q)
        · rcases Nat.lt_or_ge x k with z | z
          · exact .inl (.inr ⟨x, z, q⟩)
          · obtain rfl : x = k := by omega
            exact .inr q.2
theorem cmJ_bit (A B i o t : Nat) : ∀ k, (cmJ A B i o k).testBit t = true ↔ o.testBit t = true ∨ ∃ j x, j < k ∧ x < 15 ∧ A.testBit (ofN i j) = true ∧ B.testBit (ofN j x) = true ∧ ofN i x = t := by
  intro k
  induction k with
  | zero => exact ⟨.inl, fun h => h.elim id (fun ⟨j, x, hj, _⟩ => absurd hj (Nat.not_lt_zero _))⟩
  | succ k ih =>
    show (if A.testBit (ofN i k) then cmK B i k (cmJ A B i o k) 15 else cmJ A B i o k).testBit t = true ↔ _
    cases h : A.testBit (ofN i k)
    · rw [if_neg (by simp), ih]
      constructor
      · rintro (q | ⟨j, x, hj, q⟩)
        · exact .inl q
        · exact .inr ⟨j, x, by omega, q⟩
      · rintro (q | ⟨j, x, hj, hx, q⟩)
        · exact .inl q
        · rcases Nat.lt_or_ge j k with z | z
          · exact .inr ⟨j, x, z, hx, q⟩
          · obtain rfl : j = k := by omega
            rw [h] at q; cases q.1
    · rw [if_pos rfl, cmK_bit, ih]
      constructor
      · rintro ((q | ⟨j, x, hj, q⟩) | ⟨x, hx, q⟩)
        · exact .inl q
        · exact .inr ⟨j, x, by omega, q⟩
        · exact .inr ⟨k, x, by omega, hx, h, q⟩
      · rintro (q | ⟨j, x, hj, hx, q⟩)
        · exact .inl (.inl q)
        · rcases Nat.lt_or_ge j k with z | z
          · exact .inl (.inr ⟨j, x, z, hx, q⟩)
          · obtain rfl : j = k := by omega
            exact .inr ⟨x, hx, q.2⟩
theorem cmI_bit (A B t : Nat) : ∀ k, (cmI A B k).testBit t = true ↔ ∃ i j x, i < k ∧ j < 15 ∧ x < 15 ∧ A.testBit (ofN i j) = true ∧ B.testBit (ofN j x) = true ∧ ofN i x = t := by
  intro k
  induction k with
  | zero => simp [cmI]
  | succ k ih =>
    show (cmJ A B k (cmI A B k) 15).testBit t = true ↔ _
    rw [cmJ_bit, ih]
    constructor
    · rintro (⟨i, j, x, hi, q⟩ | ⟨j, x, hj, q⟩)
      · exact ⟨i, j, x, by omega, q⟩
      · exact ⟨k, j, x, by omega, hj, q⟩
    · rintro ⟨i, j, x, hi, hj, hx, q⟩
      rcases Nat.lt_or_ge i k with z | z
      · exact .inl ⟨i, j, x, z, hj, hx, q⟩
      · obtain rfl : i = k := by omega
        exact .inr ⟨j, x, hj, hx, q⟩
theorem cmK_lt (B i j o : Nat) (ho : o < 8192) (hi : i < 15) : ∀ k, k ≤ 15 → cmK B i j o k < 8192 := by
  intro k
  induction k with
  | zero => intro _; exact ho
  | succ k ih =>
    intro hk
    show (if B.testBit (ofN j k) then cmK B i j o k ||| 2 ^ ofN i k else cmK B i j o k) < 8192
    split
    · exact or_lt (ih (by omega)) (pow_lt (ofN_at hi (by omega)).2)
    · exact ih (by omega)
theorem cmJ_lt (A B i o : Nat) (ho : o < 8192) (hi : i < 15) : ∀ k, k ≤ 15 → cmJ A B i o k < 8192 := by
  intro k
  induction k with
  | zero => intro _; exact ho
  | succ k ih =>
    intro hk
    show (if A.testBit (ofN i k) then cmK B i k (cmJ A B i o k) 15 else cmJ A B i o k) < 8192
    split
    · exact cmK_lt B i k _ (ih (by omega)) hi 15 (Nat.le_refl _)
    · exact ih (by omega)
theorem cmI_lt (A B : Nat) : ∀ k, k ≤ 15 → cmI A B k < 8192 := by
  intro k
  induction k with
  | zero => intro _; exact Nat.zero_lt_succ _
  | succ k ih => intro hk; exact cmJ_lt A B k _ (ih (by omega)) (by omega) 15 (Nat.le_refl _)
def cmS (a b : Int) : Int := if isS a && isS b then (cmI a.toNat b.toNat 15 : Int) else -1
end Go.Proofs.YtiaidmjhgfaobaaDoor

/- Plain facts on the texts of dates: they are read as the date, and are ordered as the dates. -/
import Derived.Test.YtdhedkcbkchpgaaDoorCivQ
namespace Go.Proofs.YtdhedkcbkchpgaaDoor
open Go.RowKit
set_option linter.unusedVariables false

theorem dgt_nat {D : Int} (h0 : 0 ≤ D) (h1 : D ≤ 9) : (dgt D).toNat = 48 + D.toNat := by
  unfold dgt; rw [UInt8.toNat_ofNat']; omega
theorem dgt_dig {D : Int} (h0 : 0 ≤ D) (h1 : D ≤ 9) : isDig (dgt D) = true := by
  rw [isDig_iff, dgt_nat h0 h1]; omega
theorem digL_two (n : Int) : digL 2 n = [dgt (n / 10 % 10), dgt (n % 10)] := by
  simp [digL]
theorem digL_four (n : Int) : digL 4 n = [dgt (n / 10 / 10 / 10 % 10), dgt (n / 10 / 10 % 10), dgt (n / 10 % 10), dgt (n % 10)] := by
  simp [digL]
theorem text_list {y m d : Int} (h : vld y m d = true) : textD y m d = [dgt (y / 10 / 10 / 10 % 10), dgt (y / 10 / 10 % 10), dgt (y / 10 % 10), dgt (y % 10), 45, dgt (m / 10 % 10), dgt (m % 10), 45, dgt (d / 10 % 10), dgt (d % 10)] := by
  unfold textD; rw [if_pos h, digL_four, digL_two, digL_two]; rfl
theorem valD_cons (acc : Int) (c : UInt8) (r : List UInt8) : valD acc (c :: r) = valD (10 * acc + ((c.toNat : Int) - 48)) r := rfl
/-- The text of a date has the form, and its numbers are the date's. -/
theorem text_back {y m d : Int} (h : vld y m d = true) : formL (textD y m d) = true ∧ yearOf (textD y m d) = y ∧ monOf (textD y m d) = m ∧ dayOf (textD y m d) = d := by
  obtain ⟨y0, y1, m0, m1, d0, d1⟩ := vld_bd h
  rw [text_list h]
  obtain ⟨a1, h1⟩ : ∃ a, y / 10 / 10 / 10 % 10 = a := ⟨_, rfl⟩
  obtain ⟨a2, h2⟩ : ∃ a, y / 10 / 10 % 10 = a := ⟨_, rfl⟩
  obtain ⟨a3, h3⟩ : ∃ a, y / 10 % 10 = a := ⟨_, rfl⟩
  obtain ⟨a4, h4⟩ : ∃ a, y % 10 = a := ⟨_, rfl⟩
  obtain ⟨b1, h5⟩ : ∃ a, m / 10 % 10 = a := ⟨_, rfl⟩
  obtain ⟨b2, h6⟩ : ∃ a, m % 10 = a := ⟨_, rfl⟩
  obtain ⟨c1, h7⟩ : ∃ a, d / 10 % 10 = a := ⟨_, rfl⟩
  obtain ⟨c2, h8⟩ : ∃ a, d % 10 = a := ⟨_, rfl⟩
  rw [h1, h2, h3, h4, h5, h6, h7, h8]
  have k1 := dgt_nat (D := a1) (by omega) (by omega)
  have k2 := dgt_nat (D := a2) (by omega) (by omega)
  have k3 := dgt_nat (D := a3) (by omega) (by omega)
  have k4 := dgt_nat (D := a4) (by omega) (by omega)
  have k5 := dgt_nat (D := b1) (by omega) (by omega)
  have k6 := dgt_nat (D := b2) (by omega) (by omega)
  have k7 := dgt_nat (D := c1) (by omega) (by omega)
  have k8 := dgt_nat (D := c2) (by omega) (by omega)
  have i1 := dgt_dig (D := a1) (by omega) (by omega)
  have i2 := dgt_dig (D := a2) (by omega) (by omega)
  have i3 := dgt_dig (D := a3) (by omega) (by omega)
  have i4 := dgt_dig (D := a4) (by omega) (by omega)
  have i5 := dgt_dig (D := b1) (by omega) (by omega)
  have i6 := dgt_dig (D := b2) (by omega) (by omega)
  have i7 := dgt_dig (D := c1) (by omega) (by omega)
  have i8 := dgt_dig (D := c2) (by omega) (by omega)
  have eY : 10 * (10 * (10 * (10 * 0 + a1) + a2) + a3) + a4 = y := by omega
  have eM : 10 * (10 * 0 + b1) + b2 = m := by omega
  have eD : 10 * (10 * 0 + c1) + c2 = d := by omega
  have j1 : ((dgt a1).toNat : Int) - 48 = a1 := by omega
  have j2 : ((dgt a2).toNat : Int) - 48 = a2 := by omega
  have j3 : ((dgt a3).toNat : Int) - 48 = a3 := by omega
  have j4 : ((dgt a4).toNat : Int) - 48 = a4 := by omega
  have j5 : ((dgt b1).toNat : Int) - 48 = b1 := by omega
  have j6 : ((dgt b2).toNat : Int) - 48 = b2 := by omega
  have j7 : ((dgt c1).toNat : Int) - 48 = c1 := by omega
  have j8 : ((dgt c2).toNat : Int) - 48 = c2 := by omega
  clear k1 k2 k3 k4 k5 k6 k7 k8 h1 h2 h3 h4 h5 h6 h7 h8 h
  generalize dgt a1 = u1 at *
  generalize dgt a2 = u2 at *
  generalize dgt a3 = u3 at *
  generalize dgt a4 = u4 at *
  generalize dgt b1 = u5 at *
  generalize dgt b2 = u6 at *
  generalize dgt c1 = u7 at *
  generalize dgt c2 = u8 at *
  refine ⟨?_, ?_, ?_, ?_⟩
  · refine form_yes rfl fun i hi => ?_
    have c : i = 0 ∨ i = 1 ∨ i = 2 ∨ i = 3 ∨ i = 4 ∨ i = 5 ∨ i = 6 ∨ i = 7 ∨ i = 8 ∨ i = 9 := by omega
    rcases c with rfl | rfl | rfl | rfl | rfl | rfl | rfl | rfl | rfl | rfl <;> simp [formAt, i1, i2, i3, i4, i5, i6, i7, i8]
  · show valD 0 [u1, u2, u3, u4] = y
    rw [valD_cons, valD_cons, valD_cons, valD_cons, j1, j2, j3, j4]
    exact eY
  · show valD 0 [u5, u6] = m
    rw [valD_cons, valD_cons, j5, j6]
    exact eM
  · show valD 0 [u7, u8] = d
    rw [valD_cons, valD_cons, j7, j8]
    exact eD
theorem less_append : ∀ (a b r t : List UInt8), a.length = b.length → Op.bytesLess (a ++ r) (b ++ t) = (Op.bytesLess a b || (a == b && Op.bytesLess r t))
  | [], [], r, t, _ => by simp [Op.bytesLess]
  | [], _ :: _, r, t, h => by simp at h
  | _ :: _, [], r, t, h => by simp at h
  | c :: a, e :: b, r, t, h => by
    have ih := less_append a b r t (by simpa using h)
    show (decide (c < e) || (c == e && Op.bytesLess (a ++ r) (b ++ t))) = ((decide (c < e) || (c == e && Op.bytesLess a b)) || ((c == e && a == b) && Op.bytesLess r t))
    rw [ih]
    cases decide (c < e) <;> cases (c == e) <;> cases Op.bytesLess a b <;> cases (a == b) <;> cases Op.bytesLess r t <;> rfl
theorem eq_append {a b r t : List UInt8} (h : a.length = b.length) : (a ++ r == b ++ t) = (a == b && r == t) := by
  rw [Bool.eq_iff_iff]
  simp only [Bool.and_eq_true, beq_iff_eq]
  constructor
  · intro e; exact List.append_inj e h
  · rintro ⟨rfl, rfl⟩; rfl
theorem dgt_lt {x y : Int} (x0 : 0 ≤ x) (x1 : x ≤ 9) (y0 : 0 ≤ y) (y1 : y ≤ 9) : (dgt x < dgt y ↔ x < y) ∧ (dgt x = dgt y ↔ x = y) := by
  have a := dgt_nat x0 x1
  have b := dgt_nat y0 y1
  refine ⟨?_, ?_⟩
  · rw [UInt8.lt_iff_toNat_lt, a, b]; omega
  · rw [← UInt8.toNat_inj, a, b]; omega
theorem digL_order : ∀ (k : Nat) (n m : Int), 0 ≤ n → n < 10 ^ k → 0 ≤ m → m < 10 ^ k → Op.bytesLess (digL k n) (digL k m) = decide (n < m) ∧ (digL k n == digL k m) = (n == m)
  | 0, n, m, n0, n1, m0, m1 => by
    have e : n = 0 := by simp at n1; omega
    have f : m = 0 := by simp at m1; omega
    subst e f; simp [digL, Op.bytesLess]
  | k + 1, n, m, n0, n1, m0, m1 => by
    rw [Int.pow_succ] at n1 m1
    obtain ⟨p, q⟩ := digL_order k (n / 10) (m / 10) (by omega) (by omega) (by omega) (by omega)
    obtain ⟨a, b⟩ := dgt_lt (x := n % 10) (y := m % 10) (by omega) (by omega) (by omega) (by omega)
    have l : (digL k (n / 10)).length = (digL k (m / 10)).length := by rw [digL_length, digL_length]
    unfold digL
    rw [less_append _ _ _ _ l, eq_append l, p, q]
    refine ⟨?_, ?_⟩
    · show (decide (n / 10 < m / 10) || ((n / 10 == m / 10) && (decide (dgt (n % 10) < dgt (m % 10)) || ((dgt (n % 10) == dgt (m % 10)) && false)))) = _
      rw [Bool.eq_iff_iff]
      simp only [Bool.or_eq_true, Bool.and_eq_true, decide_eq_true_eq, beq_iff_eq, Bool.false_eq_true, and_false, or_false, a]
      omega
    · rw [Bool.eq_iff_iff]
      simp only [Bool.and_eq_true, beq_iff_eq, List.cons.injEq, and_true, b]
      omega
/-- The texts of dates are ordered as the dates. -/
theorem text_less {y m d y' m' d' : Int} (h : vld y m d = true) (h' : vld y' m' d' = true) :
    Op.bytesLess (textD y m d) (textD y' m' d') = (decide (y < y') || ((y == y') && (decide (m < m') || ((m == m') && decide (d < d'))))) := by
  obtain ⟨y0, y1, m0, m1, d0, d1⟩ := vld_bd h
  obtain ⟨y0', y1', m0', m1', d0', d1'⟩ := vld_bd h'
  obtain ⟨p, q⟩ := digL_order 4 y y' (by omega) (by omega) (by omega) (by omega)
  obtain ⟨p2, q2⟩ := digL_order 2 m m' (by omega) (by omega) (by omega) (by omega)
  obtain ⟨p3, -⟩ := digL_order 2 d d' (by omega) (by omega) (by omega) (by omega)
  unfold textD
  rw [if_pos h, if_pos h']
  rw [less_append _ _ _ _ (by simp [digL_length]), less_append _ _ _ _ (by simp [digL_length]), less_append _ _ _ _ (by simp [digL_length]), less_append _ _ _ _ (by simp [digL_length])]
  repeat rw [eq_append (by simp [digL_length])]
  rw [p, p2, p3, q, q2]
  have z : Op.bytesLess [45] [45] = false := by decide
  have z2 : (([45] : List UInt8) == [45]) = true := by decide
  rw [z, z2]
  cases decide (y < y') <;> cases (y == y') <;> cases decide (m < m') <;> cases (m == m') <;> cases decide (d < d') <;> rfl
/-- Days are ordered as the dates. -/
theorem day_lt {y m d y' m' d' : Int} (h : vld y m d = true) (h' : vld y' m' d' = true) (k : y < y' ∨ y = y' ∧ (m < m' ∨ m = m' ∧ d < d')) : dayN y m d < dayN y' m' d' := by
  obtain ⟨y0, y1, m0, m1, d0, d1⟩ := vld_bd h
  obtain ⟨y0', y1', m0', m1', d0', d1'⟩ := vld_bd h'
  have a := day_in h
  have b := day_in h'
  rcases k with k | ⟨rfl, k | ⟨rfl, k⟩⟩
  · have f := first_le (y := y + 1) (z := y') (by omega) (by omega) (by omega); omega
  · have s := cum_succ y0 y1 m0 m1
    have mo := cum_mono y0 y1 (m' - (m + 1)).toNat (m + 1) (by omega) (by omega)
    rw [show m + 1 + ((m' - (m + 1)).toNat : Int) = m' by omega] at mo
    have v := vld_iff.1 h
    omega
  · omega
end Go.Proofs.YtdhedkcbkchpgaaDoor

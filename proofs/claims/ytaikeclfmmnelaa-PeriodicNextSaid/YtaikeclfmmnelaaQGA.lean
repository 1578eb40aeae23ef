/- Plain facts on integers: division, remainders, divisors, exact sums. No program is mentioned. -/
import Derived.WalkKit
namespace Go.Proofs.Ytaikeclfmmnelaa

open Go.RowKit

set_option linter.unusedVariables false

theorem fdm_unique {a b q r : Int} (hb : b ≠ 0) (h : q * b + r = a) (hp : 0 < b → 0 ≤ r ∧ r < b) (hn : b < 0 → b < r ∧ r ≤ 0) : a.fdiv b = q ∧ a.fmod b = r := by
  have e := Int.mul_fdiv_add_fmod a b
  have hr : a.fmod b = r := by
    have d : b ∣ a.fmod b - r := ⟨q - a.fdiv b, by rw [Int.mul_sub, Int.mul_comm b q]; omega⟩
    have z : a.fmod b - r = 0 := by
      apply Int.eq_zero_of_dvd_of_natAbs_lt_natAbs d
      by_cases p : 0 < b
      · have := Int.fmod_nonneg_of_pos a p; have := Int.fmod_lt_of_pos a p; have := hp p; omega
      · have p' : b < 0 := by omega
        have t := Int.fmod_nonneg_of_pos (-a) (show 0 < -b by omega); have u := Int.fmod_lt_of_pos (-a) (show 0 < -b by omega)
        rw [Int.neg_fmod_neg] at t u
        have := hn p'; omega
    omega
  refine ⟨?_, hr⟩
  have : b * a.fdiv b = b * q := by rw [Int.mul_comm b q]; omega
  exact Int.eq_of_mul_eq_mul_left hb this
theorem tq_bd {a b : Int} (h0 : -9223372036854775808 ≤ a) (h1 : a ≤ 9223372036854775807) (hx : ¬ (a = -9223372036854775808 ∧ b = -1)) (hb : b ≠ 0) :
    -9223372036854775808 ≤ a.tdiv b ∧ a.tdiv b ≤ 9223372036854775807 := by
  have e : (a.tdiv b).natAbs = a.natAbs / b.natAbs := Int.natAbs_tdiv a b
  have l : a.natAbs / b.natAbs ≤ a.natAbs := Nat.div_le_self _ _
  by_cases h : a = -9223372036854775808
  · by_cases hb1 : b = 1
    · subst hb1; simp; omega
    · have h2 : 2 ≤ b.natAbs := by omega
      have : a.natAbs / b.natAbs ≤ a.natAbs / 2 := Nat.div_le_div_left h2 (by omega)
      omega
  · omega
theorem tr_bd {a b : Int} (hb : b ≠ 0) : (a.tmod b).natAbs < b.natAbs ∧ (0 ≤ a → 0 ≤ a.tmod b) ∧ (a ≤ 0 → a.tmod b ≤ 0) := by
  refine ⟨?_, fun h => Int.tmod_nonneg b h, fun h => ?_⟩
  · rw [Int.natAbs_tmod]; exact Nat.mod_lt _ (by omega)
  · have := Int.tmod_nonneg b (show 0 ≤ -a by omega); rw [Int.neg_tmod] at this; omega
theorem tq_half {a b : Int} (h0 : -9223372036854775808 ≤ a) (h1 : a ≤ 9223372036854775807) (hr : a.tmod b ≠ 0) :
    -4611686018427387904 ≤ a.tdiv b ∧ a.tdiv b ≤ 4611686018427387904 := by
  have e : (a.tdiv b).natAbs = a.natAbs / b.natAbs := Int.natAbs_tdiv a b
  have e2 := Int.natAbs_tmod a b
  have h2 : 2 ≤ b.natAbs ∨ b.natAbs = 0 := by
    by_cases h : b.natAbs = 1
    · rw [h, Nat.mod_one] at e2; omega
    · omega
  rcases h2 with h2 | h2
  · have : a.natAbs / b.natAbs ≤ a.natAbs / 2 := Nat.div_le_div_left h2 (by omega)
    omega
  · rw [h2, Nat.div_zero] at e; omega
theorem fdm_exact {a b : Int} (hb : b ≠ 0) (h : a.tmod b = 0) : a.fdiv b = a.tdiv b ∧ a.fmod b = 0 := by
  have e := Int.tdiv_mul_add_tmod a b
  exact fdm_unique hb (by omega) (fun _ => by omega) (fun _ => by omega)
theorem fdm_same {a b : Int} (hb : b ≠ 0) (h : 0 < a.tmod b ∧ 0 < b ∨ a.tmod b < 0 ∧ b < 0) : a.fdiv b = a.tdiv b ∧ a.fmod b = a.tmod b := by
  have e := Int.tdiv_mul_add_tmod a b
  have t := (tr_bd (a := a) hb).1
  exact fdm_unique hb (by omega) (fun _ => by omega) (fun _ => by omega)
theorem fdm_other {a b : Int} (hb : b ≠ 0) (h : 0 < a.tmod b ∧ b < 0 ∨ a.tmod b < 0 ∧ 0 < b) : a.fdiv b = a.tdiv b - 1 ∧ a.fmod b = a.tmod b + b := by
  have e := Int.tdiv_mul_add_tmod a b
  have t := (tr_bd (a := a) hb).1
  exact fdm_unique hb (by rw [Int.sub_mul]; omega) (fun _ => by omega) (fun _ => by omega)
theorem fr_bd {a b : Int} : (0 < b → 0 ≤ a.fmod b ∧ a.fmod b < b) ∧ (b < 0 → b < a.fmod b ∧ a.fmod b ≤ 0) := by
  refine ⟨fun p => ⟨Int.fmod_nonneg_of_pos a p, Int.fmod_lt_of_pos a p⟩, fun p => ?_⟩
  have t := Int.fmod_nonneg_of_pos (-a) (show 0 < -b by omega); have u := Int.fmod_lt_of_pos (-a) (show 0 < -b by omega)
  rw [Int.neg_fmod_neg] at t u
  omega
/-- The quotient, the remainder and the error number of integer.Div. -/
def dQ (a b : Int) : Int := if b = 0 ∨ (a = -9223372036854775808 ∧ b = -1) then 0 else a.fdiv b
def dR (a b : Int) : Int := if b = 0 ∨ (a = -9223372036854775808 ∧ b = -1) then 0 else a.fmod b
def dE (a b : Int) : Int := if b = 0 then 10 else if a = -9223372036854775808 ∧ b = -1 then 9 else 0
theorem dQ_pos {a b : Int} (h : 0 < b) : dQ a b = a / b := by
  unfold dQ; rw [if_neg (by omega), Int.fdiv_eq_ediv_of_nonneg _ (by omega)]
theorem dR_pos {a b : Int} (h : 0 < b) : dR a b = a % b := by
  unfold dR; rw [if_neg (by omega), Int.fmod_eq_emod_of_nonneg _ (by omega)]
theorem dE_pos {a b : Int} (h : 0 < b) : dE a b = 0 := by
  unfold dE; rw [if_neg (by omega), if_neg (by omega)]
/-- Exact sums and products, and their error number. -/
def fits (n : Int) : Bool := decide (-9223372036854775808 ≤ n ∧ n ≤ 9223372036854775807)
def xV (n : Int) : Int := if fits n then n else 0
def xE (n : Int) : Int := if fits n then 0 else 9
theorem fits_iff {n : Int} : fits n = true ↔ -9223372036854775808 ≤ n ∧ n ≤ 9223372036854775807 := by unfold fits; simp
theorem xV_in {n : Int} (h : -9223372036854775808 ≤ n ∧ n ≤ 9223372036854775807) : xV n = n := by unfold xV; rw [if_pos (fits_iff.2 h)]
theorem xE_in {n : Int} (h : -9223372036854775808 ≤ n ∧ n ≤ 9223372036854775807) : xE n = 0 := by unfold xE; rw [if_pos (fits_iff.2 h)]
theorem xV_out {n : Int} (h : ¬ (-9223372036854775808 ≤ n ∧ n ≤ 9223372036854775807)) : xV n = 0 := by unfold xV; rw [if_neg (mt fits_iff.1 h)]
theorem xE_out {n : Int} (h : ¬ (-9223372036854775808 ≤ n ∧ n ≤ 9223372036854775807)) : xE n = 9 := by unfold xE; rw [if_neg (mt fits_iff.1 h)]
/-- The absolute value of an integer. -/
def mg (a : Int) : Int := if a < 0 then -a else a
theorem mg_cases (a : Int) : a < 0 ∧ mg a = -a ∨ 0 ≤ a ∧ mg a = a := by unfold mg; split <;> omega
theorem mg_bd {a : Int} (h0 : -9223372036854775808 ≤ a) (h1 : a ≤ 9223372036854775807) : 0 ≤ mg a ∧ mg a ≤ 9223372036854775808 := by have := mg_cases a; omega
theorem mg_mul {a b : Int} : (a < 0 ∧ ¬ b < 0 ∨ ¬ a < 0 ∧ b < 0) ∧ a * b = -(mg a * mg b) ∨ (a < 0 ∧ b < 0 ∨ ¬ a < 0 ∧ ¬ b < 0) ∧ a * b = mg a * mg b := by
  rcases mg_cases a with ⟨h, e⟩ | ⟨h, e⟩ <;> rcases mg_cases b with ⟨k, f⟩ | ⟨k, f⟩ <;> rw [e, f] <;> simp [Int.neg_mul, Int.mul_neg] <;> omega
theorem mg_mul_nonneg {a b : Int} (h0 : -9223372036854775808 ≤ a) (h1 : a ≤ 9223372036854775807) (h2 : -9223372036854775808 ≤ b) (h3 : b ≤ 9223372036854775807) : 0 ≤ mg a * mg b :=
  Int.mul_nonneg (mg_bd h0 h1).1 (mg_bd h2 h3).1
/-- A product that was computed with wraparound is exact if and only if dividing it restores the factor. -/
theorem mul_back {a b : Int} (hb : b ≠ 0) (h2 : -9223372036854775808 ≤ b) (h3 : b ≤ 9223372036854775807) :
    (wrap64 (a * b)).tdiv b = a ↔ -9223372036854775808 ≤ a * b ∧ a * b ≤ 9223372036854775807 := by
  constructor
  · intro h
    have e := Int.tdiv_mul_add_tmod (wrap64 (a * b)) b
    rw [h] at e
    have r := (tr_bd (a := wrap64 (a * b)) hb).1
    generalize (wrap64 (a * b)).tmod b = t at *
    generalize a * b = m at *
    unfold wrap64 at e
    omega
  · intro h
    rw [show wrap64 (a * b) = a * b by unfold wrap64; omega]
    exact Int.mul_tdiv_cancel a hb
theorem gcd_step {x y : Int} (hx : 0 ≤ x) (hy : 0 ≤ y) : Int.gcd y (x % y) = Int.gcd x y := by
  obtain ⟨n, rfl⟩ := Int.eq_ofNat_of_zero_le hx
  obtain ⟨m, rfl⟩ := Int.eq_ofNat_of_zero_le hy
  rw [← Int.natCast_emod]
  show Nat.gcd m (n % m) = Nat.gcd n m
  rw [Nat.gcd_comm, Nat.gcd_comm n m, Nat.gcd_rec m n]
theorem gcd_mg (a b : Int) : Int.gcd (mg a) (mg b) = Int.gcd a b := by
  rcases mg_cases a with ⟨h, e⟩ | ⟨h, e⟩ <;> rcases mg_cases b with ⟨k, f⟩ | ⟨k, f⟩ <;> rw [e, f] <;> simp [Int.gcd]
theorem gcd_zero_right {x : Int} (hx : 0 ≤ x) : (Int.gcd x 0 : Int) = x := by simp [Int.gcd]; omega
/-- What integer.Gcd returns. -/
def gR (a b : Int) : Int := if (Int.gcd a b : Int) ≤ 9223372036854775807 then Int.gcd a b else 0
/-- The rounds of integer.inverse, at most n of them. -/
def invLoop : Nat → Int → Int → Int → Int → Int
  | 0, _, _, x, _ => x
  | n + 1, r, s, x, y => if s = 0 then x else invLoop n s (r % s) y (x - r / s * y)
/-- What integer.inverse returns. -/
def inv (a m : Int) : Int := invLoop (m.toNat + 1) a m 1 0 % m
theorem invLoop_spec (a m : Int) : ∀ (n : Nat) (r s x y : Int), s.toNat < n → 0 ≤ r → 0 ≤ s → m ∣ a * x - r → m ∣ a * y - s → Int.gcd r s = 1 → m ∣ a * invLoop n r s x y - 1 := by
  intro n
  induction n with
  | zero => intro r s x y h; omega
  | succ n ih =>
    intro r s x y hn hr hs hx hy hg
    unfold invLoop
    by_cases z : s = 0
    · rw [if_pos z]
      subst z
      have e := gcd_zero_right hr
      rw [hg] at e
      rw [← e] at hx
      exact hx
    · rw [if_neg z]
      have l := Int.emod_lt_of_pos r (show 0 < s by omega)
      have g := Int.emod_nonneg r z
      refine ih s (r % s) y (x - r / s * y) (by omega) hs g hy ?_ (by rw [gcd_step hr hs]; exact hg)
      have e := Int.mul_ediv_add_emod r s
      have t : a * (x - r / s * y) - r % s = (a * x - r) - r / s * (a * y - s) := by
        have u : r % s = r - s * (r / s) := by omega
        rw [u, Int.mul_sub, Int.mul_sub, Int.mul_left_comm a, Int.mul_comm s]; omega
      rw [t]
      exact Int.dvd_sub hx (Int.dvd_mul_of_dvd_right hy)
theorem inv_spec {a m : Int} (ha : 0 ≤ a) (hm : 0 < m) (hg : Int.gcd a m = 1) : 0 ≤ inv a m ∧ inv a m < m ∧ m ∣ a * inv a m - 1 := by
  have h := invLoop_spec a m (m.toNat + 1) a m 1 0 (by omega) ha (by omega) (by simp) (by simp [Int.dvd_neg]) hg
  unfold inv
  generalize invLoop (m.toNat + 1) a m 1 0 = v at *
  refine ⟨Int.emod_nonneg _ (by omega), Int.emod_lt_of_pos _ hm, ?_⟩
  have e := Int.mul_ediv_add_emod v m
  have t : a * (v % m) - 1 = (a * v - 1) - m * (a * (v / m)) := by
    have u : v % m = v - m * (v / m) := by omega
    rw [u, Int.mul_sub, Int.mul_left_comm a]; omega
  rw [t]
  exact Int.dvd_sub h (Int.dvd_mul_right _ _)
/-- The factors of integer.inverse stay small: X and Y are their absolute values. -/
def small (m r s x y : Int) : Prop := ∃ X Y : Int, 0 ≤ X ∧ 0 ≤ Y ∧ X ≤ m ∧ X * s + Y * r = m ∧ (x = X ∧ y = -Y ∨ x = -X ∧ y = Y)
theorem small_start {a m : Int} (hm : 1 ≤ m) : small m a m 1 0 := ⟨1, 0, by omega, by omega, hm, by omega, .inl ⟨rfl, rfl⟩⟩
theorem small_bd {m r s x y : Int} (hs : 0 ≤ s) (hr : 1 ≤ r) (h : small m r s x y) : -m ≤ x ∧ x ≤ m ∧ -m ≤ y ∧ y ≤ m := by
  obtain ⟨X, Y, x0, y0, xm, e, k⟩ := h
  have : Y * 1 ≤ Y * r := Int.mul_le_mul_of_nonneg_left hr y0
  have : 0 ≤ X * s := Int.mul_nonneg x0 hs
  omega
theorem small_step {m r s x y : Int} (hs : 1 ≤ s) (hr : 1 ≤ r) (h : small m r s x y) :
    small m s (r % s) y (x - r / s * y) ∧ -m ≤ r / s * y ∧ r / s * y ≤ m := by
  obtain ⟨X, Y, x0, y0, xm, e, k⟩ := h
  have d := Int.mul_ediv_add_emod r s
  have q0 : 0 ≤ r / s := Int.ediv_nonneg (by omega) (by omega)
  have g0 := Int.emod_nonneg r (show s ≠ 0 by omega)
  generalize r / s = q at *
  generalize r % s = t at *
  have yq : 0 ≤ q * Y := Int.mul_nonneg q0 y0
  have e2 : Y * t + (X + q * Y) * s = m := by
    have : Y * r = Y * (s * q) + Y * t := by rw [← Int.mul_add, d]
    rw [Int.add_mul]
    have : q * Y * s = Y * (s * q) := by rw [Int.mul_comm q Y, Int.mul_assoc, Int.mul_comm q s]
    omega
  have b1 : (X + q * Y) * 1 ≤ (X + q * Y) * s := Int.mul_le_mul_of_nonneg_left hs (by omega)
  have b2 : 0 ≤ Y * t := Int.mul_nonneg y0 g0
  have b3 : Y ≤ m := by
    have : Y * 1 ≤ Y * r := Int.mul_le_mul_of_nonneg_left hr y0
    have : 0 ≤ X * s := Int.mul_nonneg x0 (by omega)
    omega
  rcases k with ⟨rfl, rfl⟩ | ⟨rfl, rfl⟩
  · rw [Int.mul_neg]
    exact ⟨⟨Y, x + q * Y, y0, by omega, b3, e2, .inr ⟨rfl, by omega⟩⟩, by omega, by omega⟩
  · exact ⟨⟨y, X + q * y, y0, by omega, b3, e2, .inl ⟨rfl, by omega⟩⟩, by omega, by omega⟩
/-- The solution that integer.Meet computes, for positive moduli. -/
def meetK (A m B n g : Int) : Int := dR ((B - A).tdiv g) (n / g) * inv (m / g) (n / g) % (n / g)
/-- The floor quotient is the truncated one, less 1 where the remainder is not 0 and the signs differ. -/
theorem fq_of_signs {a b : Int} (hb : b ≠ 0) : a.fdiv b = if (a.tmod b != 0 && !(decide (a < 0) == decide (b < 0))) then a.tdiv b - 1 else a.tdiv b := by
  have t := tr_bd (a := a) hb
  by_cases z : a.tmod b = 0
  · rw [(fdm_exact hb z).1, z]; simp
  · by_cases sa : a < 0 <;> by_cases sb : b < 0 <;> simp only [sa, sb, decide_true, decide_false]
    · rw [(fdm_same hb (by omega)).1]; simp
    · rw [(fdm_other hb (by omega)).1]; simp [z]
    · rw [(fdm_other hb (by omega)).1]; simp [z]
    · rw [(fdm_same hb (by omega)).1]; simp
/-- The equation of a division, in 64 bits. -/
theorem fdm_wrap {a b : Int} (h0 : -9223372036854775808 ≤ a) (h1 : a ≤ 9223372036854775807) : wrap64 (wrap64 (a.fdiv b * b) + a.fmod b) = a := by
  have e := Int.mul_fdiv_add_fmod a b
  rw [Int.mul_comm] at e
  generalize a.fdiv b * b = m at *
  unfold wrap64; omega
end Go.Proofs.Ytaikeclfmmnelaa
/- Plain facts on intervals: relations, common parts, what is left. No program is mentioned. -/
namespace Go.Proofs.Ytaikeclfmmnelaa

open Go.RowKit

set_option linter.unusedVariables false

/-- A valid interval. -/
def ivB (a b : Int) : Bool := decide (-4398046511104 ≤ a ∧ b ≤ 4398046511104 ∧ a < b)
theorem ivB_iff {a b : Int} : ivB a b = true ↔ -4398046511104 ≤ a ∧ b ≤ 4398046511104 ∧ a < b := by unfold ivB; exact decide_eq_true_iff
theorem ivB_no {a b : Int} : ivB a b = false ↔ ¬ (-4398046511104 ≤ a ∧ b ≤ 4398046511104 ∧ a < b) := by unfold ivB; exact decide_eq_false_iff_not
/-- The relation of two valid intervals. -/
def ofW (a b c d : Int) : Int :=
  if b < c then 0 else if b = c then 1 else if d < a then 12 else if d = a then 11 else
  if a < c then (if b < d then 2 else if b = d then 7 else 8) else
  if a = c then (if b < d then 3 else if b = d then 6 else 9) else
  if b < d then 4 else if b = d then 5 else 10
def ofV (a b c d : Int) : Int := if ivB a b && ivB c d then ofW a b c d else -1
theorem ofV_in {a b c d : Int} (h : ivB a b = true) (k : ivB c d = true) : ofV a b c d = ofW a b c d := by unfold ofV; rw [h, k]; rfl
theorem ofV_out {a b c d : Int} (h : (ivB a b && ivB c d) = false) : ofV a b c d = -1 := by unfold ofV; rw [h]; rfl
/-- Which relation holds, said by the ends. -/
theorem ofW_cases (a b c d : Int) (h : a < b) (k : c < d) :
    (b < c ∧ ofW a b c d = 0) ∨ (b = c ∧ ofW a b c d = 1) ∨ (a < c ∧ c < b ∧ b < d ∧ ofW a b c d = 2) ∨ (a = c ∧ b < d ∧ ofW a b c d = 3) ∨ (c < a ∧ b < d ∧ ofW a b c d = 4) ∨ (c < a ∧ b = d ∧ ofW a b c d = 5) ∨ (a = c ∧ b = d ∧ ofW a b c d = 6) ∨
    (a < c ∧ b = d ∧ ofW a b c d = 7) ∨ (a < c ∧ d < b ∧ ofW a b c d = 8) ∨ (a = c ∧ d < b ∧ ofW a b c d = 9) ∨ (c < a ∧ a < d ∧ d < b ∧ ofW a b c d = 10) ∨ (a = d ∧ ofW a b c d = 11) ∨ (d < a ∧ ofW a b c d = 12) := by
  unfold ofW
  by_cases h1 : b < c
  · rw [if_pos h1]; exact .inl ⟨by omega, rfl⟩
  rw [if_neg h1]
  by_cases h2 : b = c
  · rw [if_pos h2]; exact .inr (.inl ⟨by omega, rfl⟩)
  rw [if_neg h2]
  by_cases h3 : d < a
  · rw [if_pos h3]; exact .inr (.inr (.inr (.inr (.inr (.inr (.inr (.inr (.inr (.inr (.inr (.inr (⟨by omega, rfl⟩))))))))))))
  rw [if_neg h3]
  by_cases h4 : d = a
  · rw [if_pos h4]; exact .inr (.inr (.inr (.inr (.inr (.inr (.inr (.inr (.inr (.inr (.inr (.inl ⟨by omega, rfl⟩)))))))))))
  rw [if_neg h4]
  by_cases h5 : a < c
  · rw [if_pos h5]
    by_cases h6 : b < d
    · rw [if_pos h6]; exact .inr (.inr (.inl ⟨by omega, by omega, by omega, rfl⟩))
    rw [if_neg h6]
    by_cases h7 : b = d
    · rw [if_pos h7]; exact .inr (.inr (.inr (.inr (.inr (.inr (.inr (.inl ⟨by omega, by omega, rfl⟩)))))))
    rw [if_neg h7]; exact .inr (.inr (.inr (.inr (.inr (.inr (.inr (.inr (.inl ⟨by omega, by omega, rfl⟩))))))))
  rw [if_neg h5]
  by_cases h8 : a = c
  · rw [if_pos h8]
    by_cases h6 : b < d
    · rw [if_pos h6]; exact .inr (.inr (.inr (.inl ⟨by omega, by omega, rfl⟩)))
    rw [if_neg h6]
    by_cases h7 : b = d
    · rw [if_pos h7]; exact .inr (.inr (.inr (.inr (.inr (.inr (.inl ⟨by omega, by omega, rfl⟩))))))
    rw [if_neg h7]; exact .inr (.inr (.inr (.inr (.inr (.inr (.inr (.inr (.inr (.inl ⟨by omega, by omega, rfl⟩)))))))))
  rw [if_neg h8]
  by_cases h6 : b < d
  · rw [if_pos h6]; exact .inr (.inr (.inr (.inr (.inl ⟨by omega, by omega, rfl⟩))))
  rw [if_neg h6]
  by_cases h7 : b = d
  · rw [if_pos h7]; exact .inr (.inr (.inr (.inr (.inr (.inl ⟨by omega, by omega, rfl⟩)))))
  rw [if_neg h7]; exact .inr (.inr (.inr (.inr (.inr (.inr (.inr (.inr (.inr (.inr (.inl ⟨by omega, by omega, by omega, rfl⟩))))))))))
/-- The relation is the one whose condition holds. -/
theorem ofW_bd {a b c d : Int} (h : a < b) (k : c < d) : 0 ≤ ofW a b c d ∧ ofW a b c d ≤ 12 := by
  rcases ofW_cases a b c d h k with q | q | q | q | q | q | q | q | q | q | q | q | q <;> omega
theorem ofW_inv {a b c d : Int} (h : a < b) (k : c < d) : ofW c d a b = 12 - ofW a b c d := by
  rcases ofW_cases a b c d h k with q | q | q | q | q | q | q | q | q | q | q | q | q <;>
  rcases ofW_cases c d a b k h with p | p | p | p | p | p | p | p | p | p | p | p | p <;> omega
theorem ofW_same {a b c d : Int} (h : a < b) (k : c < d) : ofW a b c d = 6 ↔ a = c ∧ b = d := by
  rcases ofW_cases a b c d h k with q | q | q | q | q | q | q | q | q | q | q | q | q <;> omega
theorem ofW_move {a b c d : Int} (n : Int) (h : a < b) (k : c < d) : ofW (a + n) (b + n) (c + n) (d + n) = ofW a b c d := by
  rcases ofW_cases a b c d h k with q | q | q | q | q | q | q | q | q | q | q | q | q <;>
  rcases ofW_cases (a + n) (b + n) (c + n) (d + n) (by omega) (by omega) with p | p | p | p | p | p | p | p | p | p | p | p | p <;> omega
theorem ofV_bd (a b c d : Int) : -1 ≤ ofV a b c d ∧ ofV a b c d ≤ 12 := by
  cases h : ivB a b && ivB c d
  · rw [ofV_out h]; omega
  · rw [Bool.and_eq_true] at h
    rw [ofV_in h.1 h.2]
    have := ofW_bd (ivB_iff.1 h.1).2.2 (ivB_iff.1 h.2).2.2
    omega
/-- The inverse of a relation. -/
def invV (r : Int) : Int := if 0 ≤ r ∧ r ≤ 12 then 12 - r else -1
theorem invV_in {r : Int} (h : 0 ≤ r ∧ r ≤ 12) : invV r = 12 - r := by unfold invV; rw [if_pos h]
theorem invV_out {r : Int} (h : ¬ (0 ≤ r ∧ r ≤ 12)) : invV r = -1 := by unfold invV; rw [if_neg h]
/-- What two intervals have in common; the least one around both. -/
def loV (a c : Int) : Int := if a < c then c else a
def hiV (b d : Int) : Int := if d < b then d else b
theorem loV_bd (a c : Int) : (a < c ∧ loV a c = c) ∨ (c ≤ a ∧ loV a c = a) := by
  unfold loV; by_cases h : a < c
  · rw [if_pos h]; exact .inl ⟨h, rfl⟩
  · rw [if_neg h]; exact .inr ⟨by omega, rfl⟩
theorem hiV_bd (b d : Int) : (d < b ∧ hiV b d = d) ∨ (b ≤ d ∧ hiV b d = b) := by
  unfold hiV; by_cases h : d < b
  · rw [if_pos h]; exact .inl ⟨h, rfl⟩
  · rw [if_neg h]; exact .inr ⟨by omega, rfl⟩
theorem loV_max (a c : Int) : loV a c = max a c := by rcases loV_bd a c with h | h <;> omega
theorem hiV_min (b d : Int) : hiV b d = min b d := by rcases hiV_bd b d with h | h <;> omega
def mtB (a b c d : Int) : Bool := ivB a b && ivB c d && decide (loV a c < hiV b d)
def mtF (a b c d : Int) : Int := if mtB a b c d then loV a c else 0
def mtT (a b c d : Int) : Int := if mtB a b c d then hiV b d else 0
def hlE (a b c d : Int) : Int := if ivB a b && ivB c d then 0 else 1
def hlF (a b c d : Int) : Int := if ivB a b && ivB c d then hiV a c else 0
def hlT (a b c d : Int) : Int := if ivB a b && ivB c d then loV b d else 0
/-- What is left of the first one. -/
def mnA (a b c d : Int) : List (Int × Int) := if a < hiV b c then [(a, hiV b c)] else []
def mnZ (a b c d : Int) : List (Int × Int) := if loV a d < b then [(loV a d, b)] else []
def mnL (a b c d : Int) : List (Int × Int) := if ivB a b && ivB c d then mnA a b c d ++ mnZ a b c d else []
theorem mnL_out {a b c d : Int} (h : (ivB a b && ivB c d) = false) : mnL a b c d = [] := by unfold mnL; rw [h]; rfl
theorem mnL_in {a b c d : Int} (h : ivB a b = true) (k : ivB c d = true) : mnL a b c d = mnA a b c d ++ mnZ a b c d := by unfold mnL; rw [h, k]; rfl
theorem mnA_yes {a b c d : Int} (h : a < hiV b c) : mnA a b c d = [(a, hiV b c)] := by unfold mnA; rw [if_pos h]
theorem mnA_no {a b c d : Int} (h : ¬ a < hiV b c) : mnA a b c d = [] := by unfold mnA; rw [if_neg h]
theorem mnZ_yes {a b c d : Int} (h : loV a d < b) : mnZ a b c d = [(loV a d, b)] := by unfold mnZ; rw [if_pos h]
theorem mnZ_no {a b c d : Int} (h : ¬ loV a d < b) : mnZ a b c d = [] := by unfold mnZ; rw [if_neg h]
/-- Membership, length, moving. -/
def hsB (a b x : Int) : Bool := ivB a b && decide (a ≤ x) && decide (x < b)
theorem hsB_iff {a b x : Int} : hsB a b x = true ↔ ivB a b = true ∧ a ≤ x ∧ x < b := by unfold hsB; simp [and_assoc]
def lnV (a b : Int) : Int := if ivB a b then b - a else 0
def mvE (a b n : Int) : Int := if ivB a b then (if ivB (a + n) (b + n) then 0 else 2) else 1
def mvF (a b n : Int) : Int := if mvE a b n = 0 then a + n else 0
def mvT (a b n : Int) : Int := if mvE a b n = 0 then b + n else 0
theorem mvE_ok {a b n : Int} : mvE a b n = 0 ↔ ivB a b = true ∧ ivB (a + n) (b + n) = true := by
  unfold mvE
  cases h : ivB a b
  · simp
  · cases k : ivB (a + n) (b + n) <;> simp
/-- The integers of the first one are in exactly one of the parts. -/
theorem iv_covers {a b c d : Int} (h : ivB a b = true) (k : ivB c d = true) (x : Int) :
    (hsB (mtF a b c d) (mtT a b c d) x && mtB a b c d) = (hsB a b x && hsB c d x) ∧ ((mnL a b c d).filter (fun p => hsB p.1 p.2 x)).length = (if hsB a b x && !hsB c d x then 1 else 0) := by
  have p := ivB_iff.1 h
  have q := ivB_iff.1 k
  have l1 := loV_bd a c
  have h1 := hiV_bd b d
  have h2 := hiV_bd b c
  have l2 := loV_bd a d
  constructor
  · rw [Bool.eq_iff_iff, Bool.and_eq_true, Bool.and_eq_true, hsB_iff, hsB_iff, hsB_iff]
    unfold mtF mtT mtB
    rw [h, k]
    by_cases z : loV a c < hiV b d
    · rw [decide_eq_true z]
      simp only [Bool.and_self, if_true, ivB_iff, and_true, true_and]
      omega
    · rw [decide_eq_false z]
      simp
      omega
  · rw [mnL_in h k, List.filter_append, List.length_append]
    have A : ((mnA a b c d).filter (fun p => hsB p.1 p.2 x)).length = if a ≤ x ∧ x < hiV b c then 1 else 0 := by
      by_cases z : a < hiV b c
      · rw [mnA_yes z]
        by_cases y : a ≤ x ∧ x < hiV b c
        · rw [if_pos y, List.filter_cons_of_pos (by rw [hsB_iff, ivB_iff]; omega)]; rfl
        · rw [if_neg y, List.filter_cons_of_neg (by rw [hsB_iff, ivB_iff]; omega)]; rfl
      · rw [mnA_no z, if_neg (by omega)]; rfl
    have Z : ((mnZ a b c d).filter (fun p => hsB p.1 p.2 x)).length = if loV a d ≤ x ∧ x < b then 1 else 0 := by
      by_cases z : loV a d < b
      · rw [mnZ_yes z]
        by_cases y : loV a d ≤ x ∧ x < b
        · rw [if_pos y, List.filter_cons_of_pos (by rw [hsB_iff, ivB_iff]; omega)]; rfl
        · rw [if_neg y, List.filter_cons_of_neg (by rw [hsB_iff, ivB_iff]; omega)]; rfl
      · rw [mnZ_no z, if_neg (by omega)]; rfl
    rw [A, Z]
    have e : (hsB a b x && !hsB c d x) = decide ((a ≤ x ∧ x < b) ∧ ¬ (c ≤ x ∧ x < d)) := by
      rw [Bool.eq_iff_iff, Bool.and_eq_true, Bool.not_eq_true', decide_eq_true_iff, ← Bool.not_eq_true, hsB_iff, hsB_iff, h, k]
      simp
    rw [e]
    simp only [decide_eq_true_eq]
    split <;> split <;> split <;> omega
/-- Which relations have points in common; which lie inside; how many parts are left. -/
theorem iv_parts {a b c d : Int} (h : ivB a b = true) (k : ivB c d = true) :
    (mtB a b c d = true ↔ 1 < ofW a b c d ∧ ofW a b c d < 11) ∧ ((mtB a b c d = true ∧ mtF a b c d = a ∧ mtT a b c d = b) ↔ 3 ≤ ofW a b c d ∧ ofW a b c d ≤ 6) ∧
    ((mnL a b c d).length = 0 ↔ 3 ≤ ofW a b c d ∧ ofW a b c d ≤ 6) ∧ ((mnL a b c d).length = 2 ↔ ofW a b c d = 8) := by
  have p := ivB_iff.1 h
  have q := ivB_iff.1 k
  have l1 := loV_bd a c
  have h1 := hiV_bd b d
  have h2 := hiV_bd b c
  have l2 := loV_bd a d
  have B : mtB a b c d = true ↔ loV a c < hiV b d := by unfold mtB; rw [h, k]; simp
  have F : loV a c < hiV b d → mtF a b c d = loV a c ∧ mtT a b c d = hiV b d := fun z => by unfold mtF mtT; rw [B.2 z]; exact ⟨rfl, rfl⟩
  have L : (mnL a b c d).length = (if a < hiV b c then 1 else 0) + (if loV a d < b then 1 else 0) := by
    rw [mnL_in h k, List.length_append]
    congr 1
    · by_cases z : a < hiV b c
      · rw [mnA_yes z, if_pos z]; rfl
      · rw [mnA_no z, if_neg z]; rfl
    · by_cases z : loV a d < b
      · rw [mnZ_yes z, if_pos z]; rfl
      · rw [mnZ_no z, if_neg z]; rfl
  have o := ofW_cases a b c d p.2.2 q.2.2
  rw [B, L]
  generalize ofW a b c d = r at *
  refine ⟨by omega, ⟨fun z => ?_, fun z => ?_⟩, ?_, ?_⟩
  · have := F z.1; omega
  · have y : loV a c < hiV b d := by omega
    have := F y
    exact ⟨y, by omega, by omega⟩
  · by_cases u : a < hiV b c
    · rw [if_pos u]
      by_cases v : loV a d < b
      · rw [if_pos v]; omega
      · rw [if_neg v]; omega
    · rw [if_neg u]
      by_cases v : loV a d < b
      · rw [if_pos v]; omega
      · rw [if_neg v]; omega
  · by_cases u : a < hiV b c
    · rw [if_pos u]
      by_cases v : loV a d < b
      · rw [if_pos v]; omega
      · rw [if_neg v]; omega
    · rw [if_neg u]
      by_cases v : loV a d < b
      · rw [if_pos v]; omega
      · rw [if_neg v]; omega
end Go.Proofs.Ytaikeclfmmnelaa
/- Lists of spans as sets of integers: canonical lists, their elements, ranks, measures. No program is mentioned. -/
namespace Go.Proofs.Ytaikeclfmmnelaa

open Go.RowKit

set_option linter.unusedVariables false

abbrev Sp := Int × Int
/-- A number on the line; a valid span; valid spans; each begins behind the end of the one before. -/
def nvB (x : Int) : Bool := decide (-4398046511104 ≤ x) && decide (x ≤ 4398046511104)
def spB (p : Sp) : Bool := nvB p.1 && nvB p.2 && decide (p.1 < p.2)
def spsB (L : List Sp) : Bool := L.all spB
def gpB : List Sp → Bool
  | p :: q :: r => decide (p.2 < q.1) && gpB (q :: r)
  | _ => true
def vaB (L : List Sp) : Bool := decide (L.length ≤ 2000) && spsB L && gpB L
theorem nvB_iff {x : Int} : nvB x = true ↔ -4398046511104 ≤ x ∧ x ≤ 4398046511104 := by unfold nvB; simp
theorem spB_iff {p : Sp} : spB p = true ↔ -4398046511104 ≤ p.1 ∧ p.2 ≤ 4398046511104 ∧ p.1 < p.2 := by
  unfold spB
  rw [Bool.and_eq_true, Bool.and_eq_true, nvB_iff, nvB_iff, decide_eq_true_iff]
  omega
theorem spsB_at {L : List Sp} : spsB L = true ↔ ∀ i, i < L.length → spB (L.getD i (0, 0)) = true := by
  unfold spsB
  rw [List.all_eq_true]
  constructor
  · intro h i hi
    rw [List.getD_eq_getElem?_getD, List.getElem?_eq_getElem hi]
    exact h _ (List.getElem_mem hi)
  · intro h p hp
    obtain ⟨i, hi, rfl⟩ := List.getElem_of_mem hp
    have := h i hi
    rwa [List.getD_eq_getElem?_getD, List.getElem?_eq_getElem hi] at this
theorem gpB_at : ∀ {L : List Sp}, gpB L = true ↔ ∀ i, i + 1 < L.length → (L.getD i (0, 0)).2 < (L.getD (i + 1) (0, 0)).1
  | [] => by simp [gpB]
  | [p] => by simp [gpB]
  | p :: q :: r => by
    show (decide (p.2 < q.1) && gpB (q :: r)) = true ↔ _
    rw [Bool.and_eq_true, decide_eq_true_iff, gpB_at (L := q :: r)]
    constructor
    · rintro ⟨h0, h⟩ i hi
      cases i with
      | zero => simpa using h0
      | succ i => have := h i (by simp at hi ⊢; omega); simpa using this
    · intro h
      refine ⟨by simpa using h 0 (by simp), fun i hi => ?_⟩
      have := h (i + 1) (by simp at hi ⊢; omega)
      simpa using this
/-- The elements. -/
def inB (L : List Sp) (x : Int) : Bool := L.any fun p => decide (p.1 ≤ x) && decide (x < p.2)
theorem inB_nil (x : Int) : inB [] x = false := rfl
theorem inB_cons (p : Sp) (L : List Sp) (x : Int) : inB (p :: L) x = (decide (p.1 ≤ x) && decide (x < p.2) || inB L x) := by simp [inB]
theorem inB_app (A B : List Sp) (x : Int) : inB (A ++ B) x = (inB A x || inB B x) := by simp [inB]
theorem inB_iff {L : List Sp} {x : Int} : inB L x = true ↔ ∃ p, p ∈ L ∧ p.1 ≤ x ∧ x < p.2 := by
  unfold inB; simp
/-- Canonical lists, of any length. -/
def Cn : List Sp → Prop
  | [] => True
  | p :: L => p.1 < p.2 ∧ (∀ q, q ∈ L → p.2 < q.1) ∧ Cn L
/-- Spans on the line. -/
def Ln (L : List Sp) : Prop := ∀ p, p ∈ L → -4398046511104 ≤ p.1 ∧ p.2 ≤ 4398046511104
theorem Cn.lt : ∀ {L : List Sp}, Cn L → ∀ p, p ∈ L → p.1 < p.2
  | p :: L, h, q, hq => by
    rcases List.mem_cons.1 hq with rfl | hq
    · exact h.1
    · exact Cn.lt h.2.2 q hq
theorem cn_of : ∀ {L : List Sp}, (∀ p, p ∈ L → p.1 < p.2) → gpB L = true → Cn L
  | [], _, _ => trivial
  | [p], h, _ => ⟨h p List.mem_cons_self, fun q hq => by simp at hq, trivial⟩
  | p :: q :: r, h, g => by
    have g' : (decide (p.2 < q.1) && gpB (q :: r)) = true := g
    rw [Bool.and_eq_true, decide_eq_true_iff] at g'
    have c := cn_of (L := q :: r) (fun x hx => h x (List.mem_cons_of_mem _ hx)) g'.2
    refine ⟨h p List.mem_cons_self, fun x hx => ?_, c⟩
    rcases List.mem_cons.1 hx with rfl | hx
    · exact g'.1
    · have := c.2.1 x hx; have := c.1; omega
theorem gp_of_cn : ∀ {L : List Sp}, Cn L → gpB L = true
  | [], _ => rfl
  | [p], _ => rfl
  | p :: q :: r, h => by
    show (decide (p.2 < q.1) && gpB (q :: r)) = true
    rw [Bool.and_eq_true, decide_eq_true_iff]
    exact ⟨h.2.1 q List.mem_cons_self, gp_of_cn h.2.2⟩
theorem vaB_iff {L : List Sp} : vaB L = true ↔ L.length ≤ 2000 ∧ Ln L ∧ Cn L := by
  unfold vaB
  rw [Bool.and_eq_true, Bool.and_eq_true, decide_eq_true_iff]
  constructor
  · rintro ⟨⟨h1, h2⟩, h3⟩
    have h2' : ∀ p, p ∈ L → spB p = true := List.all_eq_true.1 h2
    exact ⟨h1, fun p hp => by have := spB_iff.1 (h2' p hp); omega, cn_of (fun p hp => (spB_iff.1 (h2' p hp)).2.2) h3⟩
  · rintro ⟨h1, h2, h3⟩
    refine ⟨⟨h1, List.all_eq_true.2 fun p hp => ?_⟩, gp_of_cn h3⟩
    rw [spB_iff]
    exact ⟨(h2 p hp).1, (h2 p hp).2, h3.lt p hp⟩
theorem sps_of {L : List Sp} : spsB L = true ↔ Ln L ∧ ∀ p, p ∈ L → p.1 < p.2 := by
  unfold spsB
  rw [List.all_eq_true]
  constructor
  · intro h
    exact ⟨fun p hp => by have := spB_iff.1 (h p hp); omega, fun p hp => (spB_iff.1 (h p hp)).2.2⟩
  · rintro ⟨h1, h2⟩ p hp
    rw [spB_iff]
    exact ⟨(h1 p hp).1, (h1 p hp).2, h2 p hp⟩
/-- Nothing lies before the first span, nor at its end. -/
theorem cn_before : ∀ {L : List Sp} {x : Int}, (∀ q, q ∈ L → x < q.1) → inB L x = false
  | L, x, h => by
    rw [← Bool.not_eq_true, inB_iff]
    rintro ⟨p, hp, a, b⟩
    have := h p hp
    omega
theorem cn_head {p : Sp} {L : List Sp} (h : Cn (p :: L)) (x : Int) : inB (p :: L) x = if x < p.2 then decide (p.1 ≤ x) else inB L x := by
  rw [inB_cons]
  by_cases z : x < p.2
  · rw [if_pos z, decide_eq_true z, Bool.and_true, cn_before (L := L) (fun q hq => by have := h.2.1 q hq; omega), Bool.or_false]
  · rw [if_neg z, decide_eq_false z, Bool.and_false, Bool.false_or]
/-- Two canonical lists with the same elements are the same list. -/
theorem cn_ext : ∀ {A B : List Sp}, Cn A → Cn B → (∀ x, inB A x = inB B x) → A = B
  | [], [], _, _, _ => rfl
  | [], q :: B, _, hB, h => by
    have := h q.1
    rw [inB_nil, cn_head hB, if_pos hB.1, decide_eq_true (Int.le_refl _)] at this
    cases this
  | p :: A, [], hA, _, h => by
    have := h p.1
    rw [inB_nil, cn_head hA, if_pos hA.1, decide_eq_true (Int.le_refl _)] at this
    cases this
  | p :: A, q :: B, hA, hB, h => by
    have le1 : ∀ {p q : Sp} {A B : List Sp}, Cn (p :: A) → Cn (q :: B) → (∀ x, inB (p :: A) x = inB (q :: B) x) → ¬ p.1 < q.1 := by
      intro p q A B hA hB h z
      have := h p.1
      rw [cn_head hA, if_pos hA.1, decide_eq_true (Int.le_refl _), cn_before (L := q :: B) (fun r hr => by
        rcases List.mem_cons.1 hr with rfl | hr
        · exact z
        · have := hB.2.1 r hr; have := hB.1; omega)] at this
      cases this
    have e1 : p.1 = q.1 := by
      have a := le1 hA hB h
      have b := le1 hB hA (fun x => (h x).symm)
      omega
    have le2 : ∀ {p q : Sp} {A B : List Sp}, Cn (p :: A) → Cn (q :: B) → p.1 = q.1 → (∀ x, inB (p :: A) x = inB (q :: B) x) → ¬ p.2 < q.2 := by
      intro p q A B hA hB e h z
      have := h p.2
      rw [cn_head hA, if_neg (Int.lt_irrefl _), cn_head hB, if_pos z, decide_eq_true (by have := hA.1; omega), cn_before (L := A) hA.2.1] at this
      cases this
    have e2 : p.2 = q.2 := by
      have a := le2 hA hB e1 h
      have b := le2 hB hA e1.symm (fun x => (h x).symm)
      omega
    have e : p = q := Prod.ext e1 e2
    subst e
    rw [cn_ext hA.2.2 hB.2.2 (fun x => ?_)]
    have := h x
    rw [cn_head hA, cn_head hB] at this
    by_cases z : x < p.2
    · rw [cn_before (L := A) (fun r hr => by have := hA.2.1 r hr; omega), cn_before (L := B) (fun r hr => by have := hB.2.1 r hr; omega)]
    · rwa [if_neg z, if_neg z] at this
/-- The share of a span before a number; ranks; measures. -/
def clS (p : Sp) (x : Int) : Int := if p.2 ≤ x then p.2 - p.1 else if p.1 < x then x - p.1 else 0
def rkL : List Sp → Int → Int
  | [], _ => 0
  | p :: L, x => clS p x + rkL L x
def msL : List Sp → Int
  | [] => 0
  | p :: L => (p.2 - p.1) + msL L
theorem cl_step {p : Sp} (h : p.1 < p.2) (x : Int) : clS p (x + 1) = clS p x + (if decide (p.1 ≤ x) && decide (x < p.2) then 1 else 0) := by
  unfold clS
  by_cases a : p.1 ≤ x <;> by_cases b : x < p.2 <;> simp only [a, b, decide_true, decide_false, Bool.true_and, Bool.false_and] <;> (repeat' split) <;> simp_all <;> omega
theorem rk_step : ∀ {L : List Sp}, Cn L → ∀ x, rkL L (x + 1) = rkL L x + (if inB L x then 1 else 0)
  | [], _, x => rfl
  | p :: L, h, x => by
    show clS p (x + 1) + rkL L (x + 1) = clS p x + rkL L x + _
    rw [cl_step h.1, rk_step h.2.2, inB_cons]
    by_cases a : p.1 ≤ x ∧ x < p.2
    · have n : inB L x = false := cn_before (L := L) (fun q hq => by have := h.2.1 q hq; omega)
      rw [n, decide_eq_true a.1, decide_eq_true a.2]; simp; omega
    · have z : (decide (p.1 ≤ x) && decide (x < p.2)) = false := by
        rw [← Bool.not_eq_true, Bool.and_eq_true, decide_eq_true_iff, decide_eq_true_iff]; exact a
      rw [z, Bool.false_or]; simp; omega
theorem rk_low : ∀ {L : List Sp} {x : Int}, (∀ p, p ∈ L → x ≤ p.1 ∧ p.1 < p.2) → rkL L x = 0
  | [], _, _ => rfl
  | p :: L, x, h => by
    have := h p List.mem_cons_self
    show clS p x + rkL L x = 0
    rw [rk_low (fun q hq => h q (List.mem_cons_of_mem _ hq))]
    unfold clS
    rw [if_neg (by omega), if_neg (by omega)]; rfl
theorem rk_high : ∀ {L : List Sp} {x : Int}, (∀ p, p ∈ L → p.2 ≤ x) → rkL L x = msL L
  | [], _, _ => rfl
  | p :: L, x, h => by
    have := h p List.mem_cons_self
    show clS p x + rkL L x = (p.2 - p.1) + msL L
    rw [rk_high (fun q hq => h q (List.mem_cons_of_mem _ hq))]
    unfold clS
    rw [if_pos (by omega)]
theorem rk_bound : ∀ {L : List Sp}, Cn L → Ln L → ∀ x, 0 ≤ rkL L x
  | [], _, _, _ => Int.le_refl _
  | p :: L, h, l, x => by
    have a := rk_bound h.2.2 (fun q hq => l q (List.mem_cons_of_mem _ hq)) x
    have b := h.1
    show 0 ≤ clS p x + rkL L x
    unfold clS
    (repeat' split) <;> omega
theorem ms_nonneg : ∀ {L : List Sp}, Cn L → 0 ≤ msL L
  | [], _ => Int.le_refl _
  | p :: L, h => by have := ms_nonneg h.2.2; have := h.1; show 0 ≤ (p.2 - p.1) + msL L; omega
/-- Ranks that grow in the same way are the same. -/
theorem rk_same {A B C D : List Sp} (hA : Cn A) (hB : Cn B) (hC : Cn C) (hD : Cn D) (lA : Ln A) (lB : Ln B) (lC : Ln C) (lD : Ln D)
    (h : ∀ x, (if inB A x then 1 else 0) + (if inB B x then 1 else 0) = ((if inB C x then 1 else 0) + (if inB D x then 1 else 0) : Int)) (x : Int) : rkL A x + rkL B x = rkL C x + rkL D x := by
  have low : ∀ {L : List Sp}, Cn L → Ln L → ∀ y, y ≤ -4398046511104 → rkL L y = 0 := fun {L} c l y hy => rk_low (fun p hp => ⟨by have := l p hp; omega, c.lt p hp⟩)
  rcases Int.le_total x (-4398046511104) with z | z
  · rw [low hA lA x z, low hB lB x z, low hC lC x z, low hD lD x z]
  · obtain ⟨n, rfl⟩ : ∃ n : Nat, x = -4398046511104 + n := ⟨(x + 4398046511104).toNat, by omega⟩
    induction n with
    | zero =>
      have y : (-4398046511104 : Int) + ((0 : Nat) : Int) ≤ -4398046511104 := by omega
      rw [low hA lA _ y, low hB lB _ y, low hC lC _ y, low hD lD _ y]
    | succ n ih =>
      have e : (-4398046511104 : Int) + ((n + 1 : Nat) : Int) = (-4398046511104 + (n : Int)) + 1 := by omega
      have := ih (by omega)
      have q := h (-4398046511104 + (n : Int))
      rw [e, rk_step hA, rk_step hB, rk_step hC, rk_step hD]
      omega
theorem ms_same {A B C D : List Sp} (hA : Cn A) (hB : Cn B) (hC : Cn C) (hD : Cn D) (lA : Ln A) (lB : Ln B) (lC : Ln C) (lD : Ln D)
    (h : ∀ x, (if inB A x then 1 else 0) + (if inB B x then 1 else 0) = ((if inB C x then 1 else 0) + (if inB D x then 1 else 0) : Int)) : msL A + msL B = msL C + msL D := by
  have r := rk_same hA hB hC hD lA lB lC lD h 4398046511104
  have hi : ∀ {L : List Sp}, Ln L → rkL L 4398046511104 = msL L := fun l => rk_high (fun p hp => (l p hp).2)
  rwa [hi lA, hi lB, hi lC, hi lD] at r
end Go.Proofs.Ytaikeclfmmnelaa
/- Lists of spans: the element with an index, the next element, moves. No program is mentioned. -/
namespace Go.Proofs.Ytaikeclfmmnelaa

open Go.RowKit

set_option linter.unusedVariables false

def nthL : List Sp → Int → Int
  | [], _ => 0
  | p :: L, n => if p.2 - p.1 ≤ n then nthL L (n - (p.2 - p.1)) else p.1 + n
def nextL : List Sp → Int → Int × Bool
  | [], _ => (0, false)
  | p :: L, x => if x < p.2 then (if x < p.1 then (p.1, true) else (x, true)) else nextL L x
theorem in_behind : ∀ {L : List Sp} {a y : Int}, (∀ q, q ∈ L → a < q.1) → inB L y = true → a < y := by
  intro L a y h i
  obtain ⟨p, hp, q, _⟩ := inB_iff.1 i
  have := h p hp; omega
theorem nth_in : ∀ {L : List Sp}, Cn L → ∀ {n : Int}, 0 ≤ n → n < msL L → inB L (nthL L n) = true ∧ rkL L (nthL L n) = n
  | [], _, n, h0, h1 => by simp only [msL] at h1; omega
  | p :: L, h, n, h0, h1 => by
    have lt := h.1
    have h1' : n < (p.2 - p.1) + msL L := h1
    show inB (p :: L) (if p.2 - p.1 ≤ n then nthL L (n - (p.2 - p.1)) else p.1 + n) = true ∧ clS p (if p.2 - p.1 ≤ n then nthL L (n - (p.2 - p.1)) else p.1 + n) + rkL L (if p.2 - p.1 ≤ n then nthL L (n - (p.2 - p.1)) else p.1 + n) = n
    by_cases z : p.2 - p.1 ≤ n
    · rw [if_pos z]
      obtain ⟨a, b⟩ := nth_in h.2.2 (n := n - (p.2 - p.1)) (by omega) (by omega)
      have c := in_behind h.2.1 a
      refine ⟨by rw [inB_cons, a, Bool.or_true], ?_⟩
      rw [b]; unfold clS; rw [if_pos (by omega)]; omega
    · rw [if_neg z]
      refine ⟨by rw [inB_cons, decide_eq_true (show p.1 ≤ p.1 + n by omega), decide_eq_true (show p.1 + n < p.2 by omega)]; rfl, ?_⟩
      rw [rk_low (fun q hq => ⟨by have := h.2.1 q hq; omega, h.2.2.lt q hq⟩)]
      unfold clS; rw [if_neg (by omega)]; split <;> omega
theorem next_no : ∀ {L : List Sp}, Cn L → ∀ {x : Int}, (nextL L x).2 = false → nextL L x = (0, false) ∧ rkL L x = msL L ∧ inB L x = false
  | [], _, _, _ => ⟨rfl, rfl, rfl⟩
  | p :: L, h, x, e => by
    have e' : (if x < p.2 then (if x < p.1 then (p.1, true) else (x, true)) else nextL L x).2 = false := e
    by_cases z : x < p.2
    · rw [if_pos z] at e'
      split at e' <;> cases e'
    · rw [if_neg z] at e'
      obtain ⟨a, b, c⟩ := next_no h.2.2 e'
      refine ⟨?_, ?_, ?_⟩
      · show (if x < p.2 then _ else nextL L x) = _; rw [if_neg z, a]
      · show clS p x + rkL L x = (p.2 - p.1) + msL L; rw [b]; unfold clS; rw [if_pos (by omega)]
      · rw [cn_head h, if_neg z, c]
theorem next_yes : ∀ {L : List Sp}, Cn L → Ln L → ∀ {x : Int}, (nextL L x).2 = true →
    x ≤ (nextL L x).1 ∧ inB L (nextL L x).1 = true ∧ rkL L x < msL L ∧ nthL L (rkL L x) = (nextL L x).1 ∧ inB L x = decide ((nextL L x).1 = x)
  | [], _, _, _, e => by cases e
  | p :: L, h, l, x, e => by
    have lt := h.1
    have ms := ms_nonneg h.2.2
    have l2 : Ln L := fun q hq => l q (List.mem_cons_of_mem _ hq)
    have low : ∀ y, y ≤ p.2 → rkL L y = 0 := fun y hy => rk_low (fun q hq => ⟨by have := h.2.1 q hq; omega, h.2.2.lt q hq⟩)
    have e' : (if x < p.2 then (if x < p.1 then (p.1, true) else (x, true)) else nextL L x).2 = true := e
    by_cases z : x < p.2
    · by_cases y : x < p.1
      · have nx : nextL (p :: L) x = (p.1, true) := by show (if x < p.2 then (if x < p.1 then (p.1, true) else (x, true)) else nextL L x) = _; rw [if_pos z, if_pos y]
        have rk : rkL (p :: L) x = 0 := by show clS p x + rkL L x = 0; rw [low x (by omega)]; unfold clS; rw [if_neg (by omega), if_neg (by omega)]; rfl
        rw [nx, rk]
        refine ⟨by show x ≤ p.1; omega, ?_, ?_, ?_, ?_⟩
        · show inB (p :: L) p.1 = true; rw [cn_head h, if_pos lt]; simp
        · show 0 < (p.2 - p.1) + msL L; omega
        · show (if p.2 - p.1 ≤ 0 then _ else p.1 + 0) = p.1; rw [if_neg (by omega)]; omega
        · rw [cn_head h, if_pos z, decide_eq_false (by omega), decide_eq_false (by show ¬ p.1 = x; omega)]
      · have nx : nextL (p :: L) x = (x, true) := by show (if x < p.2 then (if x < p.1 then (p.1, true) else (x, true)) else nextL L x) = _; rw [if_pos z, if_neg y]
        have rk : rkL (p :: L) x = x - p.1 := by show clS p x + rkL L x = _; rw [low x (by omega)]; unfold clS; rw [if_neg (by omega)]; split <;> omega
        rw [nx, rk]
        refine ⟨Int.le_refl _, ?_, ?_, ?_, ?_⟩
        · show inB (p :: L) x = true; rw [cn_head h, if_pos z, decide_eq_true (by omega)]
        · show x - p.1 < (p.2 - p.1) + msL L; omega
        · show (if p.2 - p.1 ≤ x - p.1 then _ else p.1 + (x - p.1)) = x; rw [if_neg (by omega)]; omega
        · rw [cn_head h, if_pos z, decide_eq_true (by omega), decide_eq_true (by show x = x; rfl)]
    · have nx : nextL (p :: L) x = nextL L x := by show (if x < p.2 then _ else nextL L x) = _; rw [if_neg z]
      rw [if_neg z] at e'
      obtain ⟨a, b, c, d, f⟩ := next_yes h.2.2 l2 e'
      have rk : rkL (p :: L) x = (p.2 - p.1) + rkL L x := by show clS p x + rkL L x = _; unfold clS; rw [if_pos (by omega)]
      have nn := rk_bound h.2.2 l2 x
      rw [nx, rk]
      refine ⟨a, ?_, ?_, ?_, ?_⟩
      · rw [inB_cons, b, Bool.or_true]
      · show (p.2 - p.1) + rkL L x < (p.2 - p.1) + msL L; omega
      · show (if p.2 - p.1 ≤ (p.2 - p.1) + rkL L x then nthL L ((p.2 - p.1) + rkL L x - (p.2 - p.1)) else _) = _
        rw [if_pos (by omega), show (p.2 - p.1) + rkL L x - (p.2 - p.1) = rkL L x by omega, d]
      · rw [cn_head h, if_neg z, f]
/-- The rank of an element is less than the measure. -/
theorem rk_lt : ∀ {L : List Sp}, Cn L → Ln L → ∀ {x : Int}, inB L x = true → rkL L x < msL L := by
  intro L c l x i
  cases e : (nextL L x).2
  · have := (next_no c e).2.2; rw [i] at this; cases this
  · exact (next_yes c l e).2.2.1
/-- The spans, moved. -/
def shL (L : List Sp) (n : Int) : List Sp := L.map fun p => (p.1 + n, p.2 + n)
theorem sh_in (L : List Sp) (n x : Int) : inB (shL L n) (x + n) = inB L x := by
  unfold inB shL
  rw [List.any_map]
  congr 1
  funext p
  show (decide (p.1 + n ≤ x + n) && decide (x + n < p.2 + n)) = _
  rw [Bool.eq_iff_iff]; simp only [Bool.and_eq_true, decide_eq_true_iff]; omega
theorem sh_cn : ∀ {L : List Sp} {n : Int}, Cn L → Cn (shL L n)
  | [], _, _ => trivial
  | p :: L, n, h => ⟨by show p.1 + n < p.2 + n; have := h.1; omega, fun q hq => by
      obtain ⟨r, hr, rfl⟩ := List.mem_map.1 hq
      have := h.2.1 r hr
      show p.2 + n < r.1 + n; omega, sh_cn h.2.2⟩
theorem sh_ms : ∀ (L : List Sp) (n : Int), msL (shL L n) = msL L
  | [], _ => rfl
  | p :: L, n => by show ((p.2 + n) - (p.1 + n)) + msL (shL L n) = (p.2 - p.1) + msL L; rw [sh_ms L n]; omega
theorem sh_len (L : List Sp) (n : Int) : (shL L n).length = L.length := by simp [shL]
theorem sh_back (L : List Sp) (n : Int) : shL (shL L n) (-n) = L := by
  unfold shL
  rw [List.map_map]
  conv => rhs; rw [← List.map_id L]
  congr 1
  funext p
  show (p.1 + n + -n, p.2 + n + -n) = p
  rw [show p.1 + n + -n = p.1 by omega, show p.2 + n + -n = p.2 by omega]
/-- Move: the list, and an error. -/
def moV (L : List Sp) (n : Int) : List Sp × Int :=
  if vaB L then (if decide (8796093022208 < n) || decide (n < -8796093022208) then ([], 2) else if spsB (shL L n) then (shL L n, 0) else ([], 2)) else ([], 1)
theorem mo_ok {L : List Sp} {n : Int} (h : (moV L n).2 = 0) : vaB L = true ∧ -8796093022208 ≤ n ∧ n ≤ 8796093022208 ∧ spsB (shL L n) = true ∧ moV L n = (shL L n, 0) ∧ vaB (shL L n) = true := by
  unfold moV at h ⊢
  cases v : vaB L
  · rw [v] at h; cases h
  · rw [v, if_pos rfl] at h
    rw [if_pos rfl]
    cases u : decide (8796093022208 < n) || decide (n < -8796093022208)
    · rw [u, if_neg (by simp)] at h
      rw [if_neg (by simp)]
      rw [Bool.or_eq_false_iff, decide_eq_false_iff_not, decide_eq_false_iff_not] at u
      cases t : spsB (shL L n)
      · rw [t] at h; cases h
      · refine ⟨rfl, by omega, by omega, rfl, rfl, ?_⟩
        obtain ⟨a, b, c⟩ := vaB_iff.1 v
        exact vaB_iff.2 ⟨by rw [sh_len]; exact a, (sps_of.1 t).1, sh_cn c⟩
    · rw [u] at h; cases h
theorem mo_yes {L : List Sp} {n : Int} (v : vaB L = true) (h0 : -8796093022208 ≤ n) (h1 : n ≤ 8796093022208) (s : spsB (shL L n) = true) : moV L n = (shL L n, 0) := by
  unfold moV
  rw [v, if_pos rfl, decide_eq_false (by omega), decide_eq_false (by omega), s]; rfl
end Go.Proofs.Ytaikeclfmmnelaa
/- Lists of spans: the operations, by the ends of all spans. No program is mentioned. -/
namespace Go.Proofs.Ytaikeclfmmnelaa

open Go.RowKit

set_option linter.unusedVariables false

def kpB (k : Int) (a b : Bool) : Bool := if k = 1 then a || b else if k = 2 then a && b else if k = 3 then a && !b else a != b
theorem kp_no (k : Int) : kpB k false false = false := by unfold kpB; (repeat' split) <;> rfl
/-- A number inserted into an ascending list. -/
def insZ (l : List Int) (x : Int) : List Int := l.filter (fun y => decide (y < x)) ++ x :: l.filter (fun y => decide (x < y))
abbrev Asc (l : List Int) : Prop := l.Pairwise (· < ·)
theorem ins_mem {l : List Int} {x y : Int} : y ∈ insZ l x ↔ y = x ∨ y ∈ l := by
  unfold insZ
  rw [List.mem_append, List.mem_cons, List.mem_filter, List.mem_filter, decide_eq_true_iff, decide_eq_true_iff]
  constructor
  · rintro (h | h | h)
    · exact .inr h.1
    · exact .inl h
    · exact .inr h.1
  · rintro (h | h)
    · exact .inr (.inl h)
    · rcases Int.lt_trichotomy y x with z | z | z
      · exact .inl ⟨h, z⟩
      · exact .inr (.inl z)
      · exact .inr (.inr ⟨h, z⟩)
theorem ins_asc {l : List Int} (h : Asc l) (x : Int) : Asc (insZ l x) := by
  refine List.pairwise_append.2 ⟨h.filter _, List.pairwise_cons.2 ⟨fun y hy => ?_, h.filter _⟩, fun a ha b hb => ?_⟩
  · exact of_decide_eq_true (List.mem_filter.1 hy).2
  · have a1 : a < x := of_decide_eq_true (List.mem_filter.1 ha).2
    rcases List.mem_cons.1 hb with rfl | hb
    · exact a1
    · have : x < b := of_decide_eq_true (List.mem_filter.1 hb).2
      omega
theorem ins_len (x : Int) : ∀ l : List Int, (insZ l x).length ≤ l.length + 1
  | [] => Nat.le_refl _
  | a :: l => by
    have := ins_len x l
    unfold insZ at this ⊢
    rw [List.length_append, List.length_cons] at this ⊢
    rw [List.filter_cons, List.filter_cons]
    by_cases z : a < x
    · rw [decide_eq_true z, decide_eq_false (by omega : ¬ x < a)]; simp at this ⊢; omega
    · by_cases y : x < a
      · rw [decide_eq_false z, decide_eq_true y]; simp at this ⊢; omega
      · rw [decide_eq_false z, decide_eq_false y]; simp at this ⊢; omega
/-- The ends of the first spans. -/
def enK (L : List Sp) : Nat → List Int
  | 0 => []
  | k + 1 => insZ (insZ (enK L k) (L.getD k (0, 0)).1) (L.getD k (0, 0)).2
def enL (L : List Sp) : List Int := enK L L.length
theorem enK_asc (L : List Sp) : ∀ k, Asc (enK L k)
  | 0 => List.Pairwise.nil
  | k + 1 => ins_asc (ins_asc (enK_asc L k) _) _
theorem enK_len (L : List Sp) : ∀ k, (enK L k).length ≤ 2 * k
  | 0 => Nat.le_refl _
  | k + 1 => by
    have a := enK_len L k
    have b := ins_len (L.getD k (0, 0)).1 (enK L k)
    have c := ins_len (L.getD k (0, 0)).2 (insZ (enK L k) (L.getD k (0, 0)).1)
    show (insZ (insZ (enK L k) (L.getD k (0, 0)).1) (L.getD k (0, 0)).2).length ≤ _
    omega
theorem enK_mem (L : List Sp) (y : Int) : ∀ k, y ∈ enK L k ↔ ∃ j, j < k ∧ (y = (L.getD j (0, 0)).1 ∨ y = (L.getD j (0, 0)).2)
  | 0 => ⟨fun h => (by cases h), fun ⟨j, h, _⟩ => absurd h (Nat.not_lt_zero _)⟩
  | k + 1 => by
    show y ∈ insZ (insZ (enK L k) (L.getD k (0, 0)).1) (L.getD k (0, 0)).2 ↔ _
    rw [ins_mem, ins_mem, enK_mem L y k]
    constructor
    · rintro (h | h | ⟨j, hj, h⟩)
      · exact ⟨k, by omega, .inr h⟩
      · exact ⟨k, by omega, .inl h⟩
      · exact ⟨j, by omega, h⟩
    · rintro ⟨j, hj, h⟩
      rcases Nat.lt_or_ge j k with z | z
      · exact .inr (.inr ⟨j, z, h⟩)
      · obtain rfl : j = k := by omega
        rcases h with h | h
        · exact .inr (.inl h)
        · exact .inl h
theorem enL_mem {L : List Sp} {y : Int} : y ∈ enL L ↔ ∃ p, p ∈ L ∧ (y = p.1 ∨ y = p.2) := by
  unfold enL
  rw [enK_mem]
  constructor
  · rintro ⟨j, hj, h⟩
    refine ⟨L.getD j (0, 0), ?_, h⟩
    rw [List.getD_eq_getElem?_getD, List.getElem?_eq_getElem hj]; exact List.getElem_mem hj
  · rintro ⟨p, hp, h⟩
    obtain ⟨j, hj, rfl⟩ := List.getElem_of_mem hp
    exact ⟨j, hj, by rw [List.getD_eq_getElem?_getD, List.getElem?_eq_getElem hj]; exact h⟩
theorem asc_at {e : List Int} (h : Asc e) {i j : Nat} (hij : i < j) (hj : j < e.length) : e.getD i 0 < e.getD j 0 := by
  rw [List.getD_eq_getElem?_getD, List.getD_eq_getElem?_getD, List.getElem?_eq_getElem hj, List.getElem?_eq_getElem (by omega)]
  exact List.pairwise_iff_getElem.1 h i j (by omega) hj hij
theorem asc_le {e : List Int} (h : Asc e) {i j : Nat} (hij : i ≤ j) (hj : j < e.length) : e.getD i 0 ≤ e.getD j 0 := by
  rcases Nat.lt_or_ge i j with z | z
  · have := asc_at h z hj; omega
  · obtain rfl : i = j := by omega
    exact Int.le_refl _
theorem asc_inv {e : List Int} (h : Asc e) {i j : Nat} (hi : i < e.length) (hj : j < e.length) (l : e.getD i 0 < e.getD j 0) : i < j := by
  rcases Nat.lt_or_ge i j with z | z
  · exact z
  · have := asc_le h z hi; omega
theorem mem_at {e : List Int} {y : Int} (h : y ∈ e) : ∃ i, i < e.length ∧ e.getD i 0 = y := by
  obtain ⟨i, hi, rfl⟩ := List.getElem_of_mem h
  exact ⟨i, hi, by rw [List.getD_eq_getElem?_getD, List.getElem?_eq_getElem hi]; rfl⟩
theorem locate {e : List Int} {x : Int} {i : Nat} : ∀ d, i + d < e.length → e.getD i 0 ≤ x → x < e.getD (i + d) 0 → ∃ j, j + 1 < e.length ∧ e.getD j 0 ≤ x ∧ x < e.getD (j + 1) 0
  | 0, _, a, b => by rw [Nat.add_zero] at b; omega
  | d + 1, h, a, b => by
    by_cases z : x < e.getD (i + d) 0
    · exact locate d (by omega) a z
    · exact ⟨i + d, by omega, by omega, b⟩
/-- A span added behind the last one. -/
def addL (l : List Sp) (s : Sp) : List Sp := if 0 < l.length ∧ (l.getD (l.length - 1) (0, 0)).2 = s.1 then l.dropLast ++ [((l.getD (l.length - 1) (0, 0)).1, s.2)] else l ++ [s]
theorem add_nil (s : Sp) : addL [] s = [s] := rfl
theorem add_snoc (R : List Sp) (q s : Sp) : addL (R ++ [q]) s = if q.2 = s.1 then R ++ [(q.1, s.2)] else R ++ [q] ++ [s] := by
  unfold addL
  have e : (R ++ [q]).getD ((R ++ [q]).length - 1) (0, 0) = q := by
    rw [List.length_append, List.length_singleton, Nat.add_sub_cancel]
    simp [List.getD_eq_getElem?_getD]
  rw [e]
  by_cases z : q.2 = s.1
  · rw [if_pos ⟨by simp, z⟩, if_pos z, List.dropLast_concat]
  · rw [if_neg (fun h => z h.2), if_neg z]
theorem add_len (l : List Sp) (s : Sp) : (addL l s).length ≤ l.length + 1 := by
  unfold addL
  split
  · rw [List.length_append, List.length_dropLast, List.length_singleton]; omega
  · rw [List.length_append, List.length_singleton]; exact Nat.le_refl _
theorem cn_snoc : ∀ {R : List Sp} {s : Sp}, Cn R → (∀ q, q ∈ R → q.2 < s.1) → s.1 < s.2 → Cn (R ++ [s])
  | [], s, _, _, h => ⟨h, fun q hq => (by cases hq), trivial⟩
  | p :: R, s, c, b, h => ⟨c.1, fun q hq => by
      rcases List.mem_append.1 hq with hq | hq
      · exact c.2.1 q hq
      · rw [List.mem_singleton.1 hq]; exact b p List.mem_cons_self, cn_snoc c.2.2 (fun q hq => b q (List.mem_cons_of_mem _ hq)) h⟩
theorem cn_last : ∀ {R : List Sp} {q : Sp}, Cn (R ++ [q]) → Cn R ∧ (∀ r, r ∈ R → r.2 < q.1) ∧ q.1 < q.2
  | [], q, c => ⟨trivial, fun r hr => (by cases hr), c.1⟩
  | p :: R, q, c => by
    obtain ⟨a, b, d⟩ := cn_last (R := R) c.2.2
    exact ⟨⟨c.1, fun r hr => c.2.1 r (List.mem_append_left _ hr), a⟩, fun r hr => by
      rcases List.mem_cons.1 hr with rfl | hr
      · exact c.2.1 q (List.mem_append_right _ List.mem_cons_self)
      · exact b r hr, d⟩
theorem snoc_cases (l : List Sp) : l = [] ∨ ∃ R q, l = R ++ [q] := by
  rcases List.eq_nil_or_concat l with h | ⟨R, q, h⟩
  · exact .inl h
  · exact .inr ⟨R, q, by rw [h, List.concat_eq_append]⟩
theorem add_ok {R : List Sp} {s : Sp} (c : Cn R) (b : ∀ q, q ∈ R → q.2 ≤ s.1) (h : s.1 < s.2) :
    Cn (addL R s) ∧ (∀ x, inB (addL R s) x = (inB R x || (decide (s.1 ≤ x) && decide (x < s.2)))) ∧ (∀ q, q ∈ addL R s → (∃ r, r ∈ R ∧ r.1 = q.1) ∨ q.1 = s.1) ∧ ∀ q, q ∈ addL R s → q.2 ≤ s.2 := by
  rcases snoc_cases R with rfl | ⟨R, q, rfl⟩
  · rw [add_nil]
    refine ⟨⟨h, fun q hq => (by cases hq), trivial⟩, fun x => by rw [inB_cons, inB_nil, Bool.or_false, Bool.false_or], fun q hq => .inr (by rw [List.mem_singleton.1 hq]), fun q hq => by rw [List.mem_singleton.1 hq]; exact Int.le_refl _⟩
  · obtain ⟨c1, c2, c3⟩ := cn_last c
    have bq := b q (List.mem_append_right _ List.mem_cons_self)
    rw [add_snoc]
    by_cases z : q.2 = s.1
    · rw [if_pos z]
      refine ⟨cn_snoc c1 c2 (by show q.1 < s.2; omega), fun x => ?_, fun r hr => ?_, fun r hr => ?_⟩
      · rw [inB_app, inB_app, inB_cons, inB_nil, Bool.or_false, inB_cons, inB_nil, Bool.or_false, Bool.or_assoc]
        congr 1
        show (decide (q.1 ≤ x) && decide (x < s.2)) = _
        rw [Bool.eq_iff_iff]; simp only [Bool.or_eq_true, Bool.and_eq_true, decide_eq_true_iff]; omega
      · rcases List.mem_append.1 hr with hr | hr
        · exact .inl ⟨r, List.mem_append_left _ hr, rfl⟩
        · rw [List.mem_singleton.1 hr]; exact .inl ⟨q, List.mem_append_right _ List.mem_cons_self, rfl⟩
      · rcases List.mem_append.1 hr with hr | hr
        · have := c2 r hr; omega
        · rw [List.mem_singleton.1 hr]; exact Int.le_refl _
    · rw [if_neg z]
      refine ⟨cn_snoc c (fun r hr => ?_) h, fun x => ?_, fun r hr => ?_, fun r hr => ?_⟩
      · rcases List.mem_append.1 hr with hr | hr
        · have := c2 r hr; omega
        · rw [List.mem_singleton.1 hr]; omega
      · rw [inB_app _ [s], inB_cons, inB_nil, Bool.or_false]
      · rcases List.mem_append.1 hr with hr | hr
        · exact .inl ⟨r, hr, rfl⟩
        · exact .inr (by rw [List.mem_singleton.1 hr])
      · rcases List.mem_append.1 hr with hr | hr
        · have := b r hr; omega
        · rw [List.mem_singleton.1 hr]; exact Int.le_refl _
/-- The result behind the first ends. -/
def cbK (k : Int) (A B : List Sp) (e : List Int) : Nat → List Sp
  | 0 => []
  | i + 1 => if kpB k (inB A (e.getD i 0)) (inB B (e.getD i 0)) then addL (cbK k A B e i) (e.getD i 0, e.getD (i + 1) 0) else cbK k A B e i
def cbL (k : Int) (A B : List Sp) : List Sp := cbK k A B (enL (A ++ B)) ((enL (A ++ B)).length - 1)
theorem cbK_len (k : Int) (A B : List Sp) (e : List Int) : ∀ i, (cbK k A B e i).length ≤ i
  | 0 => Nat.le_refl _
  | i + 1 => by
    have := cbK_len k A B e i
    show (if _ then addL (cbK k A B e i) _ else cbK k A B e i).length ≤ _
    split
    · have := add_len (cbK k A B e i) (e.getD i 0, e.getD (i + 1) 0); omega
    · omega
theorem cbK_inv (k : Int) (A B : List Sp) {e : List Int} (h : Asc e) : ∀ i, i = 0 ∨ i < e.length → Cn (cbK k A B e i) ∧ (∀ q, q ∈ cbK k A B e i → (∃ j, j < e.length ∧ q.1 = e.getD j 0) ∧ q.2 ≤ e.getD i 0) ∧
      ∀ x, inB (cbK k A B e i) x = true ↔ ∃ j, j < i ∧ e.getD j 0 ≤ x ∧ x < e.getD (j + 1) 0 ∧ kpB k (inB A (e.getD j 0)) (inB B (e.getD j 0)) = true
  | 0, _ => ⟨trivial, fun q hq => (by cases hq), fun x => ⟨fun h => (by cases h), fun ⟨j, hj, _⟩ => absurd hj (Nat.not_lt_zero _)⟩⟩
  | i + 1, hi => by
    have hi' : i + 1 < e.length := by omega
    obtain ⟨c, b, m⟩ := cbK_inv k A B h i (.inr (by omega))
    have lt : e.getD i 0 < e.getD (i + 1) 0 := asc_at h (Nat.lt_succ_self i) hi'
    have d : cbK k A B e (i + 1) = if kpB k (inB A (e.getD i 0)) (inB B (e.getD i 0)) then addL (cbK k A B e i) (e.getD i 0, e.getD (i + 1) 0) else cbK k A B e i := rfl
    rw [d]
    cases v : kpB k (inB A (e.getD i 0)) (inB B (e.getD i 0))
    · rw [if_neg (by simp)]
      refine ⟨c, fun q hq => ⟨(b q hq).1, by have := (b q hq).2; omega⟩, fun x => (m x).trans ?_⟩
      constructor
      · rintro ⟨j, hj, r⟩
        exact ⟨j, by omega, r⟩
      · rintro ⟨j, hj, r1, r2, r3⟩
        rcases Nat.lt_or_ge j i with z | z
        · exact ⟨j, z, r1, r2, r3⟩
        · obtain rfl : j = i := by omega
          rw [v] at r3; cases r3
    · rw [if_pos rfl]
      obtain ⟨a1, a2, a3, a4⟩ := add_ok (s := (e.getD i 0, e.getD (i + 1) 0)) c (fun q hq => (b q hq).2) lt
      refine ⟨a1, fun q hq => ⟨?_, a4 q hq⟩, fun x => ?_⟩
      · rcases a3 q hq with ⟨r, hr, er⟩ | er
        · obtain ⟨j, hj, ej⟩ := (b r hr).1
          exact ⟨j, hj, by rw [← er, ej]⟩
        · exact ⟨i, by omega, er⟩
      · rw [a2, Bool.or_eq_true, m, Bool.and_eq_true, decide_eq_true_iff, decide_eq_true_iff]
        constructor
        · rintro (⟨j, hj, r⟩ | ⟨r1, r2⟩)
          · exact ⟨j, by omega, r⟩
          · exact ⟨i, by omega, r1, r2, v⟩
        · rintro ⟨j, hj, r1, r2, r3⟩
          rcases Nat.lt_or_ge j i with z | z
          · exact .inl ⟨j, z, r1, r2, r3⟩
          · obtain rfl : j = i := by omega
            exact .inr ⟨r1, r2⟩
/-- Between two ends nothing changes. -/
theorem in_const {e : List Int} (h : Asc e) {L : List Sp} (m : ∀ p, p ∈ L → p.1 ∈ e ∧ p.2 ∈ e) {j : Nat} (hj : j + 1 < e.length) {x : Int} (x0 : e.getD j 0 ≤ x) (x1 : x < e.getD (j + 1) 0) : inB L x = inB L (e.getD j 0) := by
  rw [Bool.eq_iff_iff, inB_iff, inB_iff]
  constructor
  · rintro ⟨p, hp, a, b⟩
    refine ⟨p, hp, ?_, by omega⟩
    obtain ⟨i, hi, ei⟩ := mem_at (m p hp).1
    rcases Nat.lt_or_ge j i with z | z
    · have := asc_le h (show j + 1 ≤ i by omega) hi; omega
    · have := asc_le h z (by omega); omega
  · rintro ⟨p, hp, a, b⟩
    refine ⟨p, hp, by omega, ?_⟩
    obtain ⟨i, hi, ei⟩ := mem_at (m p hp).2
    have := asc_inv h (show j < e.length by omega) hi (by omega)
    have := asc_le h (show j + 1 ≤ i by omega) hi
    omega
theorem cb_spec (k : Int) (A B : List Sp) : Cn (cbL k A B) ∧ (∀ x, inB (cbL k A B) x = kpB k (inB A x) (inB B x)) ∧ (∀ q, q ∈ cbL k A B → q.1 ∈ enL (A ++ B) ∧ ∃ y, y ∈ enL (A ++ B) ∧ q.2 ≤ y) ∧ (cbL k A B).length ≤ 2 * (A.length + B.length) := by
  have asc : Asc (enL (A ++ B)) := enK_asc _ _
  have len : (enL (A ++ B)).length ≤ 2 * (A.length + B.length) := by
    have := enK_len (A ++ B) (A ++ B).length
    rw [List.length_append] at this
    unfold enL; rw [List.length_append]; exact this
  have mA : ∀ p, p ∈ A → p.1 ∈ enL (A ++ B) ∧ p.2 ∈ enL (A ++ B) := fun p hp => ⟨enL_mem.2 ⟨p, List.mem_append_left _ hp, .inl rfl⟩, enL_mem.2 ⟨p, List.mem_append_left _ hp, .inr rfl⟩⟩
  have mB : ∀ p, p ∈ B → p.1 ∈ enL (A ++ B) ∧ p.2 ∈ enL (A ++ B) := fun p hp => ⟨enL_mem.2 ⟨p, List.mem_append_right _ hp, .inl rfl⟩, enL_mem.2 ⟨p, List.mem_append_right _ hp, .inr rfl⟩⟩
  have ln := cbK_len k A B (enL (A ++ B)) ((enL (A ++ B)).length - 1)
  have inv := cbK_inv k A B asc ((enL (A ++ B)).length - 1) (by omega)
  unfold cbL
  generalize enL (A ++ B) = e at *
  obtain ⟨c, b, m⟩ := inv
  refine ⟨c, fun x => ?_, fun q hq => ?_, by omega⟩
  · rw [Bool.eq_iff_iff, m]
    constructor
    · rintro ⟨j, hj, r1, r2, r3⟩
      rwa [in_const asc mA (by omega) r1 r2, in_const asc mB (by omega) r1 r2]
    · intro r
      have some : ∃ p, (p ∈ A ∨ p ∈ B) ∧ p.1 ≤ x ∧ x < p.2 := by
        cases vA : inB A x
        · cases vB : inB B x
          · rw [vA, vB, kp_no] at r; cases r
          · obtain ⟨p, hp, z⟩ := inB_iff.1 vB; exact ⟨p, .inr hp, z⟩
        · obtain ⟨p, hp, z⟩ := inB_iff.1 vA; exact ⟨p, .inl hp, z⟩
      obtain ⟨p, hp, z1, z2⟩ := some
      have me : p.1 ∈ e ∧ p.2 ∈ e := hp.elim (mA p) (mB p)
      obtain ⟨i, hi, ei⟩ := mem_at me.1
      obtain ⟨t, ht, et⟩ := mem_at me.2
      have it := asc_inv asc hi ht (by omega)
      obtain ⟨j, hj, j0, j1⟩ := locate (e := e) (x := x) (i := i) (t - i) (by omega) (by omega) (by rw [show i + (t - i) = t by omega]; omega)
      refine ⟨j, by omega, j0, j1, ?_⟩
      rwa [← in_const asc mA hj j0 j1, ← in_const asc mB hj j0 j1]
  · obtain ⟨⟨j, hj, ej⟩, r⟩ := b q hq
    have at' : ∀ i, i < e.length → e.getD i 0 ∈ e := fun i hi => by
      rw [List.getD_eq_getElem?_getD, List.getElem?_eq_getElem hi]; exact List.getElem_mem hi
    exact ⟨by rw [ej]; exact at' j hj, _, at' _ (by omega), r⟩
theorem cb_line {k : Int} {A B : List Sp} (hA : spsB A = true) (hB : spsB B = true) : Ln (cbL k A B) := by
  have ends : ∀ y, y ∈ enL (A ++ B) → -4398046511104 ≤ y ∧ y ≤ 4398046511104 := by
    intro y hy
    obtain ⟨p, hp, h⟩ := enL_mem.1 hy
    have q : spB p = true := (List.mem_append.1 hp).elim (fun h => List.all_eq_true.1 hA p h) (fun h => List.all_eq_true.1 hB p h)
    have := spB_iff.1 q
    omega
  intro q hq
  obtain ⟨a, y, hy, b⟩ := (cb_spec k A B).2.2.1 q hq
  have := ends _ a
  have := ends _ hy
  omega
/-- The functions of the package: lists and errors. -/
def ruFull (l : List Sp) : List Sp × Int := if 2000 < l.length then ([], 5) else (l, 0)
def ruOf (L : List Sp) : List Sp × Int := if spsB L then ruFull (cbL 1 L []) else ([], 1)
def ruAp (k : Int) (A B : List Sp) : List Sp × Int := if vaB A && vaB B then ruFull (cbL k A B) else ([], 1)
def ruNot (A : List Sp) (p : Sp) : List Sp × Int := if vaB A && spB p then ruFull (cbL 3 [p] A) else ([], 1)
theorem va_sps {L : List Sp} (h : vaB L = true) : spsB L = true := by
  unfold vaB at h; rw [Bool.and_eq_true, Bool.and_eq_true] at h; exact h.1.2
theorem full_ok {l : List Sp} (h : (ruFull l).2 = 0) : l.length ≤ 2000 ∧ ruFull l = (l, 0) := by
  unfold ruFull at h ⊢
  by_cases z : 2000 < l.length
  · rw [if_pos z] at h; cases h
  · rw [if_neg z]; exact ⟨by omega, rfl⟩
theorem ap_ok {k : Int} {A B : List Sp} (h : (ruAp k A B).2 = 0) : vaB A = true ∧ vaB B = true ∧ vaB (ruAp k A B).1 = true ∧ ∀ x, inB (ruAp k A B).1 x = kpB k (inB A x) (inB B x) := by
  unfold ruAp at h ⊢
  cases v : vaB A && vaB B
  · rw [v] at h; cases h
  · rw [v, if_pos rfl] at h
    rw [if_pos rfl]
    have v' := v
    rw [Bool.and_eq_true] at v'
    obtain ⟨l, e⟩ := full_ok h
    obtain ⟨c, m, -, -⟩ := cb_spec k A B
    rw [e]
    exact ⟨v'.1, v'.2, vaB_iff.2 ⟨l, cb_line (va_sps v'.1) (va_sps v'.2), c⟩, m⟩
theorem ap_small {k : Int} {A B : List Sp} (hA : vaB A = true) (hB : vaB B = true) (h : A.length + B.length ≤ 1000) : ruAp k A B = (cbL k A B, 0) := by
  have := (cb_spec k A B).2.2.2
  unfold ruAp
  rw [hA, hB]
  show ruFull (cbL k A B) = _
  unfold ruFull
  rw [if_neg (by omega)]
theorem ap_arg {k : Int} {A B : List Sp} (h : (vaB A && vaB B) = false) : ruAp k A B = ([], 1) := by unfold ruAp; rw [h]; rfl
theorem not_ok {A : List Sp} {p : Sp} (h : (ruNot A p).2 = 0) : vaB A = true ∧ spB p = true ∧ vaB (ruNot A p).1 = true ∧ ∀ x, inB (ruNot A p).1 x = (decide (p.1 ≤ x) && decide (x < p.2) && !inB A x) := by
  unfold ruNot at h ⊢
  cases v : vaB A && spB p
  · rw [v] at h; cases h
  · rw [v, if_pos rfl] at h
    rw [if_pos rfl]
    have v' := v
    rw [Bool.and_eq_true] at v'
    obtain ⟨l, e⟩ := full_ok h
    obtain ⟨c, m, -, -⟩ := cb_spec 3 [p] A
    rw [e]
    refine ⟨v'.1, v'.2, vaB_iff.2 ⟨l, cb_line (by unfold spsB; simp [v'.2]) (va_sps v'.1), c⟩, fun x => ?_⟩
    show inB (cbL 3 [p] A) x = _
    rw [m, inB_cons, inB_nil, Bool.or_false]; rfl
theorem of_ok {L : List Sp} (h : (ruOf L).2 = 0) : spsB L = true ∧ vaB (ruOf L).1 = true ∧ ∀ x, inB (ruOf L).1 x = inB L x := by
  unfold ruOf at h ⊢
  cases v : spsB L
  · rw [v] at h; cases h
  · rw [v, if_pos rfl] at h
    rw [if_pos rfl]
    obtain ⟨l, e⟩ := full_ok h
    obtain ⟨c, m, -, -⟩ := cb_spec 1 L []
    rw [e]
    refine ⟨rfl, vaB_iff.2 ⟨l, cb_line v rfl, c⟩, fun x => ?_⟩
    show inB (cbL 1 L []) x = _
    rw [m]; show (inB L x || inB [] x) = _; rw [inB_nil, Bool.or_false]
/-- A canonical list is its own. -/
theorem of_same {L : List Sp} (h : (ruOf L).2 = 0) (v : vaB L = true) : (ruOf L).1 = L := by
  obtain ⟨-, a, b⟩ := of_ok h
  exact cn_ext (vaB_iff.1 a).2.2 (vaB_iff.1 v).2.2 b
end Go.Proofs.Ytaikeclfmmnelaa
/- Lists of spans: how a span is found, how sorted spans are merged, how two lists are swept. No program is mentioned. -/
namespace Go.Proofs.Ytaikeclfmmnelaa

open Go.RowKit

set_option linter.unusedVariables false

theorem getD_zero (p : Sp) (L : List Sp) : (p :: L).getD 0 (0, 0) = p := rfl
theorem getD_succ (p : Sp) (L : List Sp) (j : Nat) : (p :: L).getD (j + 1) (0, 0) = L.getD j (0, 0) := rfl
theorem getD_mem {L : List Sp} {j : Nat} (h : j < L.length) : L.getD j (0, 0) ∈ L := by
  rw [List.getD_eq_getElem?_getD, List.getElem?_eq_getElem h]; exact List.getElem_mem h
theorem mem_getD {L : List Sp} {p : Sp} (h : p ∈ L) : ∃ j, j < L.length ∧ L.getD j (0, 0) = p := by
  obtain ⟨j, hj, rfl⟩ := List.getElem_of_mem h
  exact ⟨j, hj, by rw [List.getD_eq_getElem?_getD, List.getElem?_eq_getElem hj]; rfl⟩
/-- How many spans at the beginning end at x or before it. -/
def fdN : List Sp → Int → Nat
  | [], _ => 0
  | p :: L, x => if p.2 ≤ x then fdN L x + 1 else 0
theorem fd_le : ∀ (L : List Sp) (x : Int), fdN L x ≤ L.length
  | [], _ => Nat.le_refl _
  | p :: L, x => by
    have := fd_le L x
    rw [fdN, List.length_cons]
    split <;> omega
theorem fd_iff : ∀ {L : List Sp}, Cn L → ∀ {x : Int} {j : Nat}, j < L.length → ((L.getD j (0, 0)).2 ≤ x ↔ j < fdN L x)
  | [], _, _, _, h => absurd h (Nat.not_lt_zero _)
  | p :: L, c, x, 0, _ => by
    rw [getD_zero, fdN]
    split
    · exact ⟨fun _ => Nat.succ_pos _, fun _ => by assumption⟩
    · exact ⟨fun h => by omega, fun h => absurd h (Nat.lt_irrefl _)⟩
  | p :: L, c, x, j + 1, h => by
    have hj : j < L.length := by simpa using h
    have ih := fd_iff c.2.2 (x := x) hj
    rw [getD_succ, fdN]
    have m := getD_mem hj
    have a := c.2.1 _ m
    have b := c.2.2.lt _ m
    split
    · rw [ih]; omega
    · exact ⟨fun h => by omega, fun h => absurd h (Nat.not_lt_zero _)⟩
theorem fd_eq {L : List Sp} (c : Cn L) {x : Int} {i : Nat} (hi : i ≤ L.length) (a : ∀ j, j < i → (L.getD j (0, 0)).2 ≤ x) (b : ∀ j, i ≤ j → j < L.length → ¬ (L.getD j (0, 0)).2 ≤ x) : i = fdN L x := by
  have l := fd_le L x
  rcases Nat.lt_trichotomy i (fdN L x) with z | z | z
  · exact absurd ((fd_iff c (x := x) (by omega)).2 z) (b i (Nat.le_refl _) (by omega))
  · exact z
  · exact absurd ((fd_iff c (x := x) (by omega)).1 (a _ z)) (Nat.lt_irrefl _)
/-- Whether the found span has x. -/
def fdH (L : List Sp) (x : Int) : Bool := decide (fdN L x < L.length) && decide ((L.getD (fdN L x) (0, 0)).1 ≤ x)
theorem fd_in : ∀ {L : List Sp}, Cn L → ∀ x, fdH L x = inB L x
  | [], _, _ => rfl
  | p :: L, c, x => by
    have ih := fd_in c.2.2 x
    rw [cn_head c, fdH, fdN]
    by_cases z : p.2 ≤ x
    · rw [if_pos z, if_neg (by omega), ← ih, fdH, getD_succ, List.length_cons]
      congr 1
      exact decide_eq_decide.2 (by omega)
    · rw [if_neg z, if_pos (by omega), getD_zero, decide_eq_true (by simp), Bool.true_and]
theorem fd_rank : ∀ {L : List Sp}, Cn L → ∀ x, rkL L x = msL (L.take (fdN L x)) + (if fdH L x then x - (L.getD (fdN L x) (0, 0)).1 else 0)
  | [], _, _ => rfl
  | p :: L, c, x => by
    have ih := fd_rank c.2.2 x
    have e : rkL (p :: L) x = clS p x + rkL L x := rfl
    have hh := cn_head c x
    rw [fd_in c.2.2] at ih
    rw [e, fd_in c x, fdN]
    have hp := c.1
    by_cases z : p.2 ≤ x
    · rw [if_neg (show ¬ x < p.2 by omega)] at hh
      rw [hh, if_pos z, ih, getD_succ, List.take_succ_cons]
      have : msL (p :: L.take (fdN L x)) = (p.2 - p.1) + msL (L.take (fdN L x)) := rfl
      rw [this, clS, if_pos z]
      omega
    · rw [if_pos (show x < p.2 by omega)] at hh
      rw [hh, if_neg z, getD_zero, List.take_zero, clS, if_neg z]
      have : rkL L x = 0 := rk_low (fun q hq => by have := c.2.1 q hq; have := c.2.2.lt q hq; omega)
      rw [this]
      have m0 : msL [] = 0 := rfl
      rw [m0]
      by_cases y : p.1 ≤ x
      · rw [decide_eq_true y, if_pos rfl]
        split <;> omega
      · rw [decide_eq_false y, if_neg (show ¬ p.1 < x by omega)]; rfl
theorem fd_next : ∀ {L : List Sp}, Cn L → ∀ x, nextL L x = if fdN L x = L.length then (0, false) else ((if x < (L.getD (fdN L x) (0, 0)).1 then (L.getD (fdN L x) (0, 0)).1 else x), true)
  | [], _, _ => rfl
  | p :: L, c, x => by
    have ih := fd_next c.2.2 x
    rw [nextL, fdN, List.length_cons]
    by_cases z : p.2 ≤ x
    · rw [if_neg (show ¬ x < p.2 by omega), if_pos z, ih, getD_succ]
      by_cases y : fdN L x = L.length
      · rw [if_pos y, if_pos (show fdN L x + 1 = L.length + 1 by omega)]
      · rw [if_neg y, if_neg (show ¬ fdN L x + 1 = L.length + 1 by omega)]
    · rw [if_pos (show x < p.2 by omega), if_neg z, if_neg (show ¬ 0 = L.length + 1 by omega), getD_zero]
      split <;> rfl
/-- A span merged into a list whose spans begin before it. -/
def mgS (R : List Sp) (s : Sp) : List Sp :=
  if 0 < R.length ∧ s.1 ≤ (R.getD (R.length - 1) (0, 0)).2 then R.dropLast ++ [((R.getD (R.length - 1) (0, 0)).1, if (R.getD (R.length - 1) (0, 0)).2 < s.2 then s.2 else (R.getD (R.length - 1) (0, 0)).2)] else R ++ [s]
theorem last_snoc (R : List Sp) (q : Sp) : (R ++ [q]).getD ((R ++ [q]).length - 1) (0, 0) = q := by
  rw [List.getD_eq_getElem?_getD]; simp
theorem mg_nil (s : Sp) : mgS [] s = [s] := rfl
theorem mg_snoc (R : List Sp) (q s : Sp) : mgS (R ++ [q]) s = if s.1 ≤ q.2 then R ++ [(q.1, if q.2 < s.2 then s.2 else q.2)] else R ++ [q] ++ [s] := by
  unfold mgS
  rw [last_snoc]
  have h : 0 < (R ++ [q]).length := by simp
  by_cases z : s.1 ≤ q.2
  · rw [if_pos ⟨h, z⟩, if_pos z, List.dropLast_concat]
  · rw [if_neg (fun y => z y.2), if_neg z]
theorem mg_len (l : List Sp) (s : Sp) : (mgS l s).length ≤ l.length + 1 := by
  rcases snoc_cases l with rfl | ⟨R, q, rfl⟩
  · rw [mg_nil]; simp
  · rw [mg_snoc]; split <;> simp
theorem inB_one (s : Sp) (x : Int) : inB [s] x = (decide (s.1 ≤ x) && decide (x < s.2)) := by simp [inB]
theorem mg_ok {R : List Sp} {s : Sp} (c : Cn R) (b : ∀ q, q ∈ R → q.1 ≤ s.1) (h : s.1 < s.2) :
    Cn (mgS R s) ∧ (∀ x, inB (mgS R s) x = (inB R x || (decide (s.1 ≤ x) && decide (x < s.2)))) ∧ ∀ q, q ∈ mgS R s → q.1 ≤ s.1 := by
  rcases snoc_cases R with rfl | ⟨R, q, rfl⟩
  · rw [mg_nil]
    exact ⟨⟨h, fun q hq => (by cases hq), trivial⟩, fun x => by rw [inB_one]; rfl, fun q hq => by rw [List.mem_singleton.1 hq]; exact Int.le_refl _⟩
  · obtain ⟨c1, c2, c3⟩ := cn_last c
    have bq := b q (by simp)
    rw [mg_snoc]
    by_cases z : s.1 ≤ q.2
    · rw [if_pos z]
      refine ⟨cn_snoc c1 c2 (by show q.1 < ite _ _ _; split <;> omega), fun x => ?_, fun r hr => ?_⟩
      · rw [inB_app, inB_app, inB_one, inB_one, Bool.or_assoc]
        congr 1
        rw [Bool.eq_iff_iff]
        simp only [Bool.and_eq_true, Bool.or_eq_true, decide_eq_true_iff]
        split <;> omega
      · rcases List.mem_append.1 hr with hr | hr
        · exact b r (List.mem_append_left _ hr)
        · rw [List.mem_singleton.1 hr]; exact bq
    · rw [if_neg z]
      refine ⟨cn_snoc c (fun r hr => ?_) h, fun x => by rw [inB_app, inB_one], fun r hr => ?_⟩
      · rcases List.mem_append.1 hr with hr | hr
        · have := c2 r hr; omega
        · rw [List.mem_singleton.1 hr]; omega
      · rcases List.mem_append.1 hr with hr | hr
        · exact b r hr
        · rw [List.mem_singleton.1 hr]; exact Int.le_refl _
def mgK (L : List Sp) : Nat → List Sp
  | 0 => []
  | k + 1 => mgS (mgK L k) (L.getD k (0, 0))
theorem mgK_len (L : List Sp) : ∀ k, (mgK L k).length ≤ k
  | 0 => Nat.le_refl _
  | k + 1 => by have := mgK_len L k; have := mg_len (mgK L k) (L.getD k (0, 0)); rw [mgK]; omega
theorem mgK_inv {L : List Sp} (s : ∀ i j, i < j → j < L.length → (L.getD i (0, 0)).1 ≤ (L.getD j (0, 0)).1) (v : ∀ p, p ∈ L → p.1 < p.2) : ∀ k, k ≤ L.length →
    Cn (mgK L k) ∧ (∀ x, inB (mgK L k) x = true ↔ ∃ j, j < k ∧ (L.getD j (0, 0)).1 ≤ x ∧ x < (L.getD j (0, 0)).2) ∧ ∀ q, q ∈ mgK L k → ∃ j, j < k ∧ q.1 ≤ (L.getD j (0, 0)).1
  | 0, _ => ⟨trivial, fun x => ⟨fun h => (by cases h), fun ⟨j, hj, _⟩ => absurd hj (Nat.not_lt_zero _)⟩, fun q hq => (by cases hq)⟩
  | k + 1, hk => by
    obtain ⟨c, e, b⟩ := mgK_inv s v k (by omega)
    have b' : ∀ q, q ∈ mgK L k → q.1 ≤ (L.getD k (0, 0)).1 := fun q hq => by
      obtain ⟨j, hj, a⟩ := b q hq
      have := s j k hj (by omega)
      omega
    obtain ⟨c', e', b''⟩ := mg_ok c b' (v _ (getD_mem (by omega : k < L.length)))
    rw [mgK]
    refine ⟨c', fun x => ?_, fun q hq => ⟨k, Nat.lt_succ_self _, b'' q hq⟩⟩
    rw [e' x, Bool.or_eq_true, e x, Bool.and_eq_true, decide_eq_true_iff, decide_eq_true_iff]
    constructor
    · rintro (⟨j, hj, a⟩ | a)
      · exact ⟨j, by omega, a⟩
      · exact ⟨k, by omega, a⟩
    · rintro ⟨j, hj, a⟩
      rcases Nat.lt_or_ge j k with y | y
      · exact .inl ⟨j, y, a⟩
      · obtain rfl : j = k := by omega
        exact .inr a
theorem mg_of {L L' : List Sp} (m : ∀ p, p ∈ L' ↔ p ∈ L) (v : ∀ p, p ∈ L → p.1 < p.2) (s : ∀ i j, i < j → j < L'.length → (L'.getD i (0, 0)).1 ≤ (L'.getD j (0, 0)).1) : mgK L' L'.length = cbL 1 L [] := by
  obtain ⟨c, e, -⟩ := mgK_inv s (fun p hp => v p ((m p).1 hp)) L'.length (Nat.le_refl _)
  obtain ⟨c2, e2, -⟩ := cb_spec 1 L []
  refine cn_ext c c2 fun x => ?_
  have k1 : ∀ a, kpB 1 a false = a := fun a => by cases a <;> rfl
  rw [e2, inB_nil, k1, Bool.eq_iff_iff, e, inB_iff]
  constructor
  · rintro ⟨j, hj, a⟩
    exact ⟨_, (m _).1 (getD_mem hj), a⟩
  · rintro ⟨p, hp, a⟩
    obtain ⟨j, hj, rfl⟩ := mem_getD ((m p).2 hp)
    exact ⟨j, hj, a⟩
/-- The end with a number, in which beginnings and ends take turns. -/
def edL (A : List Sp) (i : Nat) : Int := if 2 * A.length ≤ i then 4398046511105 else if i % 2 = 0 then (A.getD (i / 2) (0, 0)).1 else (A.getD (i / 2) (0, 0)).2
theorem ed_off {A : List Sp} {i : Nat} (h : 2 * A.length ≤ i) : edL A i = 4398046511105 := by rw [edL, if_pos h]
theorem ed_even {A : List Sp} {m : Nat} (h : m < A.length) : edL A (2 * m) = (A.getD m (0, 0)).1 := by
  rw [edL, if_neg (by omega), if_pos (by omega), show 2 * m / 2 = m by omega]
theorem ed_odd {A : List Sp} {m : Nat} (h : m < A.length) : edL A (2 * m + 1) = (A.getD m (0, 0)).2 := by
  rw [edL, if_neg (by omega), if_neg (by omega), show (2 * m + 1) / 2 = m by omega]
theorem ed_lt {A : List Sp} (c : Cn A) (l : Ln A) {i : Nat} (h : i < 2 * A.length) : edL A i < edL A (i + 1) := by
  obtain ⟨m, z⟩ : ∃ m, i = 2 * m ∨ i = 2 * m + 1 := ⟨i / 2, by omega⟩
  rcases z with rfl | rfl
  · rw [ed_even (by omega), ed_odd (by omega)]
    exact c.lt _ (getD_mem (by omega))
  · rw [ed_odd (by omega)]
    by_cases y : m + 1 < A.length
    · rw [show 2 * m + 1 + 1 = 2 * (m + 1) by omega, ed_even y]
      exact gpB_at.1 (gp_of_cn c) m y
    · rw [ed_off (by omega)]
      have := l _ (getD_mem (by omega : m < A.length)); omega
theorem ed_mono {A : List Sp} (c : Cn A) (l : Ln A) {i : Nat} : ∀ d, i + d + 1 ≤ 2 * A.length → edL A i < edL A (i + d + 1)
  | 0, h => ed_lt c l (by omega)
  | d + 1, h => by
    have a := ed_mono c l (i := i) d (by omega)
    have b := ed_lt c l (i := i + d + 1) (by omega)
    rw [show i + (d + 1) + 1 = i + d + 1 + 1 by omega]; omega
theorem ed_less {A : List Sp} (c : Cn A) (l : Ln A) {i j : Nat} (h : i < j) (hj : j ≤ 2 * A.length) : edL A i < edL A j := by
  have := ed_mono c l (i := i) (j - i - 1) (by omega)
  rwa [show i + (j - i - 1) + 1 = j by omega] at this
theorem ed_top {A : List Sp} (c : Cn A) (l : Ln A) {i : Nat} (h : i < 2 * A.length) : edL A i < 4398046511105 := by
  have := ed_less c l h (Nat.le_refl _)
  rwa [ed_off (Nat.le_refl _)] at this
theorem ed_in {A : List Sp} (c : Cn A) (l : Ln A) {i : Nat} (hi : i ≤ 2 * A.length) {y : Int} (a : ∀ m, m < i → edL A m ≤ y) (b : y < edL A i) : inB A y = decide (i % 2 = 1) := by
  rw [Bool.eq_iff_iff, inB_iff, decide_eq_true_iff]
  constructor
  · rintro ⟨p, hp, p0, p1⟩
    obtain ⟨j, hj, rfl⟩ := mem_getD hp
    rw [← ed_even hj] at p0
    rw [← ed_odd hj] at p1
    rcases Nat.lt_or_ge (2 * j + 1) i with y' | y'
    · have := a _ y'; omega
    rcases Nat.lt_or_ge i (2 * j + 1) with z | z
    · rcases Nat.lt_or_ge i (2 * j) with t | t
      · have := ed_less c l t (by omega); omega
      · obtain rfl : i = 2 * j := by omega
        omega
    · omega
  · intro o
    obtain ⟨m, rfl⟩ : ∃ m, i = 2 * m + 1 := ⟨i / 2, by omega⟩
    have hm : m < A.length := by omega
    refine ⟨A.getD m (0, 0), getD_mem hm, ?_, ?_⟩
    · rw [← ed_even hm]; exact a _ (by omega)
    · rw [← ed_odd hm]; exact b
/-- What holds of a sweep of two lists ahead of the next place N. -/
structure SwI (k : Int) (A B : List Sp) (i j : Nat) (fr : Int) (kp : Bool) (R : List Sp) (N : Int) : Prop where
  i1 : i ≤ 2 * A.length
  j1 : j ≤ 2 * B.length
  kv : kp = kpB k (decide (i % 2 = 1)) (decide (j % 2 = 1))
  n1 : N = if edL B j < edL A i then edL B j else edL A i
  a1 : ∀ m, m < i → edL A m < N
  b1 : ∀ m, m < j → edL B m < N
  cn : Cn R
  op : kp = true → fr < N ∧ ∀ q, q ∈ R → q.2 < fr
  cl : ∀ q, q ∈ R → q.2 < N
  sp : ∀ y, y < N → (inB R y || (kp && decide (fr ≤ y))) = kpB k (inB A y) (inB B y)
  ln : R.length ≤ i + j
theorem sw_start {k : Int} {A B : List Sp} (hA : Cn A) (lA : Ln A) (hB : Cn B) (lB : Ln B) : SwI k A B 0 0 0 false [] (if edL B 0 < edL A 0 then edL B 0 else edL A 0) := by
  refine ⟨Nat.zero_le _, Nat.zero_le _, by rw [show decide (0 % 2 = 1) = false from rfl, kp_no], rfl, fun m h => absurd h (Nat.not_lt_zero _), fun m h => absurd h (Nat.not_lt_zero _), trivial, fun h => (by cases h), fun q h => (by cases h), fun y hy => ?_, Nat.le_refl _⟩
  have a : inB A y = false := by
    rw [ed_in hA lA (Nat.zero_le _) (fun m h => absurd h (Nat.not_lt_zero _)) (by split at hy <;> omega)]; rfl
  have b : inB B y = false := by
    rw [ed_in hB lB (Nat.zero_le _) (fun m h => absurd h (Nat.not_lt_zero _)) (by split at hy <;> omega)]; rfl
  rw [a, b, kp_no]; rfl
theorem in_high {R : List Sp} {y : Int} (h : ∀ q, q ∈ R → q.2 ≤ y) : inB R y = false := by
  rw [← Bool.not_eq_true, inB_iff]
  rintro ⟨p, hp, -, a⟩
  have := h p hp; omega
/-- One place further. -/
theorem sw_step {k : Int} {A B : List Sp} (hA : Cn A) (lA : Ln A) (hB : Cn B) (lB : Ln B) {i j : Nat} {fr : Int} {kp : Bool} {R : List Sp} {N : Int} (S : SwI k A B i j fr kp R N) (h : i < 2 * A.length ∨ j < 2 * B.length)
    {i' j' : Nat} (hi : i' = if edL A i = N then i + 1 else i) (hj : j' = if edL B j = N then j + 1 else j) {kp' : Bool} (hk : kp' = kpB k (decide (i' % 2 = 1)) (decide (j' % 2 = 1))) :
    SwI k A B i' j' (if kp' && !kp then N else fr) kp' (if kp && !kp' then R ++ [(fr, N)] else R) (if edL B j' < edL A i' then edL B j' else edL A i') ∧ i + j < i' + j' := by
  obtain ⟨i1, j1, kv, n1, a1, b1, cn, op, cl, sp, ln⟩ := S
  have top : N < 4398046511105 := by
    rw [n1]
    rcases h with h | h
    · have := ed_top hA lA h; split <;> omega
    · have := ed_top hB lB h; split <;> omega
  have ga : N ≤ edL A i := by rw [n1]; split <;> omega
  have gb : N ≤ edL B j := by rw [n1]; split <;> omega
  have ea : edL A i = N → i < 2 * A.length := fun e => by
    rcases Nat.lt_or_ge i (2 * A.length) with z | z
    · exact z
    · rw [ed_off z] at e; omega
  have eb : edL B j = N → j < 2 * B.length := fun e => by
    rcases Nat.lt_or_ge j (2 * B.length) with z | z
    · exact z
    · rw [ed_off z] at e; omega
  have i1' : i' ≤ 2 * A.length := by
    rw [hi]; split
    · have := ea (by assumption); omega
    · exact i1
  have j1' : j' ≤ 2 * B.length := by
    rw [hj]; split
    · have := eb (by assumption); omega
    · exact j1
  have a2 : ∀ m, m < i' → edL A m ≤ N := fun m hm => by
    rcases Nat.lt_or_ge m i with z | z
    · have := a1 m z; omega
    · rw [hi] at hm
      split at hm
      · obtain rfl : m = i := by omega
        omega
      · omega
  have b2 : ∀ m, m < j' → edL B m ≤ N := fun m hm => by
    rcases Nat.lt_or_ge m j with z | z
    · have := b1 m z; omega
    · rw [hj] at hm
      split at hm
      · obtain rfl : m = j := by omega
        omega
      · omega
  have a3 : N < edL A i' := by
    rw [hi]; split
    · have := ed_lt hA lA (ea (by assumption)); omega
    · omega
  have b3 : N < edL B j' := by
    rw [hj]; split
    · have := ed_lt hB lB (eb (by assumption)); omega
    · omega
  have more : i + j < i' + j' := by
    have : edL A i = N ∨ edL B j = N := by
      rw [n1]; split
      · exact .inr rfl
      · exact .inl rfl
    rw [hi, hj]
    rcases this with e | e
    · rw [if_pos e]; split <;> omega
    · rw [if_pos e]; split <;> omega
  obtain ⟨M, hM⟩ : ∃ M, (if edL B j' < edL A i' then edL B j' else edL A i') = M := ⟨_, rfl⟩
  have nm : N < M := by rw [← hM]; split <;> omega
  have ma : M ≤ edL A i' := by rw [← hM]; split <;> omega
  have mb : M ≤ edL B j' := by rw [← hM]; split <;> omega
  have mid : ∀ y, N ≤ y → y < M → kpB k (inB A y) (inB B y) = kp' := fun y y0 y1 => by
    rw [ed_in hA lA i1' (fun m hm => by have := a2 m hm; omega) (by omega), ed_in hB lB j1' (fun m hm => by have := b2 m hm; omega) (by omega), hk]
  rw [hM]
  have R0 : ∀ y, N ≤ y → inB R y = false := fun y hy => in_high (fun q hq => by have := cl q hq; omega)
  refine ⟨⟨i1', j1', hk, hM.symm, fun m hm => by have := a2 m hm; omega, fun m hm => by have := b2 m hm; omega, ?_, ?_, ?_, ?_, ?_⟩, more⟩
  · cases kp <;> cases kp' <;> simp only [Bool.and_false, Bool.and_true, Bool.not_true, Bool.not_false, Bool.false_eq_true, if_false, if_true]
    · exact cn
    · exact cn
    · obtain ⟨f1, f2⟩ := op rfl
      exact cn_snoc cn f2 f1
    · exact cn
  · intro e
    subst e
    cases kp <;> simp only [Bool.and_false, Bool.and_true, Bool.not_true, Bool.not_false, Bool.false_eq_true, if_false, if_true]
    · exact ⟨nm, cl⟩
    · obtain ⟨f1, f2⟩ := op rfl
      exact ⟨by omega, f2⟩
  · intro q hq
    cases kp <;> cases kp' <;> simp only [Bool.and_false, Bool.and_true, Bool.not_true, Bool.not_false, Bool.false_eq_true, if_false, if_true] at hq
    · have := cl q hq; omega
    · have := cl q hq; omega
    · rcases List.mem_append.1 hq with hq | hq
      · have := cl q hq; omega
      · rw [List.mem_singleton.1 hq]; exact nm
    · have := cl q hq; omega
  · intro y hy
    rcases Int.lt_or_le y N with z | z
    · rw [← sp y z]
      cases kp <;> cases kp' <;> simp only [Bool.and_false, Bool.and_true, Bool.not_true, Bool.not_false, Bool.false_eq_true, if_false, if_true, Bool.false_and, Bool.true_and, Bool.or_false]
      · rw [decide_eq_false (by omega), Bool.or_false]
      · rw [inB_app, inB_one, decide_eq_true z, Bool.and_true]
    · rw [mid y z hy]
      cases kp <;> cases kp' <;> simp only [Bool.and_false, Bool.and_true, Bool.not_true, Bool.not_false, Bool.false_eq_true, if_false, if_true, Bool.false_and, Bool.true_and, Bool.or_false]
      · exact R0 y z
      · rw [decide_eq_true z, Bool.or_true]
      · rw [inB_app, inB_one, R0 y z, decide_eq_false (by omega : ¬ y < N), Bool.and_false]; rfl
      · obtain ⟨f1, f2⟩ := op rfl
        rw [decide_eq_true (by omega : fr ≤ y), Bool.or_true]
  · split
    · rw [List.length_append, List.length_singleton]; omega
    · omega
theorem sw_end {k : Int} {A B : List Sp} (lA : Ln A) (lB : Ln B) {i j : Nat} {fr : Int} {kp : Bool} {R : List Sp} {N : Int} (S : SwI k A B i j fr kp R N) (hi : 2 * A.length ≤ i) (hj : 2 * B.length ≤ j) : R = cbL k A B := by
  obtain ⟨i1, j1, kv, n1, a1, b1, cn, op, cl, sp, ln⟩ := S
  obtain ⟨c2, e2, -⟩ := cb_spec k A B
  have hN : N = 4398046511105 := by rw [n1, ed_off hi, ed_off hj]; rfl
  have hk : kp = false := by
    rw [kv, decide_eq_false (by omega), decide_eq_false (by omega), kp_no]
  refine cn_ext cn c2 fun x => ?_
  rw [e2]
  rcases Int.lt_or_le x N with z | z
  · rw [← sp x z, hk]; simp
  · rw [in_high (fun q hq => by have := cl q hq; omega), in_high (fun q hq => by have := lA q hq; omega), in_high (fun q hq => by have := lB q hq; omega), kp_no]
theorem not_ap (A : List Sp) (p : Sp) : ruAp 3 [p] A = ruNot A p := by
  unfold ruAp ruNot
  have e : vaB [p] = spB p := by
    unfold vaB spsB gpB
    simp
  rw [e, Bool.and_comm]
theorem eq_and (A B : List Sp) : (vaB A && vaB B && decide (A = B)) = (vaB A && (A == B)) := by
  by_cases e : A = B
  · subst e; simp
  · rw [decide_eq_false e, Bool.and_false, show (A == B) = false by rw [beq_eq_false_iff_ne]; exact e, Bool.and_false]
end Go.Proofs.Ytaikeclfmmnelaa
/- Periodic sets of integers: periods, least periods, unique forms. No program is mentioned. -/
namespace Go.Proofs.Ytaikeclfmmnelaa

open Go.RowKit

set_option linter.unusedVariables false

/-- A number is in the periodic set of a list. -/
def hsP (P : Int) (L : List Sp) (x : Int) : Bool := inB L (x % P)
/-- Spans from 0 to P. -/
def InP (P : Int) (L : List Sp) : Prop := ∀ q, q ∈ L → 0 ≤ q.1 ∧ q.2 ≤ P
theorem in_out {P : Int} {L : List Sp} (h : InP P L) {x : Int} (i : inB L x = true) : 0 ≤ x ∧ x < P := by
  obtain ⟨p, hp, a, b⟩ := inB_iff.1 i
  have := h p hp; omega
theorem hs_in {P : Int} {L : List Sp} {x : Int} (h0 : 0 ≤ x) (h1 : x < P) : hsP P L x = inB L x := by
  unfold hsP; rw [Int.emod_eq_of_lt h0 h1]
/-- A period of a set. -/
def Per (f : Int → Bool) (q : Int) : Prop := ∀ x, f (x + q) = f x
theorem Per.zero (f : Int → Bool) : Per f 0 := fun x => by rw [Int.add_zero]
theorem Per.neg {f : Int → Bool} {q : Int} (h : Per f q) : Per f (-q) := fun x => by
  have := h (x + -q); rw [show x + -q + q = x by omega] at this; exact this.symm
theorem Per.add {f : Int → Bool} {q r : Int} (h : Per f q) (k : Per f r) : Per f (q + r) := fun x => by
  rw [← Int.add_assoc, k, h]
theorem Per.mulNat {f : Int → Bool} {q : Int} (h : Per f q) : ∀ n : Nat, Per f (q * n)
  | 0 => by simpa using Per.zero f
  | n + 1 => by
    have := (Per.mulNat h n).add h
    rwa [show q * ((n + 1 : Nat) : Int) = q * n + q by rw [Int.natCast_succ, Int.mul_add, Int.mul_one]]
theorem Per.mul {f : Int → Bool} {q : Int} (h : Per f q) (n : Int) : Per f (q * n) := by
  rcases Int.le_total 0 n with z | z
  · obtain ⟨m, rfl⟩ := Int.eq_ofNat_of_zero_le z; exact h.mulNat m
  · obtain ⟨m, e⟩ := Int.eq_ofNat_of_zero_le (show 0 ≤ -n by omega)
    have := (h.mulNat m).neg
    rwa [show q * n = -(q * (m : Int)) by rw [← e, Int.mul_neg, Int.neg_neg]]
theorem Per.mod {f : Int → Bool} {q : Int} (h : Per f q) (x : Int) : f (x % q) = f x := by
  have := (h.mul (x / q)) (x % q)
  rw [show x % q + q * (x / q) = x by have := Int.emod_add_mul_ediv x q; omega] at this
  exact this.symm
theorem Per.emod {f : Int → Bool} {q r : Int} (h : Per f q) (k : Per f r) : Per f (q % r) := by
  have := h.add ((k.mul (q / r)).neg)
  rwa [show q + -(r * (q / r)) = q % r by have := Int.emod_add_mul_ediv q r; omega] at this
theorem per_gcd {f : Int → Bool} : ∀ (n : Nat) {a b : Int}, 0 ≤ a → 0 ≤ b → b.toNat ≤ n → Per f a → Per f b → ∃ g, 0 ≤ g ∧ g ∣ a ∧ g ∣ b ∧ Per f g
  | 0, a, b, a0, b0, h, ha, hb => by
    obtain rfl : b = 0 := by omega
    exact ⟨a, a0, Int.dvd_refl a, Int.dvd_zero a, ha⟩
  | n + 1, a, b, a0, b0, h, ha, hb => by
    by_cases z : b = 0
    · subst z
      exact ⟨a, a0, Int.dvd_refl a, Int.dvd_zero a, ha⟩
    · have m0 := Int.emod_nonneg a z
      have m1 := Int.emod_lt_of_pos a (show 0 < b by omega)
      obtain ⟨g, g0, g1, g2, g3⟩ := per_gcd n (a := b) (b := a % b) b0 m0 (by omega) hb (ha.emod hb)
      refine ⟨g, g0, ?_, g1, g3⟩
      have e : a % b + b * (a / b) = a := Int.emod_add_mul_ediv a b
      rw [← e]
      exact Int.dvd_add g2 (Int.dvd_trans g1 (Int.dvd_mul_right b _))
/-- The least period among the divisors of one. -/
structure Lst (f : Int → Bool) (P d : Int) : Prop where
  pos : 0 < d
  dvd : d ∣ P
  per : Per f d
  least : ∀ e, 0 < e → e ∣ P → Per f e → d ≤ e
theorem Lst.dvd_of {f : Int → Bool} {P d e : Int} (h : Lst f P d) (e0 : 0 < e) (he : Per f e) : d ∣ e := by
  obtain ⟨g, g0, g1, g2, g3⟩ := per_gcd (f := f) (e.toNat) (a := d) (b := e) (Int.le_of_lt h.pos) (Int.le_of_lt e0) (Nat.le_refl _) h.per he
  have gp : 0 < g := by
    rcases Int.lt_or_eq_of_le g0 with z | z
    · exact z
    · subst z
      have := Int.zero_dvd.1 g1
      have := h.pos; omega
  have a := h.least g gp (Int.dvd_trans g1 h.dvd) g3
  have b := Int.le_of_dvd h.pos g1
  obtain rfl : g = d := by omega
  exact g2
theorem Lst.unique {f : Int → Bool} {P Q d e : Int} (h : Lst f P d) (k : Lst f Q e) : d = e := by
  have a := Int.le_of_dvd k.pos (h.dvd_of k.pos k.per)
  have b := Int.le_of_dvd h.pos (k.dvd_of h.pos h.per)
  omega
theorem hs_per {P : Int} {L : List Sp} : Per (hsP P L) P := fun x => by
  unfold hsP; rw [Int.add_emod_right]
/-- The same set in the same period is the same list. -/
theorem hs_ext {P : Int} {A B : List Sp} (hP : 0 < P) (a : Cn A) (b : Cn B) (ia : InP P A) (ib : InP P B) (h : ∀ x, hsP P A x = hsP P B x) : A = B := by
  refine cn_ext a b fun x => ?_
  by_cases z : 0 ≤ x ∧ x < P
  · rw [← hs_in z.1 z.2, ← hs_in (L := B) z.1 z.2, h]
  · have o : ∀ {L : List Sp}, InP P L → inB L x = false := fun {L} i => by
      rw [← Bool.not_eq_true]; intro q; exact z (in_out i q)
    rw [o ia, o ib]
/-- A list of a period, cut at a smaller one. -/
def cuL (d : Int) (L : List Sp) : List Sp := (L.filter fun q => decide (q.1 < d)).map fun q => (q.1, if q.2 < d then q.2 else d)
theorem cu_in (d : Int) (L : List Sp) (x : Int) : inB (cuL d L) x = (decide (x < d) && inB L x) := by
  rw [Bool.eq_iff_iff, inB_iff, Bool.and_eq_true, decide_eq_true_iff, inB_iff]
  constructor
  · rintro ⟨p, hp, a, b⟩
    obtain ⟨q, hq, rfl⟩ := List.mem_map.1 hp
    obtain ⟨hq, lt⟩ := List.mem_filter.1 hq
    replace b : x < if q.2 < d then q.2 else d := b
    split at b
    · exact ⟨by omega, q, hq, a, b⟩
    · exact ⟨b, q, hq, a, by omega⟩
  · rintro ⟨l, q, hq, a, b⟩
    refine ⟨_, List.mem_map.2 ⟨q, List.mem_filter.2 ⟨hq, decide_eq_true (by omega)⟩, rfl⟩, a, ?_⟩
    show x < if q.2 < d then q.2 else d
    split <;> omega
theorem cu_cn : ∀ {L : List Sp} (d : Int), Cn L → Cn (cuL d L)
  | [], _, _ => trivial
  | p :: L, d, h => by
    have ih := cu_cn (L := L) d h.2.2
    unfold cuL at ih ⊢
    rw [List.filter_cons]
    by_cases z : p.1 < d
    · rw [if_pos (decide_eq_true z), List.map_cons]
      refine ⟨by show p.1 < if p.2 < d then p.2 else d; have := h.1; split <;> omega, fun q hq => ?_, ih⟩
      obtain ⟨r, hr, rfl⟩ := List.mem_map.1 hq
      obtain ⟨hr, lt⟩ := List.mem_filter.1 hr
      have := h.2.1 r hr
      have lt := of_decide_eq_true lt
      show (if p.2 < d then p.2 else d) < r.1
      split <;> omega
    · rw [if_neg (by simpa using z)]; exact ih
theorem cu_inp {P d : Int} {L : List Sp} (h : InP P L) : InP d (cuL d L) := fun q hq => by
  obtain ⟨r, hr, rfl⟩ := List.mem_map.1 hq
  have := h r (List.mem_filter.1 hr).1
  refine ⟨this.1, ?_⟩
  show (if r.2 < d then r.2 else d) ≤ d
  split <;> omega
theorem cu_hs {P d : Int} {L : List Sp} (d0 : 0 < d) (dP : d ≤ P) (per : Per (hsP P L) d) (x : Int) : hsP d (cuL d L) x = hsP P L x := by
  have m0 := Int.emod_nonneg x (show d ≠ 0 by omega)
  have m1 := Int.emod_lt_of_pos x d0
  show inB (cuL d L) (x % d) = _
  rw [cu_in, decide_eq_true m1, Bool.true_and, ← hs_in (P := P) m0 (by omega)]
  exact per.mod x
theorem cu_len (d : Int) (L : List Sp) : (cuL d L).length ≤ L.length := by
  unfold cuL; rw [List.length_map]; exact List.length_filter_le _ _
end Go.Proofs.Ytaikeclfmmnelaa
/- Periodic sets of integers: the canonical list of a set, the form of a periodic set. No program is mentioned. -/
namespace Go.Proofs.Ytaikeclfmmnelaa

open Go.RowKit

set_option linter.unusedVariables false

/-- The canonical list of the numbers from a on, n of them, that fit. -/
def caN (f : Int → Bool) (a : Int) : Nat → List Sp
  | 0 => []
  | n + 1 => if f (a + n) then addL (caN f a n) (a + n, a + n + 1) else caN f a n
def caL (f : Int → Bool) (a b : Int) : List Sp := caN f a (b - a).toNat
theorem caN_ok (f : Int → Bool) (a : Int) : ∀ n : Nat, Cn (caN f a n) ∧ (∀ x, inB (caN f a n) x = (decide (a ≤ x) && decide (x < a + n) && f x)) ∧ ∀ q, q ∈ caN f a n → q.2 ≤ a + n
  | 0 => ⟨trivial, fun x => by
      show false = _
      by_cases z : a ≤ x
      · rw [decide_eq_false (show ¬ x < a + ((0 : Nat) : Int) by omega), Bool.and_false, Bool.false_and]
      · rw [decide_eq_false z, Bool.false_and, Bool.false_and], fun q hq => by cases hq⟩
  | n + 1 => by
    obtain ⟨c, m, b⟩ := caN_ok f a n
    rw [caN]
    by_cases z : f (a + n) = true
    · rw [if_pos z]
      obtain ⟨c', m', -, b'⟩ := add_ok (s := (a + n, a + n + 1)) c (fun q hq => b q hq) (by show a + (n : Int) < a + n + 1; omega)
      refine ⟨c', fun x => ?_, fun q hq => by have := b' q hq; show q.2 ≤ _; have e : ((a + n, a + n + 1) : Sp).2 = a + n + 1 := rfl; omega⟩
      rw [m', m]
      show (_ || (decide (a + n ≤ x) && decide (x < a + n + 1))) = _
      by_cases y : x = a + n
      · subst y
        rw [z, decide_eq_true (Int.le_refl _), decide_eq_true (show a + (n : Int) < a + n + 1 by omega), decide_eq_true (show a ≤ a + (n : Int) by omega), decide_eq_true (show a + (n : Int) < a + ((n + 1 : Nat) : Int) by omega)]
        simp
      · have e1 : (decide (a + n ≤ x) && decide (x < a + n + 1)) = false := by
          rw [← Bool.not_eq_true, Bool.and_eq_true, decide_eq_true_iff, decide_eq_true_iff]; omega
        rw [e1, Bool.or_false, decide_eq_decide.2 (show x < a + (n : Int) ↔ x < a + ((n + 1 : Nat) : Int) by omega)]
    · rw [if_neg z]
      refine ⟨c, fun x => ?_, fun q hq => by have := b q hq; omega⟩
      rw [m]
      by_cases y : x = a + n
      · subst y
        rw [show f (a + n) = false by simpa using z, Bool.and_false, Bool.and_false]
      · rw [decide_eq_decide.2 (show x < a + (n : Int) ↔ x < a + ((n + 1 : Nat) : Int) by omega)]
theorem ca_cn (f : Int → Bool) (a b : Int) : Cn (caL f a b) := (caN_ok f a _).1
theorem ca_in (f : Int → Bool) (a b x : Int) : inB (caL f a b) x = (decide (a ≤ x) && decide (x < b) && f x) := by
  unfold caL
  rw [(caN_ok f a _).2.1]
  by_cases z : a ≤ x
  · rw [decide_eq_decide.2 (show x < a + ((b - a).toNat : Int) ↔ x < b by omega)]
  · rw [decide_eq_false z, Bool.false_and, Bool.false_and, Bool.false_and, Bool.false_and]
theorem ca_ends (f : Int → Bool) (a b : Int) : ∀ q, q ∈ caL f a b → a ≤ q.1 ∧ q.2 ≤ b := fun q hq => by
  have lt := (ca_cn f a b).lt q hq
  have h0 : inB (caL f a b) q.1 = true := inB_iff.2 ⟨q, hq, Int.le_refl _, lt⟩
  have h1 : inB (caL f a b) (q.2 - 1) = true := inB_iff.2 ⟨q, hq, by omega, by omega⟩
  rw [ca_in, Bool.and_eq_true, Bool.and_eq_true, decide_eq_true_iff, decide_eq_true_iff] at h0 h1
  omega
/-- Whatever canonical list has these numbers is that list. -/
theorem ca_eq {f : Int → Bool} {a b : Int} {L : List Sp} (c : Cn L) (h : ∀ x, inB L x = (decide (a ≤ x) && decide (x < b) && f x)) : L = caL f a b :=
  cn_ext c (ca_cn f a b) fun x => by rw [h, ca_in]
theorem ca_congr {f g : Int → Bool} {a b : Int} (h : ∀ x, a ≤ x → x < b → f x = g x) : caL f a b = caL g a b :=
  ca_eq (ca_cn f a b) fun x => by
    rw [ca_in]
    by_cases z : a ≤ x ∧ x < b
    · rw [h x z.1 z.2]
    · by_cases y : a ≤ x
      · rw [decide_eq_false (show ¬ x < b by omega), Bool.and_false, Bool.false_and, Bool.false_and]
      · rw [decide_eq_false y]; rfl
theorem ca_inp (f : Int → Bool) (d : Int) : InP d (caL f 0 d) := ca_ends f 0 d
theorem ca_hs {f : Int → Bool} {d : Int} (d0 : 0 < d) (per : Per f d) (x : Int) : hsP d (caL f 0 d) x = f x := by
  have m0 := Int.emod_nonneg x (show d ≠ 0 by omega)
  have m1 := Int.emod_lt_of_pos x d0
  show inB _ (x % d) = _
  rw [ca_in, decide_eq_true m0, decide_eq_true m1, Bool.true_and, Bool.true_and]
  exact per.mod x
/-- A list of a period is the list of its set. -/
theorem ca_self {P : Int} {L : List Sp} (c : Cn L) (i : InP P L) : L = caL (hsP P L) 0 P :=
  ca_eq c fun x => by
    by_cases z : 0 ≤ x ∧ x < P
    · rw [hs_in z.1 z.2, decide_eq_true z.1, decide_eq_true z.2]; rfl
    · have e : inB L x = false := by rw [← Bool.not_eq_true]; intro q; exact z (in_out i q)
      rw [e]
      by_cases y : 0 ≤ x
      · rw [decide_eq_false (show ¬ x < P by omega), Bool.and_false, Bool.false_and]
      · rw [decide_eq_false y]; rfl
theorem lst_ex {f : Int → Bool} {m : Int} (m0 : 0 < m) (per : Per f m) : ∃ d, Lst f m d := by
  have go : ∀ n : Nat, (∃ e : Int, 0 < e ∧ e ≤ n ∧ e ∣ m ∧ Per f e) → ∃ d, Lst f m d := by
    intro n
    induction n with
    | zero => rintro ⟨e, a, b, -⟩; omega
    | succ n ih =>
      rintro ⟨e, a, b, c, d⟩
      by_cases z : ∃ e : Int, 0 < e ∧ e ≤ n ∧ e ∣ m ∧ Per f e
      · exact ih z
      · refine ⟨e, a, c, d, fun e' a' c' d' => ?_⟩
        rcases Int.lt_or_le e' e with y | y
        · exact absurd ⟨e', a', by omega, c', d'⟩ z
        · exact y
  exact go m.toNat ⟨m, m0, by omega, Int.dvd_refl m, per⟩
open Classical in
/-- The least period among the divisors of m. -/
noncomputable def leF (m : Int) (f : Int → Bool) : Int := if h : ∃ d, Lst f m d then h.choose else m
theorem le_lst {f : Int → Bool} {m : Int} (m0 : 0 < m) (per : Per f m) : Lst f m (leF m f) := by
  have h := lst_ex m0 per
  unfold leF
  rw [dif_pos h]
  exact h.choose_spec
theorem le_eq {f : Int → Bool} {m d : Int} (h : Lst f m d) : leF m f = d := by
  have e : ∃ d, Lst f m d := ⟨d, h⟩
  unfold leF
  rw [dif_pos e]
  exact e.choose_spec.unique h
/-- The form of a set with the period m. -/
noncomputable def fmP (m : Int) (f : Int → Bool) : Int × List Sp := (leF m f, caL f 0 (leF m f))
theorem fm_hs {f : Int → Bool} {m : Int} (m0 : 0 < m) (per : Per f m) (x : Int) : hsP (fmP m f).1 (fmP m f).2 x = f x :=
  ca_hs (le_lst m0 per).pos (le_lst m0 per).per x
theorem fm_any {f : Int → Bool} {m n : Int} (m0 : 0 < m) (n0 : 0 < n) (pm : Per f m) (pn : Per f n) : fmP m f = fmP n f := by
  have e : leF m f = leF n f := (le_lst m0 pm).unique (le_lst n0 pn)
  unfold fmP; rw [e]
/-- A canonical list in a period that no divisor of it is a period of: the form of its set. -/
theorem fm_self {P : Int} {L : List Sp} (c : Cn L) (i : InP P L) (h : Lst (hsP P L) P P) : fmP P (hsP P L) = (P, L) := by
  unfold fmP; rw [le_eq h, ← ca_self c i]
theorem fm_lst {f : Int → Bool} {m : Int} (m0 : 0 < m) (per : Per f m) : Lst (hsP (fmP m f).1 (fmP m f).2) (fmP m f).1 (fmP m f).1 := by
  have e : hsP (fmP m f).1 (fmP m f).2 = f := funext (fm_hs m0 per)
  have l := le_lst m0 per
  rw [e]
  exact ⟨l.pos, Int.dvd_refl _, l.per, fun d d0 dd dp => l.least d d0 (Int.dvd_trans dd l.dvd) dp⟩
end Go.Proofs.Ytaikeclfmmnelaa
/- Periodic sets: turned lists, least periods by two searches, combinations. No program is mentioned. -/
namespace Go.Proofs.Ytaikeclfmmnelaa

open Go.RowKit

set_option linter.unusedVariables false

/-- The parts of a list that is turned by m: what comes in at the beginning; what stays. -/
def loL (P m : Int) (L : List Sp) : List Sp := (L.filter fun q => decide (P < q.2 + m)).map fun q => ((if q.1 + m < P then P else q.1 + m) - P, q.2 + m - P)
def hiL (P m : Int) (L : List Sp) : List Sp := (L.filter fun q => decide (q.1 + m < P)).map fun q => (q.1 + m, if P < q.2 + m then P else q.2 + m)
def roL (P n : Int) (L : List Sp) : List Sp := if n % P = 0 then L else cbL 1 (loL P (n % P) L) (hiL P (n % P) L)
theorem lo_in (P m : Int) (L : List Sp) (x : Int) : inB (loL P m L) x = (decide (0 ≤ x) && inB L (x + P - m)) := by
  rw [Bool.eq_iff_iff, inB_iff, Bool.and_eq_true, decide_eq_true_iff, inB_iff]
  constructor
  · rintro ⟨p, hp, a, b⟩
    obtain ⟨q, hq, rfl⟩ := List.mem_map.1 hp
    replace a : (if q.1 + m < P then P else q.1 + m) - P ≤ x := a
    replace b : x < q.2 + m - P := b
    split at a
    · exact ⟨by omega, q, (List.mem_filter.1 hq).1, by omega, by omega⟩
    · exact ⟨by omega, q, (List.mem_filter.1 hq).1, by omega, by omega⟩
  · rintro ⟨l, q, hq, a, b⟩
    refine ⟨_, List.mem_map.2 ⟨q, List.mem_filter.2 ⟨hq, decide_eq_true (by omega)⟩, rfl⟩, ?_, by show x < q.2 + m - P; omega⟩
    show (if q.1 + m < P then P else q.1 + m) - P ≤ x
    split <;> omega
theorem hi_in (P m : Int) (L : List Sp) (x : Int) : inB (hiL P m L) x = (decide (x < P) && inB L (x - m)) := by
  rw [Bool.eq_iff_iff, inB_iff, Bool.and_eq_true, decide_eq_true_iff, inB_iff]
  constructor
  · rintro ⟨p, hp, a, b⟩
    obtain ⟨q, hq, rfl⟩ := List.mem_map.1 hp
    replace a : q.1 + m ≤ x := a
    replace b : x < if P < q.2 + m then P else q.2 + m := b
    split at b
    · exact ⟨by omega, q, (List.mem_filter.1 hq).1, by omega, by omega⟩
    · exact ⟨by omega, q, (List.mem_filter.1 hq).1, by omega, by omega⟩
  · rintro ⟨l, q, hq, a, b⟩
    refine ⟨_, List.mem_map.2 ⟨q, List.mem_filter.2 ⟨hq, decide_eq_true (by omega)⟩, rfl⟩, by show q.1 + m ≤ x; omega, ?_⟩
    show x < if P < q.2 + m then P else q.2 + m
    split <;> omega
theorem lo_cn : ∀ {L : List Sp} (P m : Int), Cn L → Cn (loL P m L)
  | [], _, _, _ => trivial
  | p :: L, P, m, h => by
    have ih := lo_cn (L := L) P m h.2.2
    unfold loL at ih ⊢
    rw [List.filter_cons]
    by_cases z : P < p.2 + m
    · rw [if_pos (decide_eq_true z), List.map_cons]
      refine ⟨by show (if p.1 + m < P then P else p.1 + m) - P < p.2 + m - P; have := h.1; split <;> omega, fun q hq => ?_, ih⟩
      obtain ⟨r, hr, rfl⟩ := List.mem_map.1 hq
      obtain ⟨hr, lt⟩ := List.mem_filter.1 hr
      have := h.2.1 r hr
      show p.2 + m - P < (if r.1 + m < P then P else r.1 + m) - P
      split <;> omega
    · rw [if_neg (by simpa using z)]; exact ih
theorem hi_cn : ∀ {L : List Sp} (P m : Int), Cn L → Cn (hiL P m L)
  | [], _, _, _ => trivial
  | p :: L, P, m, h => by
    have ih := hi_cn (L := L) P m h.2.2
    unfold hiL at ih ⊢
    rw [List.filter_cons]
    by_cases z : p.1 + m < P
    · rw [if_pos (decide_eq_true z), List.map_cons]
      refine ⟨by show p.1 + m < if P < p.2 + m then P else p.2 + m; have := h.1; split <;> omega, fun q hq => ?_, ih⟩
      obtain ⟨r, hr, rfl⟩ := List.mem_map.1 hq
      obtain ⟨hr, lt⟩ := List.mem_filter.1 hr
      have lt := of_decide_eq_true lt
      have := h.2.1 r hr
      show (if P < p.2 + m then P else p.2 + m) < r.1 + m
      split <;> omega
    · rw [if_neg (by simpa using z)]; exact ih
theorem hs_shift {P : Int} {L : List Sp} (P0 : 0 < P) (x n : Int) (h0 : 0 ≤ x) (h1 : x < P) (i : InP P L) : hsP P L (x - n) = (inB L (x + P - n % P) || inB L (x - n % P)) := by
  have m0 := Int.emod_nonneg n (show P ≠ 0 by omega)
  have m1 := Int.emod_lt_of_pos n P0
  have e : (x - n) % P = (x - n % P) % P := by rw [Int.sub_emod, Int.sub_emod x (n % P), Int.emod_emod]
  unfold hsP
  rw [e]
  have o : ∀ y, ¬ (0 ≤ y ∧ y < P) → inB L y = false := fun y hy => by rw [← Bool.not_eq_true]; intro q; exact hy (in_out i q)
  by_cases z : n % P ≤ x
  · rw [Int.emod_eq_of_lt (by omega) (by omega), o (x + P - n % P) (by omega), Bool.false_or]
  · rw [o (x - n % P) (by omega), Bool.or_false]
    congr 1
    have : (x - n % P) % P = (x - n % P + P) % P := by rw [Int.add_emod_right]
    rw [this, Int.emod_eq_of_lt (by omega) (by omega)]; omega
theorem ro_eq {P : Int} {L : List Sp} (P0 : 0 < P) (c : Cn L) (i : InP P L) (n : Int) : roL P n L = caL (fun x => hsP P L (x - n)) 0 P := by
  unfold roL
  by_cases z : n % P = 0
  · rw [if_pos z]
    refine ca_eq c fun x => ?_
    by_cases y : 0 ≤ x ∧ x < P
    · rw [decide_eq_true y.1, decide_eq_true y.2, hs_shift P0 x n y.1 y.2 i, z, Int.sub_zero, Int.sub_zero]
      have o : inB L (x + P) = false := by rw [← Bool.not_eq_true]; intro q; have := in_out i q; omega
      rw [o]; rfl
    · have e : inB L x = false := by rw [← Bool.not_eq_true]; intro q; exact y (in_out i q)
      rw [e]
      by_cases t : 0 ≤ x
      · rw [decide_eq_false (show ¬ x < P by omega), Bool.and_false, Bool.false_and]
      · rw [decide_eq_false t]; rfl
  · rw [if_neg z]
    obtain ⟨cc, cm, -⟩ := cb_spec 1 (loL P (n % P) L) (hiL P (n % P) L)
    have m0 := Int.emod_nonneg n (show P ≠ 0 by omega)
    have m1 := Int.emod_lt_of_pos n P0
    refine ca_eq cc fun x => ?_
    rw [cm, lo_in, hi_in]
    show (_ || _) = _
    by_cases y : 0 ≤ x ∧ x < P
    · rw [decide_eq_true y.1, decide_eq_true y.2, hs_shift P0 x n y.1 y.2 i]; rfl
    · have o : ∀ y, ¬ (0 ≤ y ∧ y < P) → inB L y = false := fun y hy => by rw [← Bool.not_eq_true]; intro q; exact hy (in_out i q)
      by_cases t : 0 ≤ x
      · rw [decide_eq_false (show ¬ x < P by omega), Bool.false_and, o (x + P - n % P) (by omega)]; simp
      · rw [decide_eq_false t, o (x - n % P) (by omega)]; simp
/-- A list that is turned by q is itself exactly if q is a period. -/
theorem ro_same {P : Int} {L : List Sp} (P0 : 0 < P) (c : Cn L) (i : InP P L) (q : Int) : roL P q L = L ↔ Per (hsP P L) q := by
  rw [ro_eq P0 c i]
  constructor
  · intro h
    have n1 : Per (hsP P L) (-q) := fun x => by
      have m0 := Int.emod_nonneg x (show P ≠ 0 by omega)
      have m1 := Int.emod_lt_of_pos x P0
      have e : inB L (x % P) = hsP P L (x % P - q) := by
        conv => lhs; rw [← h]
        rw [ca_in, decide_eq_true m0, decide_eq_true m1]; rfl
      have e2 : hsP P L (x % P - q) = hsP P L (x - q) := by
        unfold hsP; rw [Int.sub_emod, Int.emod_emod, ← Int.sub_emod]
      show hsP P L (x + -q) = inB L (x % P)
      rw [e, e2]; rfl
    have := n1.neg; rwa [Int.neg_neg] at this
  · intro h
    refine (ca_eq c fun x => ?_).symm
    have e : hsP P L (x - q) = hsP P L x := by have := h (x - q); rw [Int.sub_add_cancel] at this; exact this.symm
    rw [e]
    have s := ca_self c i
    conv => lhs; rw [s]
    rw [ca_in]
theorem ro_cn {P : Int} {L : List Sp} (P0 : 0 < P) (c : Cn L) (i : InP P L) (n : Int) : Cn (roL P n L) := by rw [ro_eq P0 c i]; exact ca_cn _ _ _
theorem ro_inp {P : Int} {L : List Sp} (P0 : 0 < P) (c : Cn L) (i : InP P L) (n : Int) : InP P (roL P n L) := by rw [ro_eq P0 c i]; exact ca_inp _ _
theorem per_shift {f : Int → Bool} {q : Int} (h : Per f q) (n : Int) : Per (fun x => f (x - n)) q := fun x => by
  show f (x + q - n) = f (x - n)
  rw [show x + q - n = x - n + q by omega]; exact h _
theorem ro_hs {P : Int} {L : List Sp} (P0 : 0 < P) (c : Cn L) (i : InP P L) (n x : Int) : hsP P (roL P n L) x = hsP P L (x - n) := by
  rw [ro_eq P0 c i]; exact ca_hs P0 (per_shift hs_per n) x
theorem cu_eq {P d : Int} {L : List Sp} (c : Cn L) (i : InP P L) (dP : d ≤ P) : cuL d L = caL (hsP P L) 0 d :=
  ca_eq (cu_cn d c) fun x => by
    rw [cu_in]
    by_cases y : 0 ≤ x ∧ x < d
    · rw [decide_eq_true y.1, decide_eq_true y.2, hs_in y.1 (by omega)]; rfl
    · by_cases t : 0 ≤ x
      · rw [decide_eq_false (show ¬ x < d by omega), Bool.and_false, Bool.false_and, Bool.false_and]
      · have e : inB L x = false := by rw [← Bool.not_eq_true]; intro q; have := in_out i q; omega
        rw [e, decide_eq_false t, Bool.and_false]; rfl
/-- The first search: upwards among the small divisors. -/
theorem le_up {P q : Int} {f : Int → Bool} (q0 : 0 < q) (dv : q ∣ P) (per : Per f q) (no : ∀ e, 0 < e → e < q → e ∣ P → ¬ Per f e) : Lst f P q :=
  ⟨q0, dv, per, fun e e0 ed ep => by
    rcases Int.lt_or_le e q with z | z
    · exact absurd ep (no e e0 z ed)
    · exact z⟩
/-- The second search: upwards among the small divisors, what they divide into. -/
structure Sec (f : Int → Bool) (P q b : Int) : Prop where
  pos : 0 < b
  dvd : b ∣ P
  per : Per f b
  low : ∀ e, 0 < e → e < q → e ∣ P → Per f (P / e) → b ≤ P / e
theorem sec_start {f : Int → Bool} {P : Int} (P0 : 0 < P) (per : Per f P) : Sec f P 1 P := ⟨P0, Int.dvd_refl _, per, fun e a b => by omega⟩
theorem sec_hit {f : Int → Bool} {P q b : Int} (P0 : 0 < P) (S : Sec f P q b) (q0 : 0 < q) (dv : q ∣ P) (per : Per f (P / q)) : Sec f P (q + 1) (P / q) := by
  obtain ⟨k, rfl⟩ := dv
  have k0 : 0 < k := by
    rcases Int.lt_or_le 0 k with z | z
    · exact z
    · have := Int.mul_nonneg (Int.le_of_lt q0) (show 0 ≤ -k by omega)
      rw [Int.mul_neg] at this; omega
  have e1 : q * k / q = k := Int.mul_ediv_cancel_left k (by omega)
  rw [e1] at per ⊢
  refine ⟨k0, Int.dvd_mul_left q k, per, fun e e0 eq ed ep => ?_⟩
  obtain ⟨l, hl⟩ := ed
  rw [hl, Int.mul_ediv_cancel_left l (by omega)]
  have le : e ≤ q := by omega
  rcases Int.lt_or_le l k with z | z
  · have l0 : 0 < l := by
      rcases Int.lt_or_le 0 l with y | y
      · exact y
      · have := Int.mul_nonneg (Int.le_of_lt e0) (show 0 ≤ -l by omega)
        rw [Int.mul_neg] at this; omega
    have a : e * l ≤ q * l := Int.mul_le_mul_of_nonneg_right le (Int.le_of_lt l0)
    have b : q * l < q * k := Int.mul_lt_mul_of_pos_left z q0
    omega
  · exact z
theorem sec_miss {f : Int → Bool} {P q b : Int} (S : Sec f P q b) (no : ¬ (q ∣ P ∧ Per f (P / q))) : Sec f P (q + 1) b :=
  ⟨S.pos, S.dvd, S.per, fun e e0 eq ed ep => by
    rcases Int.lt_or_le e q with z | z
    · exact S.low e e0 z ed ep
    · obtain rfl : e = q := by omega
      exact absurd ⟨ed, ep⟩ no⟩
theorem sec_end {f : Int → Bool} {P q b : Int} (P0 : 0 < P) (S : Sec f P q b) (hq : P < q * q) (q0 : 0 < q) (no : ∀ e, 0 < e → e * e ≤ P → e ∣ P → ¬ Per f e) : Lst f P b :=
  ⟨S.pos, S.dvd, S.per, fun d d0 dd dp => by
    obtain ⟨k, hk⟩ := dd
    have k0 : 0 < k := by
      rcases Int.lt_or_le 0 k with z | z
      · exact z
      · have := Int.mul_nonneg (Int.le_of_lt d0) (show 0 ≤ -k by omega)
        rw [Int.mul_neg] at this; omega
    have big : P < d * d := by
      rcases Int.lt_or_le P (d * d) with z | z
      · exact z
      · exact absurd dp (no d d0 z ⟨k, hk⟩)
    have kd : k < d := by
      rcases Int.lt_or_le k d with z | z
      · exact z
      · have := Int.mul_le_mul_of_nonneg_left z (Int.le_of_lt d0); omega
    have kq : k < q := by
      rcases Int.lt_or_le k q with z | z
      · exact z
      · have a := Int.mul_le_mul_of_nonneg_left z (Int.le_of_lt q0)
        have b := Int.mul_le_mul_of_nonneg_right (show q ≤ d by omega) (Int.le_of_lt k0)
        omega
    have e1 : P / k = d := by rw [hk, Int.mul_comm]; exact Int.mul_ediv_cancel_left d (by omega)
    have := S.low k k0 kq ⟨d, by rw [hk, Int.mul_comm]⟩ (by rw [e1]; exact dp)
    omega⟩
/-- Combinations of two lists of one period. -/
theorem cb_ca {P : Int} {A B : List Sp} (P0 : 0 < P) (a : InP P A) (b : InP P B) (k : Int) : cbL k A B = caL (fun x => kpB k (hsP P A x) (hsP P B x)) 0 P := by
  obtain ⟨cc, cm, -⟩ := cb_spec k A B
  refine ca_eq cc fun x => ?_
  rw [cm]
  by_cases y : 0 ≤ x ∧ x < P
  · rw [decide_eq_true y.1, decide_eq_true y.2, hs_in y.1 y.2, hs_in y.1 y.2]; rfl
  · have o : ∀ {L : List Sp}, InP P L → inB L x = false := fun {L} i => by rw [← Bool.not_eq_true]; intro q; exact y (in_out i q)
    rw [o a, o b, kp_no]
    by_cases t : 0 ≤ x
    · rw [decide_eq_false (show ¬ x < P by omega), Bool.and_false, Bool.false_and]
    · rw [decide_eq_false t]; rfl
end Go.Proofs.Ytaikeclfmmnelaa
/- Periodic sets: spread lists, windows, counts, the next number. No program is mentioned. -/
namespace Go.Proofs.Ytaikeclfmmnelaa

open Go.RowKit

set_option linter.unusedVariables false

/-- A list moved by a number, and clipped to a span: what is appended for one period (ends that touch are joined). -/
theorem add_in {R : List Sp} {s : Sp} (c : Cn R) (b : ∀ q, q ∈ R → q.2 ≤ s.1) (h : s.1 < s.2) (x : Int) : inB (addL R s) x = (inB R x || (decide (s.1 ≤ x) && decide (x < s.2))) := (add_ok c b h).2.1 x
/-- A list that is built span by span: canonical, with these numbers so far, and no end behind e. -/
structure Blt (f : Int → Bool) (a e : Int) (R : List Sp) : Prop where
  cn : Cn R
  mem : ∀ x, inB R x = (decide (a ≤ x) && decide (x < e) && f x)
  low : ∀ q, q ∈ R → q.2 ≤ e
theorem Blt.eq {f : Int → Bool} {a e : Int} {R : List Sp} (h : Blt f a e R) : R = caL f a e := ca_eq h.cn h.mem
theorem blt_start (f : Int → Bool) (a : Int) : Blt f a a [] := ⟨trivial, fun x => by
  show false = _
  by_cases z : a ≤ x
  · rw [decide_eq_false (show ¬ x < a by omega), Bool.and_false, Bool.false_and]
  · rw [decide_eq_false z]; rfl, fun q hq => by cases hq⟩
/-- Nothing fits up to a later place. -/
theorem Blt.skip {f : Int → Bool} {a e e' : Int} {R : List Sp} (h : Blt f a e R) (le : e ≤ e') (no : ∀ x, a ≤ x → e ≤ x → x < e' → f x = false) : Blt f a e' R :=
  ⟨h.cn, fun x => by
    rw [h.mem]
    by_cases y : a ≤ x
    · by_cases z : x < e
      · rw [decide_eq_true z, decide_eq_true (show x < e' by omega)]
      · rw [decide_eq_false z, Bool.and_false, Bool.false_and]
        by_cases t : x < e'
        · rw [no x y (by omega) t, Bool.and_false]
        · rw [decide_eq_false t, Bool.and_false, Bool.false_and]
    · rw [decide_eq_false y]; rfl, fun q hq => by have := h.low q hq; omega⟩
/-- One span more, from e on or behind it, in which all fits, and nothing between. -/
theorem Blt.add {f : Int → Bool} {a e : Int} {R : List Sp} (h : Blt f a e R) (s : Sp) (ae : a ≤ e) (l : e ≤ s.1) (lt : s.1 < s.2) (no : ∀ x, e ≤ x → x < s.1 → f x = false) (yes : ∀ x, s.1 ≤ x → x < s.2 → f x = true) : Blt f a s.2 (addL R s) := by
  have h1 := h.skip l (fun x _ x0 x1 => no x x0 x1)
  obtain ⟨c, m, -, b⟩ := add_ok (s := s) h1.cn (fun q hq => h1.low q hq) lt
  refine ⟨c, fun x => ?_, b⟩
  rw [m, h1.mem]
  by_cases y : s.1 ≤ x
  · rw [decide_eq_true y, decide_eq_false (show ¬ x < s.1 by omega), Bool.and_false, Bool.false_and, Bool.false_or, Bool.true_and, decide_eq_true (show a ≤ x by omega), Bool.true_and]
    by_cases z : x < s.2
    · rw [decide_eq_true z, yes x y z]; rfl
    · rw [decide_eq_false z]; rfl
  · rw [decide_eq_false y, Bool.false_and, Bool.or_false, decide_eq_true (show x < s.1 by omega), decide_eq_true (show x < s.2 by omega)]
/-- How many numbers of a set lie below x. -/
def blV (P : Int) (L : List Sp) (x : Int) : Int := (x / P) * msL L + rkL L (x % P)
theorem bl_step {P : Int} {L : List Sp} (P0 : 0 < P) (c : Cn L) (i : InP P L) (x : Int) : blV P L (x + 1) = blV P L x + (if hsP P L x then 1 else 0) := by
  have m0 := Int.emod_nonneg x (show P ≠ 0 by omega)
  have m1 := Int.emod_lt_of_pos x P0
  have dm := Int.emod_add_mul_ediv x P
  unfold blV hsP
  by_cases z : x % P + 1 < P
  · have e1 : (x + 1) / P = x / P ∧ (x + 1) % P = x % P + 1 := (Int.ediv_emod_unique P0).2 ⟨by omega, by omega, z⟩
    rw [e1.1, e1.2, rk_step c]; omega
  · have e1 : (x + 1) / P = x / P + 1 ∧ (x + 1) % P = 0 := (Int.ediv_emod_unique P0).2 ⟨by rw [Int.mul_add, Int.mul_one]; omega, by omega, P0⟩
    have r0 : rkL L 0 = 0 := rk_low (fun p hp => ⟨(i p hp).1, c.lt p hp⟩)
    have r1 : rkL L P = msL L := rk_high (fun p hp => (i p hp).2)
    have r2 := rk_step c (x % P)
    rw [show x % P + 1 = P by omega, r1] at r2
    rw [e1.1, e1.2, r0, Int.add_mul, Int.one_mul, r2]; omega
theorem bl_zero {P : Int} {L : List Sp} (P0 : 0 < P) (c : Cn L) (i : InP P L) : blV P L 0 = 0 := by
  unfold blV
  rw [Int.zero_ediv, Int.zero_emod, Int.zero_mul, rk_low (fun p hp => ⟨(i p hp).1, c.lt p hp⟩)]; rfl
/-- A function whose steps are known. -/
theorem steps {g : Int → Int} {f : Int → Bool} (h : ∀ x, g (x + 1) = g x + (if f x then 1 else 0)) (a : Int) : ∀ n : Nat, g (a + n) - g a = msL (caN f a n)
  | 0 => by show g (a + ((0 : Nat) : Int)) - g a = 0; rw [show a + ((0 : Nat) : Int) = a by omega]; omega
  | n + 1 => by
    have ih := steps h a n
    have hn := h (a + n)
    rw [show a + (n : Int) + 1 = a + ((n + 1 : Nat) : Int) by omega] at hn
    rw [caN]
    have add_ms : ∀ (R : List Sp) (s : Sp), msL (addL R s) = msL R + (s.2 - s.1) := fun R s => by
      have app : ∀ (A B : List Sp), msL (A ++ B) = msL A + msL B := fun A B => by
        induction A with
        | nil => show msL B = 0 + msL B; omega
        | cons p A ih => show (p.2 - p.1) + msL (A ++ B) = (p.2 - p.1) + msL A + msL B; omega
      rcases snoc_cases R with rfl | ⟨R, q, rfl⟩
      · rw [add_nil]; show (s.2 - s.1) + 0 = 0 + (s.2 - s.1); omega
      · rw [add_snoc]
        split
        · rw [app, app]; show msL R + ((s.2 - q.1) + 0) = msL R + ((q.2 - q.1) + 0) + (s.2 - s.1); omega
        · rw [app]; show msL (R ++ [q]) + ((s.2 - s.1) + 0) = _; omega
    by_cases z : f (a + n) = true
    · rw [if_pos z] at hn ⊢
      rw [add_ms]
      show _ = msL (caN f a n) + (a + n + 1 - (a + n)); omega
    · rw [if_neg z] at hn ⊢
      omega
/-- A count is the measure of the window. -/
theorem bl_ms {P : Int} {L : List Sp} (P0 : 0 < P) (c : Cn L) (i : InP P L) {a b : Int} (ab : a ≤ b) : blV P L b - blV P L a = msL (caL (hsP P L) a b) := by
  have := steps (bl_step P0 c i) a (b - a).toNat
  rw [show a + ((b - a).toNat : Int) = b by omega] at this
  exact this
theorem bl_turn {P : Int} {L : List Sp} (P0 : 0 < P) (a : Int) : blV P L (a + P) - blV P L a = msL L := by
  unfold blV
  rw [Int.add_ediv_of_dvd_right (Int.dvd_refl P), Int.ediv_self (by omega), Int.add_emod_right, Int.add_mul]
  omega
/-- A set and its complement have all numbers. -/
theorem bl_not {P Q : Int} {L M : List Sp} (P0 : 0 < P) (Q0 : 0 < Q) (c : Cn L) (i : InP P L) (c' : Cn M) (i' : InP Q M) (h : ∀ x, hsP Q M x = !hsP P L x) {a b : Int} (ab : a ≤ b) : (blV P L b - blV P L a) + (blV Q M b - blV Q M a) = b - a := by
  have s := steps (g := fun x => blV P L x + blV Q M x - x) (f := fun _ => false) (fun x => by
    show blV P L (x + 1) + blV Q M (x + 1) - (x + 1) = blV P L x + blV Q M x - x + 0
    have a1 := bl_step P0 c i x
    have a2 := bl_step Q0 c' i' x
    rw [h] at a2
    cases k : hsP P L x
    · rw [k] at a1 a2; rw [a1, a2]; simp; omega
    · rw [k] at a1 a2; rw [a1, a2]; simp; omega) a (b - a).toNat
  rw [show a + ((b - a).toNat : Int) = b by omega] at s
  have e : ∀ n, caN (fun _ => false) a n = [] := fun n => by
    induction n with
    | zero => rfl
    | succ n ih => rw [caN, if_neg (by simp), ih]
  rw [e] at s
  have s' : (blV P L b + blV Q M b - b) - (blV P L a + blV Q M a - a) = 0 := s
  omega
/-- The next number. -/
def nxV (P : Int) (L : List Sp) (x : Int) : Int := if (nextL L (x % P)).2 then x + ((nextL L (x % P)).1 - x % P) else x + P - x % P + (L.getD 0 (0, 0)).1
theorem next_least : ∀ {L : List Sp} {x y : Int}, Cn L → (nextL L x).2 = true → x ≤ y → y < (nextL L x).1 → inB L y = false
  | [], _, _, _, h, _, _ => by cases h
  | p :: L, x, y, c, h, a, b => by
    rw [nextL] at h b
    by_cases z : x < p.2
    · rw [if_pos z] at b
      by_cases t : x < p.1
      · rw [if_pos t] at b
        replace b : y < p.1 := b
        have := c.1
        rw [cn_head c, if_pos (by omega), decide_eq_false (by omega)]
      · rw [if_neg t] at b
        replace b : y < x := b
        omega
    · rw [if_neg z] at h b
      rw [cn_head c, if_neg (by omega)]
      exact next_least c.2.2 h a b
theorem nx_ok {P : Int} {L : List Sp} (P0 : 0 < P) (c : Cn L) (i : InP P L) (ln : Ln L) (ne : L ≠ []) (x : Int) : x ≤ nxV P L x ∧ nxV P L x - x < P ∧ hsP P L (nxV P L x) = true ∧ ∀ y, x ≤ y → y < nxV P L x → hsP P L y = false := by
  have m0 := Int.emod_nonneg x (show P ≠ 0 by omega)
  have m1 := Int.emod_lt_of_pos x P0
  have dm := Int.emod_add_mul_ediv x P
  have at' : ∀ t, 0 ≤ t → t < P → hsP P L (x - x % P + t) = inB L t := fun t t0 t1 => by
    unfold hsP
    rw [show x - x % P + t = t + P * (x / P) by omega, Int.add_mul_emod_self_left, Int.emod_eq_of_lt t0 t1]
  unfold nxV
  cases k : (nextL L (x % P)).2
  · rw [if_neg (by simp)]
    obtain ⟨-, e2, e3⟩ := next_no c k
    obtain ⟨p, M, rfl⟩ : ∃ p M, L = p :: M := by
      cases L with
      | nil => exact absurd rfl ne
      | cons p M => exact ⟨p, M, rfl⟩
    rw [getD_zero]
    have hp := i p List.mem_cons_self
    have lt := c.1
    -- every span ends at the remainder or before it
    have all : ∀ y, x % P ≤ y → inB (p :: M) y = false := fun y hy => by
      have mono : ∀ n : Nat, rkL (p :: M) (x % P) ≤ rkL (p :: M) (x % P + n) := fun n => by
        induction n with
        | zero => rw [show x % P + ((0 : Nat) : Int) = x % P by omega]; exact Int.le_refl _
        | succ n ih =>
          have := rk_step c (x % P + n)
          rw [show x % P + (n : Int) + 1 = x % P + ((n + 1 : Nat) : Int) by omega] at this
          rw [this]; split <;> omega
      rw [← Bool.not_eq_true]; intro q
      have s := rk_lt c ln q
      have := mono (y - x % P).toNat
      rw [show x % P + ((y - x % P).toNat : Int) = y by omega] at this
      omega
    have first : ∀ y, y < p.1 → inB (p :: M) y = false := fun y hy => by
      rw [cn_head c, if_pos (by omega), decide_eq_false (by omega)]
    have pr : p.1 < x % P := by
      rcases Int.lt_or_le p.1 (x % P) with z | z
      · exact z
      · have := all p.1 z
        rw [cn_head c, if_pos lt, decide_eq_true (Int.le_refl _)] at this; cases this
    have turn : ∀ t, 0 ≤ t → t < P → hsP P (p :: M) (x + P - x % P + t) = inB (p :: M) t := fun t t0 t1 => by
      rw [← at' t t0 t1, show x + P - x % P + t = (x - x % P + t) + P by omega]; exact hs_per _
    refine ⟨by omega, by omega, ?_, fun y y0 y1 => ?_⟩
    · rw [turn p.1 hp.1 (by omega), cn_head c, if_pos lt, decide_eq_true (Int.le_refl _)]
    · by_cases z : y < x + P - x % P
      · have := at' (y - (x - x % P)) (by omega) (by omega)
        rw [show x - x % P + (y - (x - x % P)) = y by omega] at this
        rw [this]; exact all _ (by omega)
      · have := turn (y - (x + P - x % P)) (by omega) (by omega)
        rw [show x + P - x % P + (y - (x + P - x % P)) = y by omega] at this
        rw [this]; exact first _ (by omega)
  · rw [if_pos rfl]
    obtain ⟨e1, e2, e3, e4, e5⟩ := next_yes c ln k
    have io := in_out i e2
    refine ⟨by omega, by omega, ?_, fun y y0 y1 => ?_⟩
    · have := at' (nextL L (x % P)).1 io.1 io.2
      rw [show x - x % P + (nextL L (x % P)).1 = x + ((nextL L (x % P)).1 - x % P) by omega] at this
      rw [this]; exact e2
    · have q := at' (y - (x - x % P)) (by omega) (by omega)
      rw [show x - x % P + (y - (x - x % P)) = y by omega] at q
      rw [q]
      exact next_least c k (by omega) (by omega)
end Go.Proofs.Ytaikeclfmmnelaa
/- Lists of spans: the ends of two lists, merged; the combination of two lists, cut by cut. No program is mentioned. -/
namespace Go.Proofs.Ytaikeclfmmnelaa

open Go.RowKit

set_option linter.unusedVariables false

/-- The ends of spans, one behind the other. -/
def flL : List Sp → List Int
  | [] => []
  | p :: L => p.1 :: p.2 :: flL L
theorem fl_app (A B : List Sp) : flL (A ++ B) = flL A ++ flL B := by
  induction A with
  | nil => rfl
  | cons p A ih => show p.1 :: p.2 :: flL (A ++ B) = _; rw [ih]; rfl
theorem fl_len (A : List Sp) : (flL A).length = 2 * A.length := by
  induction A with
  | nil => rfl
  | cons p A ih => show (flL A).length + 1 + 1 = _; rw [ih, List.length_cons]; omega
theorem fl_mem {A : List Sp} {y : Int} : y ∈ flL A ↔ ∃ p, p ∈ A ∧ (y = p.1 ∨ y = p.2) := by
  induction A with
  | nil => exact ⟨fun h => (by cases h), fun ⟨p, h, _⟩ => (by cases h)⟩
  | cons p A ih =>
    show y ∈ p.1 :: p.2 :: flL A ↔ _
    rw [List.mem_cons, List.mem_cons, ih]
    constructor
    · rintro (h | h | ⟨q, hq, h⟩)
      · exact ⟨p, List.mem_cons_self, .inl h⟩
      · exact ⟨p, List.mem_cons_self, .inr h⟩
      · exact ⟨q, List.mem_cons_of_mem _ hq, h⟩
    · rintro ⟨q, hq, h⟩
      rcases List.mem_cons.1 hq with rfl | hq
      · rcases h with h | h
        · exact .inl h
        · exact .inr (.inl h)
      · exact .inr (.inr ⟨q, hq, h⟩)
abbrev Wsc (l : List Int) : Prop := l.Pairwise (· ≤ ·)
theorem fl_asc : ∀ {A : List Sp}, Cn A → Wsc (flL A)
  | [], _ => List.Pairwise.nil
  | p :: A, c => by
    have ih := fl_asc c.2.2
    have lt := c.1
    refine List.pairwise_cons.2 ⟨fun y hy => ?_, List.pairwise_cons.2 ⟨fun y hy => ?_, ih⟩⟩
    · rcases List.mem_cons.1 hy with rfl | hy
      · omega
      · obtain ⟨q, hq, h⟩ := fl_mem.1 hy
        have := c.2.1 q hq
        have := c.2.2.lt q hq
        rcases h with rfl | rfl <;> omega
    · obtain ⟨q, hq, h⟩ := fl_mem.1 hy
      have := c.2.1 q hq
      have := c.2.2.lt q hq
      rcases h with rfl | rfl <;> omega
/-- Two ascending lists, merged. -/
def mgZ : List Int → List Int → List Int
  | [], y => y
  | a :: x, [] => a :: x
  | a :: x, b :: y => if a ≤ b then a :: mgZ x (b :: y) else b :: mgZ (a :: x) y
termination_by x y => x.length + y.length
theorem mg_right (x : List Int) : mgZ x [] = x := by cases x <;> simp [mgZ]
theorem mgz_mem : ∀ (x y : List Int) (t : Int), t ∈ mgZ x y ↔ t ∈ x ∨ t ∈ y
  | [], y, t => by rw [mgZ]; simp
  | a :: x, [], t => by rw [mgZ]; simp
  | a :: x, b :: y, t => by
    rw [mgZ]
    split
    · rw [List.mem_cons, mgz_mem x (b :: y) t, List.mem_cons (l := x), or_assoc]
    · rw [List.mem_cons, mgz_mem (a :: x) y t, List.mem_cons (a := t) (b := b)]
      constructor
      · rintro (h | h | h)
        · exact .inr (.inl h)
        · exact .inl h
        · exact .inr (.inr h)
      · rintro (h | h | h)
        · exact .inr (.inl h)
        · exact .inl h
        · exact .inr (.inr h)
termination_by x y => x.length + y.length
theorem mgz_asc : ∀ (x y : List Int), Wsc x → Wsc y → Wsc (mgZ x y)
  | [], y, _, h => by rw [mgZ]; exact h
  | a :: x, [], h, _ => by rw [mgZ]; exact h
  | a :: x, b :: y, h, k => by
    rw [mgZ]
    obtain ⟨h1, h2⟩ := List.pairwise_cons.1 h
    obtain ⟨k1, k2⟩ := List.pairwise_cons.1 k
    by_cases z : a ≤ b
    · rw [if_pos z]
      refine List.pairwise_cons.2 ⟨fun t ht => ?_, mgz_asc x (b :: y) h2 k⟩
      rcases (mgz_mem _ _ _).1 ht with q | q
      · exact h1 t q
      · rcases List.mem_cons.1 q with rfl | q
        · exact z
        · have := k1 t q; omega
    · rw [if_neg z]
      refine List.pairwise_cons.2 ⟨fun t ht => ?_, mgz_asc (a :: x) y h k2⟩
      rcases (mgz_mem _ _ _).1 ht with q | q
      · rcases List.mem_cons.1 q with rfl | q
        · omega
        · have := h1 t q; omega
      · exact k1 t q
termination_by x y => x.length + y.length
theorem mgz_len : ∀ (x y : List Int), (mgZ x y).length = x.length + y.length
  | [], y => by rw [mgZ]; simp
  | a :: x, [] => by rw [mgZ]; simp
  | a :: x, b :: y => by
    rw [mgZ]
    split
    · rw [List.length_cons, mgz_len x (b :: y), List.length_cons, List.length_cons]; omega
    · rw [List.length_cons, mgz_len (a :: x) y, List.length_cons, List.length_cons]; omega
termination_by x y => x.length + y.length
theorem dropZ {l : List Int} {k : Nat} (h : k < l.length) : l.drop k = l.getD k 0 :: l.drop (k + 1) := by
  rw [List.drop_eq_getElem_cons h, List.getD_eq_getElem?_getD, List.getElem?_eq_getElem h]; rfl
/-- One number further in the merge. -/
theorem mgz_left {x y : List Int} {i k : Nat} (hi : i < x.length) (h : y.length ≤ k ∨ x.getD i 0 ≤ y.getD k 0) : mgZ (x.drop i) (y.drop k) = x.getD i 0 :: mgZ (x.drop (i + 1)) (y.drop k) := by
  rw [dropZ hi]
  rcases Nat.lt_or_ge k y.length with z | z
  · rw [dropZ z, mgZ, if_pos (h.resolve_left (by omega)), ← dropZ z]
  · rw [List.drop_of_length_le z, mg_right, mg_right]
theorem mgz_right' {x y : List Int} {i k : Nat} (hk : k < y.length) (h : x.length ≤ i ∨ y.getD k 0 < x.getD i 0) : mgZ (x.drop i) (y.drop k) = y.getD k 0 :: mgZ (x.drop i) (y.drop (k + 1)) := by
  rw [dropZ hk]
  rcases Nat.lt_or_ge i x.length with z | z
  · rw [dropZ z, mgZ, if_neg (by have := h.resolve_left (by omega); omega), ← dropZ z]
  · rw [List.drop_of_length_le z, mgZ, mgZ]
/-- All cuts of two lists. -/
def cuts (A B : List Sp) : List Int := mgZ (flL A) (flL B)
theorem wsc_at {l : List Int} (h : Wsc l) {i j : Nat} (hij : i ≤ j) (hj : j < l.length) : l.getD i 0 ≤ l.getD j 0 := by
  rcases Nat.lt_or_eq_of_le hij with z | rfl
  · rw [List.getD_eq_getElem?_getD, List.getD_eq_getElem?_getD, List.getElem?_eq_getElem hj, List.getElem?_eq_getElem (by omega)]
    exact List.pairwise_iff_getElem.1 h i j (by omega) hj z
  · exact Int.le_refl _
theorem cuts_len (A B : List Sp) : (cuts A B).length = 2 * (A.length + B.length) := by unfold cuts; rw [mgz_len, fl_len, fl_len]; omega
/-- Between two cuts that follow one another a list does not change. -/
theorem cut_const {E : List Int} (s : Wsc E) {L : List Sp} (m : ∀ p, p ∈ L → p.1 ∈ E ∧ p.2 ∈ E) {c : Nat} (hc : c + 1 < E.length) {t : Int} (t0 : E.getD c 0 ≤ t) (t1 : t < E.getD (c + 1) 0) : inB L t = inB L (E.getD c 0) := by
  have side : ∀ y, y ∈ E → y ≤ E.getD c 0 ∨ E.getD (c + 1) 0 ≤ y := fun y hy => by
    obtain ⟨j, hj, rfl⟩ := mem_at hy
    rcases Nat.lt_or_ge c j with z | z
    · exact .inr (wsc_at s (by omega) hj)
    · exact .inl (wsc_at s z (by omega))
  rw [Bool.eq_iff_iff, inB_iff, inB_iff]
  constructor
  · rintro ⟨p, hp, a, b⟩
    obtain ⟨m1, m2⟩ := m p hp
    refine ⟨p, hp, ?_, by omega⟩
    rcases side _ m1 with q | q <;> omega
  · rintro ⟨p, hp, a, b⟩
    obtain ⟨m1, m2⟩ := m p hp
    refine ⟨p, hp, by omega, ?_⟩
    rcases side _ m2 with q | q <;> omega
/-- A combination, up to a cut. -/
structure Cmb (k : Int) (A B : List Sp) (e : Int) (R : List Sp) : Prop where
  cn : Cn R
  mem : ∀ t, inB R t = (decide (t < e) && kpB k (inB A t) (inB B t))
  low : ∀ q, q ∈ R → q.2 ≤ e
theorem cmb_start {k : Int} {A B : List Sp} (a : Cn A) (b : Cn B) : Cmb k A B ((cuts A B).getD 0 0) [] := by
  refine ⟨trivial, fun t => ?_, fun q hq => by cases hq⟩
  show false = _
  by_cases z : t < (cuts A B).getD 0 0
  · have lowL : ∀ {L : List Sp}, (∀ p, p ∈ L → p.1 ∈ cuts A B) → inB L t = false := fun {L} m => by
      rw [← Bool.not_eq_true, inB_iff]
      rintro ⟨p, hp, p0, p1⟩
      obtain ⟨j, hj, e⟩ := mem_at (m p hp)
      have := wsc_at (mgz_asc _ _ (fl_asc a) (fl_asc b)) (Nat.zero_le j) hj
      unfold cuts at *
      omega
    rw [lowL (fun p hp => (mgz_mem _ _ _).2 (.inl (fl_mem.2 ⟨p, hp, .inl rfl⟩))), lowL (fun p hp => (mgz_mem _ _ _).2 (.inr (fl_mem.2 ⟨p, hp, .inl rfl⟩))), kp_no, Bool.and_false]
  · rw [decide_eq_false z]; rfl
theorem cmb_same {k : Int} {A B : List Sp} {e e' : Int} {R : List Sp} (S : Cmb k A B e R) (h : e = e') : Cmb k A B e' R := h ▸ S
/-- To the next cut. -/
theorem cmb_step {k : Int} {A B : List Sp} (a : Cn A) (b : Cn B) {c : Nat} {R : List Sp} (hc : c + 1 < (cuts A B).length) (S : Cmb k A B ((cuts A B).getD c 0) R) (lt : (cuts A B).getD c 0 < (cuts A B).getD (c + 1) 0) :
    (kpB k (inB A ((cuts A B).getD c 0)) (inB B ((cuts A B).getD c 0)) = false → Cmb k A B ((cuts A B).getD (c + 1) 0) R) ∧
    (kpB k (inB A ((cuts A B).getD c 0)) (inB B ((cuts A B).getD c 0)) = true → Cmb k A B ((cuts A B).getD (c + 1) 0) (addL R ((cuts A B).getD c 0, (cuts A B).getD (c + 1) 0))) := by
  have asc : Wsc (cuts A B) := mgz_asc _ _ (fl_asc a) (fl_asc b)
  have mA : ∀ p, p ∈ A → p.1 ∈ cuts A B ∧ p.2 ∈ cuts A B := fun p hp => ⟨(mgz_mem _ _ _).2 (.inl (fl_mem.2 ⟨p, hp, .inl rfl⟩)), (mgz_mem _ _ _).2 (.inl (fl_mem.2 ⟨p, hp, .inr rfl⟩))⟩
  have mB : ∀ p, p ∈ B → p.1 ∈ cuts A B ∧ p.2 ∈ cuts A B := fun p hp => ⟨(mgz_mem _ _ _).2 (.inr (fl_mem.2 ⟨p, hp, .inl rfl⟩)), (mgz_mem _ _ _).2 (.inr (fl_mem.2 ⟨p, hp, .inr rfl⟩))⟩
  have cst : ∀ t, (cuts A B).getD c 0 ≤ t → t < (cuts A B).getD (c + 1) 0 → kpB k (inB A t) (inB B t) = kpB k (inB A ((cuts A B).getD c 0)) (inB B ((cuts A B).getD c 0)) := fun t t0 t1 => by
    rw [cut_const asc mA hc t0 t1, cut_const asc mB hc t0 t1]
  generalize (cuts A B).getD c 0 = e at *
  generalize (cuts A B).getD (c + 1) 0 = e' at *
  constructor
  · intro no
    refine ⟨S.cn, fun t => ?_, fun q hq => by have := S.low q hq; omega⟩
    rw [S.mem]
    by_cases z : t < e
    · rw [decide_eq_true z, decide_eq_true (show t < e' by omega)]
    · rw [decide_eq_false z, Bool.false_and]
      by_cases y : t < e'
      · rw [cst t (by omega) y, no, Bool.and_false]
      · rw [decide_eq_false y, Bool.false_and]
  · intro yes
    obtain ⟨cn, m, -, l⟩ := add_ok (s := (e, e')) S.cn (fun q hq => S.low q hq) lt
    refine ⟨cn, fun t => ?_, l⟩
    rw [m, S.mem]
    show ((decide (t < e) && _) || (decide (e ≤ t) && decide (t < e'))) = _
    by_cases z : t < e
    · rw [decide_eq_true z, decide_eq_true (show t < e' by omega), decide_eq_false (show ¬ e ≤ t by omega), Bool.false_and, Bool.or_false]
    · rw [decide_eq_false z, Bool.false_and, Bool.false_or, decide_eq_true (show e ≤ t by omega), Bool.true_and]
      by_cases y : t < e'
      · rw [cst t (by omega) y, yes, Bool.and_true]
      · rw [decide_eq_false y, Bool.false_and]
theorem cmb_end {k : Int} {A B : List Sp} (a : Cn A) (b : Cn B) {c : Nat} {R : List Sp} (hc : c + 1 = (cuts A B).length ∨ (cuts A B).length = 0) (S : Cmb k A B ((cuts A B).getD c 0) R) : R = cbL k A B := by
  obtain ⟨cc, cm, -⟩ := cb_spec k A B
  refine cn_ext S.cn cc fun t => ?_
  rw [S.mem, cm]
  by_cases z : t < (cuts A B).getD c 0
  · rw [decide_eq_true z, Bool.true_and]
  · rw [decide_eq_false z, Bool.false_and]
    have asc : Wsc (cuts A B) := mgz_asc _ _ (fl_asc a) (fl_asc b)
    have hi : ∀ {L : List Sp}, (∀ p, p ∈ L → p.2 ∈ cuts A B) → inB L t = false := fun {L} m => in_high fun q hq => by
      obtain ⟨j, hj, e⟩ := mem_at (m q hq)
      have h1 := wsc_at asc (show j ≤ (cuts A B).length - 1 by omega) (by omega)
      have h2 : c = (cuts A B).length - 1 := by omega
      rw [h2] at z
      omega
    rw [hi (fun p hp => (mgz_mem _ _ _).2 (.inl (fl_mem.2 ⟨p, hp, .inr rfl⟩))), hi (fun p hp => (mgz_mem _ _ _).2 (.inr (fl_mem.2 ⟨p, hp, .inr rfl⟩))), kp_no]
end Go.Proofs.Ytaikeclfmmnelaa
/- Periodic sets: lists around a circle, the least period by counts of spans, the form. No program is mentioned. -/
namespace Go.Proofs.Ytaikeclfmmnelaa

open Go.RowKit

set_option linter.unusedVariables false

theorem gD {L : List Sp} {k : Nat} (h : k < L.length) : L.getD k (0, 0) = L[k] := by rw [List.getD_eq_getElem?_getD, List.getElem?_eq_getElem h]; rfl
theorem cn_app : ∀ {A B : List Sp}, Cn A → Cn B → (∀ p, p ∈ A → ∀ q, q ∈ B → p.2 < q.1) → Cn (A ++ B)
  | [], _, _, b, _ => b
  | p :: A, B, a, b, h => by
    refine ⟨a.1, fun q hq => ?_, cn_app a.2.2 b fun r hr => h r (List.mem_cons_of_mem _ hr)⟩
    rcases List.mem_append.1 hq with z | z
    · exact a.2.1 q z
    · exact h p (List.mem_cons_self ..) q z
theorem cn_take : ∀ {A : List Sp} (n : Nat), Cn A → Cn (A.take n)
  | [], n, _ => by rw [List.take_nil]; trivial
  | _ :: _, 0, _ => trivial
  | p :: A, n + 1, a => ⟨a.1, fun q hq => a.2.1 q (List.mem_of_mem_take hq), cn_take n a.2.2⟩
theorem cn_drop : ∀ {A : List Sp} (n : Nat), Cn A → Cn (A.drop n)
  | [], n, _ => by rw [List.drop_nil]; trivial
  | _ :: _, 0, a => a
  | _ :: _, n + 1, a => cn_drop n a.2.2
theorem cn_gt : ∀ {L : List Sp} {j k : Nat}, Cn L → j < k → k < L.length → (L.getD j (0, 0)).2 < (L.getD k (0, 0)).1
  | [], j, k, _, _, h => absurd h (Nat.not_lt_zero _)
  | p :: L, 0, k + 1, c, _, h => c.2.1 _ (getD_mem (L := L) (by simpa using h))
  | p :: L, j + 1, k + 1, c, l, h => cn_gt (L := L) (j := j) (k := k) c.2.2 (by omega) (by simpa using h)
/-- A gap parts a list. -/
theorem ca_split {f : Int → Bool} {a b c : Int} (ab : a ≤ b) (bc : b ≤ c) (no : f (b - 1) = false) : caL f a c = caL f a b ++ caL f b c := by
  refine (ca_eq (cn_app (ca_cn f a b) (ca_cn f b c) fun p hp q hq => ?_) fun x => ?_).symm
  · have e := ca_ends f a b p hp
    have e' := ca_ends f b c q hq
    have lt := (ca_cn f a b).lt p hp
    rcases Int.lt_or_eq_of_le e.2 with z | z
    · omega
    · have i : inB (caL f a b) (b - 1) = true := inB_iff.2 ⟨p, hp, by omega, by omega⟩
      rw [ca_in, no, Bool.and_false] at i; cases i
  · rw [inB_app, ca_in, ca_in]
    cases f x
    · simp
    · by_cases y : x < b
      · rw [decide_eq_true y, decide_eq_false (show ¬ b ≤ x by omega), decide_eq_true (show x < c by omega)]; simp
      · rw [decide_eq_false y, decide_eq_true (show b ≤ x by omega), decide_eq_true (show a ≤ x by omega)]; simp
theorem sh_in' (L : List Sp) (n x : Int) : inB (shL L n) x = inB L (x - n) := by
  have := sh_in L n (x - n); rwa [show x - n + n = x by omega] at this
theorem sh_app (A B : List Sp) (n : Int) : shL (A ++ B) n = shL A n ++ shL B n := by simp [shL]
/-- A list moves with its set. -/
theorem ca_shift {f : Int → Bool} {n : Int} (per : Per f n) (a b : Int) : caL f (a + n) (b + n) = shL (caL f a b) n := by
  refine (ca_eq (sh_cn (ca_cn f a b)) fun x => ?_).symm
  rw [sh_in', ca_in, decide_eq_decide.2 (show a ≤ x - n ↔ a + n ≤ x by omega), decide_eq_decide.2 (show x - n < b ↔ x < b + n by omega)]
  have := per (x - n); rw [show x - n + n = x by omega] at this; rw [this]
/-- A list, and its copies moved by d, 2 d, .. -/
def rpA (A : List Sp) (d : Int) : Nat → List Sp
  | 0 => []
  | t + 1 => A ++ shL (rpA A d t) d
theorem rp_len (A : List Sp) (d : Int) : ∀ t, (rpA A d t).length = t * A.length
  | 0 => by simp [rpA]
  | t + 1 => by rw [rpA, List.length_append, sh_len, rp_len A d t, Nat.succ_mul]; omega
theorem rp_pre (A : List Sp) (d : Int) : ∀ t, ∃ S, rpA A d (t + 1) = rpA A d t ++ S
  | 0 => ⟨_, (List.nil_append _).symm⟩
  | t + 1 => by
    obtain ⟨S, e⟩ := rp_pre A d t
    refine ⟨shL S d, ?_⟩
    rw [rpA, e, sh_app, ← List.append_assoc, ← e]; rfl
theorem sh_getD (L : List Sp) (n : Int) {k : Nat} (hk : k < L.length) : (shL L n).getD k (0, 0) = ((L.getD k (0, 0)).1 + n, (L.getD k (0, 0)).2 + n) := by
  rw [gD (by rw [sh_len]; exact hk), gD hk]
  simp [shL]
theorem app_left (A B : List Sp) {k : Nat} (h : k < A.length) : (A ++ B).getD k (0, 0) = A.getD k (0, 0) := by
  rw [gD (by rw [List.length_append]; omega), gD h, List.getElem_append_left h]
theorem app_right (A B : List Sp) (k : Nat) : (A ++ B).getD (A.length + k) (0, 0) = B.getD k (0, 0) := by
  rw [List.getD_eq_getElem?_getD, List.getD_eq_getElem?_getD, List.getElem?_append_right (by omega), Nat.add_sub_cancel_left]
/-- Each span of such a list is the one before by a copy, moved. -/
theorem rp_shift (A : List Sp) (d : Int) (t i : Nat) (h : i < t * A.length) : (rpA A d (t + 1)).getD (i + A.length) (0, 0) = (((rpA A d (t + 1)).getD i (0, 0)).1 + d, ((rpA A d (t + 1)).getD i (0, 0)).2 + d) := by
  obtain ⟨S, e⟩ := rp_pre A d t
  have hl := rp_len A d t
  have p : (rpA A d (t + 1)).getD i (0, 0) = (rpA A d t).getD i (0, 0) := by rw [e, app_left _ _ (by omega)]
  rw [p, rpA, Nat.add_comm i, app_right, sh_getD _ _ (by omega)]
theorem rp_in {A : List Sp} {o d : Int} (d0 : 0 < d) (h : ∀ q, q ∈ A → o ≤ q.1 ∧ q.2 ≤ o + d) : ∀ (t : Nat) (x : Int), inB (rpA A d t) x = (decide (o ≤ x) && decide (x < o + t * d) && inB A (o + (x - o) % d))
  | 0, x => by
    show false = _
    by_cases z : o ≤ x
    · rw [decide_eq_false (show ¬ x < o + ((0 : Nat) : Int) * d by rw [show ((0 : Nat) : Int) * d = 0 by simp]; omega), Bool.and_false, Bool.false_and]
    · rw [decide_eq_false z]; rfl
  | t + 1, x => by
    rw [rpA, inB_app, sh_in', rp_in d0 h t]
    have out : ∀ y, ¬ (o ≤ y ∧ y < o + d) → inB A y = false := fun y hy => by
      rw [← Bool.not_eq_true]; intro i
      obtain ⟨q, hq, a, b⟩ := inB_iff.1 i
      have := h q hq; omega
    have e : ((t + 1 : Nat) : Int) * d = t * d + d := by rw [Int.natCast_succ, Int.add_mul, Int.one_mul]
    rw [e]
    have tn : (0 : Int) ≤ t * d := Int.mul_nonneg (by omega) (by omega)
    generalize (t : Int) * d = T at tn ⊢
    have em : (x - d - o) % d = (x - o) % d := by rw [show x - d - o = x - o - d by omega, Int.sub_emod_right]
    rw [em]
    by_cases z : o ≤ x
    · by_cases y : x < o + d
      · rw [decide_eq_true z, decide_eq_false (show ¬ o ≤ x - d by omega), decide_eq_true (show x < o + (T + d) by omega), Int.emod_eq_of_lt (show 0 ≤ x - o by omega) (by omega), show o + (x - o) = x by omega]
        simp
      · rw [out x (by omega), decide_eq_true z, decide_eq_true (show o ≤ x - d by omega), decide_eq_decide.2 (show x - d < o + T ↔ x < o + (T + d) by omega), Bool.false_or, show o + (x - o) % d = o + (x - o) % d from rfl]
    · rw [out x (by omega), decide_eq_false z, decide_eq_false (show ¬ o ≤ x - d by omega)]; simp
/-- A list around a circle: what a period of a set looks like from the first span that begins in it. -/
structure Crc (P : Int) (f : Int → Bool) (L : List Sp) : Prop where
  P0 : 0 < P
  cn : Cn L
  ne : 0 < L.length
  lo : ∀ q, q ∈ L → 0 ≤ q.1 ∧ q.1 < P
  hi : ∀ q, q ∈ L → (L.getD 0 (0, 0)).1 ≤ q.1 ∧ q.2 < (L.getD 0 (0, 0)).1 + P
  mem : ∀ x, f x = inB L ((L.getD 0 (0, 0)).1 + (x - (L.getD 0 (0, 0)).1) % P)
section

variable {P : Int} {f : Int → Bool} {L : List Sp}
theorem Crc.o0 (h : Crc P f L) : 0 ≤ (L.getD 0 (0, 0)).1 ∧ (L.getD 0 (0, 0)).1 < P := h.lo _ (getD_mem h.ne)
theorem Crc.per (h : Crc P f L) : Per f P := fun x => by
  rw [h.mem, h.mem, show x + P - (L.getD 0 (0, 0)).1 = x - (L.getD 0 (0, 0)).1 + P by omega, Int.add_emod_right]
theorem Crc.gap (h : Crc P f L) : f ((L.getD 0 (0, 0)).1 - 1) = false := by
  have P0 := h.P0
  rw [h.mem, show (L.getD 0 (0, 0)).1 - 1 - (L.getD 0 (0, 0)).1 = -1 by omega]
  have e : (-1 : Int) % P = P - 1 := by
    have := Int.add_emod_right (-1) P
    rw [← this, Int.emod_eq_of_lt (by omega) (by omega)]; omega
  rw [e, ← Bool.not_eq_true]
  intro i
  obtain ⟨q, hq, a, b⟩ := inB_iff.1 i
  have := h.hi q hq; omega
theorem Crc.self (h : Crc P f L) : L = caL f (L.getD 0 (0, 0)).1 ((L.getD 0 (0, 0)).1 + P) := by
  refine ca_eq h.cn fun x => ?_
  generalize ho : (L.getD 0 (0, 0)).1 = o
  have H := h.hi; rw [ho] at H
  have M := h.mem; rw [ho] at M
  by_cases z : o ≤ x ∧ x < o + P
  · rw [decide_eq_true z.1, decide_eq_true z.2, M, Int.emod_eq_of_lt (by omega) (by omega), show o + (x - o) = x by omega]; rfl
  · have e : inB L x = false := by
      rw [← Bool.not_eq_true]; intro i
      obtain ⟨q, hq, a, b⟩ := inB_iff.1 i
      have := H q hq; omega
    rw [e]
    by_cases y : o ≤ x
    · rw [decide_eq_false (show ¬ x < o + P by omega), Bool.and_false, Bool.false_and]
    · rw [decide_eq_false y]; rfl
/-- With a period that divides P, the list is one part of it, and its copies. -/
theorem Crc.parts (h : Crc P f L) {d : Int} {t : Nat} (d0 : 0 < d) (e : P = t * d) (per : Per f d) : L = rpA (caL f (L.getD 0 (0, 0)).1 ((L.getD 0 (0, 0)).1 + d)) d t := by
  have g := h.gap
  have s := h.self
  generalize (L.getD 0 (0, 0)).1 = o at g s ⊢
  rw [e] at s
  rw [s]
  clear s e
  have go : ∀ t : Nat, caL f o (o + t * d) = rpA (caL f o (o + d)) d t := by
    intro t
    induction t with
    | zero => rw [show o + ((0 : Nat) : Int) * d = o by simp]; unfold caL; rw [Int.sub_self]; rfl
    | succ t ih =>
      have en : ((t + 1 : Nat) : Int) * d = t * d + d := by rw [Int.natCast_succ, Int.add_mul, Int.one_mul]
      have tn : (0 : Int) ≤ t * d := Int.mul_nonneg (by omega) (by omega)
      have gd : f (o + d - 1) = false := by
        have := per (o - 1); rw [show o - 1 + d = o + d - 1 by omega, g] at this; exact this
      rw [en, ca_split (b := o + d) (by omega) (by omega) gd, rpA, show o + ((t : Int) * d + d) = (o + t * d) + d by omega, ca_shift per, ih]
  exact go t
/-- Equally many spans moved by d become one another. -/
def ShO (L : List Sp) (c : Nat) (d : Int) : Prop := ∀ i, i + c < L.length → L.getD (i + c) (0, 0) = ((L.getD i (0, 0)).1 + d, (L.getD i (0, 0)).2 + d)
theorem Crc.count (h : Crc P f L) {d : Int} {t : Nat} (d0 : 0 < d) (e : P = t * d) (per : Per f d) : L.length = t * (caL f (L.getD 0 (0, 0)).1 ((L.getD 0 (0, 0)).1 + d)).length := by
  have := congrArg List.length (h.parts d0 e per)
  rwa [rp_len] at this
theorem Crc.shift (h : Crc P f L) {d : Int} {t : Nat} (d0 : 0 < d) (e : P = t * d) (per : Per f d) : ShO L (caL f (L.getD 0 (0, 0)).1 ((L.getD 0 (0, 0)).1 + d)).length d := by
  intro i hi
  have n := h.count d0 e per
  have p := h.parts d0 e per
  generalize caL f (L.getD 0 (0, 0)).1 ((L.getD 0 (0, 0)).1 + d) = A at n p hi ⊢
  cases t with
  | zero => rw [Nat.zero_mul] at n; omega
  | succ t =>
    rw [Nat.succ_mul] at n
    rw [p]
    exact rp_shift A d t i (by omega)
theorem list_ext {A B : List Sp} (hl : A.length = B.length) (h : ∀ i, i < A.length → A.getD i (0, 0) = B.getD i (0, 0)) : A = B := by
  refine List.ext_getElem hl fun i h1 h2 => ?_
  have := h i h1
  rwa [gD h1, gD h2] at this
theorem take_getD (L : List Sp) {n i : Nat} (h : i < n) : (L.take n).getD i (0, 0) = L.getD i (0, 0) := by
  rw [List.getD_eq_getElem?_getD, List.getD_eq_getElem?_getD, List.getElem?_take, if_pos h]
theorem drop_getD (L : List Sp) (n i : Nat) : (L.drop n).getD i (0, 0) = L.getD (n + i) (0, 0) := by
  rw [List.getD_eq_getElem?_getD, List.getD_eq_getElem?_getD, List.getElem?_drop]
/-- Such a list is one part, and its copies. -/
theorem sho_parts : ∀ (t c : Nat) (L : List Sp) (d : Int), L.length = t * c → ShO L c d → L = rpA (L.take c) d t
  | 0, c, L, d, n, s => by rw [Nat.zero_mul] at n; exact List.eq_nil_of_length_eq_zero n
  | t + 1, c, L, d, n, s => by
    rw [Nat.succ_mul] at n
    have e : L.drop c = shL (L.take (t * c)) d := by
      refine list_ext (by rw [List.length_drop, sh_len, List.length_take]; omega) fun i hi => ?_
      rw [List.length_drop] at hi
      rw [drop_getD, sh_getD _ _ (by rw [List.length_take]; omega), take_getD _ (by omega), Nat.add_comm c, s i (by omega)]
    have ih := sho_parts t c (L.take (t * c)) d (by rw [List.length_take]; omega) fun i hi => by
      rw [List.length_take] at hi
      rw [take_getD _ (by omega), take_getD _ (by omega), s i (by omega)]
    cases t with
    | zero =>
      rw [Nat.zero_mul] at n e
      have e' : L.take c = L := List.take_of_length_le (by omega)
      rw [e']; show L = L ++ []; rw [List.append_nil]
    | succ t =>
      rw [List.take_take, Nat.min_eq_left (by rw [Nat.succ_mul]; omega)] at ih
      rw [rpA, ← ih, ← e, List.take_append_drop]
theorem sho_per (h : Crc P f L) {d : Int} {t c : Nat} (d0 : 0 < d) (t2 : 2 ≤ t) (e : P = t * d) (n : L.length = t * c) (s : ShO L c d) : Per f d := by
  have p := sho_parts t c L d n s
  have c0 : 0 < c := by
    rcases Nat.eq_zero_or_pos c with z | z
    · subst z; rw [Nat.mul_zero] at n; have := h.ne; omega
    · exact z
  have n2 : c + c ≤ L.length := by rw [n]; have := Nat.mul_le_mul_right c t2; omega
  have s0 := s 0 (by omega)
  rw [Nat.zero_add] at s0
  have H := h.hi; have M := h.mem; have c' := h.cn
  generalize ho : (L.getD 0 (0, 0)).1 = o at *
  have b : ∀ q, q ∈ L.take c → o ≤ q.1 ∧ q.2 ≤ o + d := fun q hq => by
    refine ⟨(H q (List.mem_of_mem_take hq)).1, ?_⟩
    obtain ⟨j, hj, rfl⟩ := mem_getD hq
    rw [List.length_take] at hj
    rw [take_getD _ (by omega)]
    have g : (L.getD (c - 1) (0, 0)).2 < (L.getD c (0, 0)).1 := by
      have := gpB_at.1 (gp_of_cn c') (c - 1) (by omega)
      rwa [show c - 1 + 1 = c by omega] at this
    have g2 : (L.getD j (0, 0)).2 ≤ (L.getD (c - 1) (0, 0)).2 := by
      rcases Nat.lt_or_ge j (c - 1) with z | z
      · have := cn_gt c' z (show c - 1 < L.length by omega)
        have := c'.lt _ (getD_mem (show c - 1 < L.length by omega)); omega
      · rw [show j = c - 1 by omega]; exact Int.le_refl _
    rw [s0] at g
    have g : (L.getD (c - 1) (0, 0)).2 < o + d := g
    omega
  have r : ∀ x, f x = inB (L.take c) (o + (x - o) % d) := fun x => by
    have m0 := Int.emod_nonneg (x - o) (show P ≠ 0 by have := h.P0; omega)
    have m1 := Int.emod_lt_of_pos (x - o) h.P0
    rw [M, p, rp_in d0 b, ← p, decide_eq_true (show o ≤ o + (x - o) % P by omega), decide_eq_true (show o + (x - o) % P < o + t * d by rw [← e]; omega), show o + (x - o) % P - o = (x - o) % P by omega]
    rw [Int.emod_emod_of_dvd _ (show d ∣ P from ⟨t, by rw [e, Int.mul_comm]⟩)]; rfl
  intro x
  rw [r, r, show x + d - o = x - o + d by omega, Int.add_emod_right]
end

end Go.Proofs.Ytaikeclfmmnelaa
/- Periodic sets: what is laid around a circle, its least period and its form. No program is mentioned. -/
namespace Go.Proofs.Ytaikeclfmmnelaa

open Go.RowKit

set_option linter.unusedVariables false

/-- A list whose spans begin in the period, and the set that it means. -/
structure Cir (P : Int) (f : Int → Bool) (L : List Sp) : Prop where
  P0 : 0 < P
  cn : Cn L
  lo : ∀ q, q ∈ L → 0 ≤ q.1 ∧ q.1 < P ∧ q.2 ≤ 2 * P
  mem : ∀ x, f x = (inB L (x % P) || inB L (x % P + P))
theorem cir_in {P : Int} {L : List Sp} (P0 : 0 < P) (c : Cn L) (i : InP P L) : Cir P (hsP P L) L :=
  ⟨P0, c, fun q hq => by have := i q hq; have := c.lt q hq; omega, fun x => by
    have m0 := Int.emod_nonneg x (show P ≠ 0 by omega)
    have e : inB L (x % P + P) = false := by
      rw [← Bool.not_eq_true]; intro q; have := in_out i q; omega
    rw [e, Bool.or_false]; rfl⟩
/-- The first span is covered by what the last one is made. -/
theorem cir_step {P : Int} {f : Int → Bool} {p q : Sp} {R : List Sp} (h : Cir P f (p :: (R ++ [q]))) (t : p.1 + P ≤ q.2) : Cir P f (R ++ [(q.1, if q.2 < p.2 + P then p.2 + P else q.2)]) := by
  obtain ⟨P0, cn, lo, mem⟩ := h
  obtain ⟨cR, bR, ltq⟩ := cn_last cn.2.2
  have lp := lo p (List.mem_cons_self ..)
  have lq := lo q (List.mem_cons_of_mem _ (List.mem_append_right _ (List.mem_singleton.2 rfl)))
  have ltp := cn.1
  have pq := cn.2.1 q (List.mem_append_right _ (List.mem_singleton.2 rfl))
  generalize hy : (if q.2 < p.2 + P then p.2 + P else q.2) = y
  have hy' : y = p.2 + P ∧ q.2 < p.2 + P ∨ y = q.2 ∧ p.2 + P ≤ q.2 := by
    rw [← hy]; split
    · left; exact ⟨rfl, by assumption⟩
    · right; exact ⟨rfl, by omega⟩
  refine ⟨P0, cn_snoc cR bR (by show q.1 < y; omega), fun r hr => ?_, fun x => ?_⟩
  · rcases List.mem_append.1 hr with z | z
    · exact lo r (List.mem_cons_of_mem _ (List.mem_append_left _ z))
    · rw [List.mem_singleton.1 z]
      refine ⟨lq.1, lq.2.1, ?_⟩
      show y ≤ _
      omega
  · rw [mem]
    have m0 := Int.emod_nonneg x (show P ≠ 0 by omega)
    have m1 := Int.emod_lt_of_pos x P0
    generalize x % P = r at m0 m1
    rw [inB_cons, inB_cons, inB_app, inB_app, inB_app, inB_app, inB_one, inB_one, inB_one, inB_one]
    rw [show (decide (p.1 ≤ r + P) && decide (r + P < p.2)) = false by rw [decide_eq_false (show ¬ r + P < p.2 by omega), Bool.and_false]]
    show _ = (inB R r || (decide (q.1 ≤ r) && decide (r < y)) || (inB R (r + P) || (decide (q.1 ≤ r + P) && decide (r + P < y))))
    rw [decide_eq_decide.2 (show r < q.2 ↔ r < y by omega), decide_eq_true (show q.1 ≤ r + P by omega), Bool.true_and, Bool.true_and, Bool.false_or]
    generalize inB R r = b1
    generalize inB R (r + P) = b2
    generalize (decide (q.1 ≤ r) && decide (r < y)) = b3
    by_cases z : p.1 ≤ r ∧ r < p.2
    · rw [decide_eq_true z.1, decide_eq_true z.2, decide_eq_true (show r + P < y by omega)]
      cases b1 <;> cases b2 <;> cases b3 <;> rfl
    · have e : (decide (p.1 ≤ r) && decide (r < p.2)) = false := by
        rw [← Bool.not_eq_true, Bool.and_eq_true, decide_eq_true_iff, decide_eq_true_iff]; exact z
      rw [e, Bool.false_or, decide_eq_decide.2 (show r + P < q.2 ↔ r + P < y by omega)]
/-- Nothing, everything, or a list around the circle. -/
def CrV (P : Int) (f : Int → Bool) (Q : Int) (L : List Sp) : Prop := (Q = 1 ∧ L = [] ∧ ∀ x, f x = false) ∨ (Q = 1 ∧ L = [(0, 1)] ∧ ∀ x, f x = true) ∨ (Q = P ∧ Crc P f L)
theorem cir_nil {P : Int} {f : Int → Bool} (h : Cir P f []) : ∀ x, f x = false := fun x => by rw [h.mem]; rfl
theorem cir_all {P : Int} {f : Int → Bool} {L : List Sp} (h : Cir P f L) (ne : 0 < L.length) (t : P ≤ (L.getD 0 (0, 0)).2 - (L.getD 0 (0, 0)).1) : ∀ x, f x = true := fun x => by
  have m0 := Int.emod_nonneg x (show P ≠ 0 by have := h.P0; omega)
  have m1 := Int.emod_lt_of_pos x h.P0
  have hm := getD_mem ne
  have l := h.lo _ hm
  rw [h.mem, Bool.or_eq_true]
  by_cases z : (L.getD 0 (0, 0)).1 ≤ x % P
  · exact Or.inl (inB_iff.2 ⟨_, hm, z, by omega⟩)
  · exact Or.inr (inB_iff.2 ⟨_, hm, by omega, by omega⟩)
theorem cir_crc {P : Int} {f : Int → Bool} {L : List Sp} (h : Cir P f L) (ne : 0 < L.length) (t : (L.getD 0 (0, 0)).2 - (L.getD 0 (0, 0)).1 < P) (e : L.length = 1 ∨ (L.getD (L.length - 1) (0, 0)).2 < (L.getD 0 (0, 0)).1 + P) : Crc P f L := by
  have P0 := h.P0
  have hi : ∀ q, q ∈ L → (L.getD 0 (0, 0)).1 ≤ q.1 ∧ q.2 < (L.getD 0 (0, 0)).1 + P := fun q hq => by
    obtain ⟨j, hj, rfl⟩ := mem_getD hq
    have l0 := h.cn.lt _ (getD_mem ne)
    have lj := h.cn.lt _ (getD_mem hj)
    constructor
    · rcases Nat.eq_zero_or_pos j with z | z
      · rw [z]; exact Int.le_refl _
      · have := cn_gt h.cn z hj; omega
    · rcases e with e | e
      · rw [show j = 0 by omega]; omega
      · rcases Nat.lt_or_ge j (L.length - 1) with z | z
        · have a := cn_gt h.cn z (by omega)
          have b := h.cn.lt _ (getD_mem (show L.length - 1 < L.length by omega))
          omega
        · rw [show j = L.length - 1 by omega]; exact e
  refine ⟨P0, h.cn, ne, fun q hq => ⟨(h.lo q hq).1, (h.lo q hq).2.1⟩, hi, fun x => ?_⟩
  have o0 := h.lo _ (getD_mem ne)
  rw [h.mem]
  generalize (L.getD 0 (0, 0)).1 = o at hi o0
  have out : ∀ y, ¬ (o ≤ y ∧ y < o + P) → inB L y = false := fun y hy => by
    rw [← Bool.not_eq_true]; intro i
    obtain ⟨q, hq, a, b⟩ := inB_iff.1 i
    have := hi q hq; omega
  have m0 := Int.emod_nonneg x (show P ≠ 0 by omega)
  have m1 := Int.emod_lt_of_pos x P0
  have em : (x - o) % P = (x % P - o) % P := by rw [Int.emod_sub_emod]
  rw [em]
  generalize x % P = r at m0 m1
  by_cases z : o ≤ r
  · rw [out (r + P) (by omega), Bool.or_false, Int.emod_eq_of_lt (by omega) (by omega), show o + (r - o) = r by omega]
  · rw [out r (by omega), Bool.false_or]
    have : (r - o) % P = r - o + P := by rw [← Int.add_emod_right, Int.emod_eq_of_lt (by omega) (by omega)]
    rw [this, show o + (r - o + P) = r + P by omega]
theorem CrV.same {P : Int} {f : Int → Bool} {Q : Int} {L : List Sp} (h : CrV P f Q L) (P0 : 0 < P) : 0 < Q := by
  rcases h with ⟨rfl, -⟩ | ⟨rfl, -⟩ | ⟨rfl, c⟩
  · omega
  · omega
  · exact P0
theorem lst_const {P : Int} {f : Int → Bool} {b : Bool} (h : ∀ x, f x = b) : Lst f P 1 := ⟨by omega, Int.one_dvd P, fun x => by rw [h, h], fun e a _ _ => by omega⟩
theorem dvd_nat {P e : Int} (P0 : 0 < P) (e0 : 0 < e) (d : e ∣ P) : ∃ s : Nat, P = s * e ∧ 0 < s := by
  obtain ⟨k, rfl⟩ := d
  have k0 : 0 < k := by
    rcases Int.lt_or_le 0 k with z | z
    · exact z
    · have := Int.mul_nonneg (show 0 ≤ e by omega) (show 0 ≤ -k by omega)
      rw [Int.mul_neg] at this; omega
  exact ⟨k.toNat, by rw [Int.toNat_of_nonneg (by omega), Int.mul_comm], by omega⟩
/-- A period that divides P is found by a number of parts. -/
theorem crc_found {P : Int} {f : Int → Bool} {L : List Sp} (h : Crc P f L) {e : Int} {s : Nat} (e0 : 0 < e) (hs : P = s * e) (s0 : 0 < s) (per : Per f e) : s ≤ L.length ∧ L.length % s = 0 ∧ P % (s : Int) = 0 ∧ ShO L (L.length / s) (P / s) := by
  have n := h.count e0 hs per
  have sh := h.shift e0 hs per
  have ne := h.ne
  generalize (caL f (L.getD 0 (0, 0)).1 ((L.getD 0 (0, 0)).1 + e)).length = c at n sh
  have c0 : 0 < c := by
    rcases Nat.eq_zero_or_pos c with z | z
    · subst z; rw [Nat.mul_zero] at n; omega
    · exact z
  refine ⟨by rw [n]; exact Nat.le_mul_of_pos_right _ c0, by rw [n]; exact Nat.mul_mod_right _ _, by rw [hs]; exact Int.mul_emod_right _ _, ?_⟩
  have e1 : L.length / s = c := by rw [n]; exact Nat.mul_div_cancel_left _ s0
  have e2 : P / (s : Int) = e := by rw [hs]; exact Int.mul_ediv_cancel_left _ (show (s : Int) ≠ 0 by omega)
  rw [e1, e2]
  exact sh
def TrY (P : Int) (L : List Sp) (s : Nat) : Prop := L.length % s = 0 ∧ P % (s : Int) = 0 ∧ ShO L (L.length / s) (P / s)
theorem least_hit {P : Int} {f : Int → Bool} {L : List Sp} (h : Crc P f L) {t : Nat} (t2 : 2 ≤ t) (y : TrY P L t) (no : ∀ s, t < s → s ≤ L.length → ¬ TrY P L s) : Lst f P (P / t) := by
  obtain ⟨a, b, c⟩ := y
  have P0 := h.P0
  have e1 : P = t * (P / t) := by have := Int.emod_add_mul_ediv P t; omega
  have e2 : L.length = t * (L.length / t) := by have := Nat.mod_add_div L.length t; omega
  have d0 : 0 < P / t := by
    rcases Int.lt_or_le 0 (P / t) with z | z
    · exact z
    · have := Int.mul_nonneg (show (0 : Int) ≤ t by omega) (show 0 ≤ -(P / t) by omega)
      rw [Int.mul_neg] at this; omega
  refine ⟨d0, ⟨t, by rw [Int.mul_comm]; exact e1⟩, sho_per h d0 t2 e1 e2 c, fun e e0 dv per => ?_⟩
  obtain ⟨s, hs, s0⟩ := dvd_nat P0 e0 dv
  obtain ⟨f1, f2, f3, f4⟩ := crc_found h e0 hs s0 per
  rcases Int.lt_or_le e (P / t) with z | z
  · exfalso
    refine no s ?_ f1 ⟨f2, f3, f4⟩
    rcases Nat.lt_or_ge t s with y | y
    · exact y
    · have a1 : (s : Int) * e ≤ t * e := Int.mul_le_mul_of_nonneg_right (by omega) (by omega)
      have a2 : (t : Int) * e < t * (P / t) := Int.mul_lt_mul_of_pos_left z (by omega)
      omega
  · exact z
theorem least_end {P : Int} {f : Int → Bool} {L : List Sp} (h : Crc P f L) (no : ∀ s, 1 < s → s ≤ L.length → ¬ TrY P L s) : Lst f P P := by
  refine ⟨h.P0, Int.dvd_refl P, h.per, fun e e0 dv per => ?_⟩
  obtain ⟨s, hs, s0⟩ := dvd_nat h.P0 e0 dv
  obtain ⟨f1, f2, f3, f4⟩ := crc_found h e0 hs s0 per
  rcases Nat.lt_or_ge 1 s with z | z
  · exact absurd ⟨f2, f3, f4⟩ (no s z f1)
  · obtain rfl : s = 1 := by omega
    omega
/-- Before the first span of the circle there is only what goes on over the end. -/
theorem crc_front {P : Int} {f : Int → Bool} {L : List Sp} (h : Crc P f L) {y : Int} (y0 : 0 ≤ y) (y1 : y < (L.getD 0 (0, 0)).1) (t : f y = true) : f (y - 1) = true := by
  have P0 := h.P0
  have o := h.o0
  have e : ∀ z, -1 ≤ z → z < (L.getD 0 (0, 0)).1 → f z = inB L (z + P) := fun z z0 z1 => by
    rw [h.mem]
    have : (z - (L.getD 0 (0, 0)).1) % P = z - (L.getD 0 (0, 0)).1 + P := by
      rw [← Int.add_emod_right, Int.emod_eq_of_lt (by omega) (by omega)]
    rw [this]
    congr 1; omega
  rw [e y (by omega) y1] at t
  rw [e (y - 1) (by omega) (by omega)]
  obtain ⟨q, hq, a, b⟩ := inB_iff.1 t
  have := h.lo q hq
  exact inB_iff.2 ⟨q, hq, by omega, by omega⟩
/-- The spans of one least period. -/
theorem crc_low {P d : Int} {f : Int → Bool} {L : List Sp} (h : Crc P f L) (d0 : 0 < d) (dP : d ≤ P) (per : Per f d) : ∀ q, q ∈ caL f (L.getD 0 (0, 0)).1 ((L.getD 0 (0, 0)).1 + d) → (L.getD 0 (0, 0)).1 ≤ q.1 ∧ q.1 < d ∧ q.2 < (L.getD 0 (0, 0)).1 + d := fun q hq => by
  have g := h.gap
  have fr := fun y => @crc_front P f L h y
  have cn := ca_cn f (L.getD 0 (0, 0)).1 ((L.getD 0 (0, 0)).1 + d)
  have e := ca_ends f _ _ q hq
  have oz := h.o0
  have mm := ca_in f (L.getD 0 (0, 0)).1 ((L.getD 0 (0, 0)).1 + d)
  generalize (L.getD 0 (0, 0)).1 = o at *
  have lt := cn.lt q hq
  have gd : f (o + d - 1) = false := by
    have := per (o - 1); rw [show o - 1 + d = o + d - 1 by omega, g] at this; exact this
  have hi : q.2 < o + d := by
    rcases Int.lt_or_eq_of_le e.2 with z | z
    · exact z
    · have i : inB (caL f o (o + d)) (o + d - 1) = true := inB_iff.2 ⟨q, hq, by omega, by omega⟩
      rw [mm, gd, Bool.and_false] at i; cases i
  refine ⟨e.1, ?_, hi⟩
  rcases Int.lt_or_le q.1 d with z | z
  · exact z
  · exfalso
    have f1 : f q.1 = true := by
      have i : inB (caL f o (o + d)) q.1 = true := inB_iff.2 ⟨q, hq, by omega, by omega⟩
      rw [mm, Bool.and_eq_true] at i; exact i.2
    have f0 : f (q.1 - 1) = false := by
      rcases Int.lt_or_eq_of_le e.1 with y | y
      · have i : inB (caL f o (o + d)) (q.1 - 1) = false := by
          rw [← Bool.not_eq_true]; intro i
          obtain ⟨r, hr, a, b⟩ := inB_iff.1 i
          obtain ⟨j, hj, ej⟩ := mem_getD hr
          obtain ⟨k, hk, ek⟩ := mem_getD hq
          rcases Nat.lt_or_ge j k with u | u
          · have := cn_gt cn u hk; rw [ej, ek] at this; omega
          · rcases Nat.eq_or_lt_of_le u with v | v
            · rw [← v, ek] at ej; subst ej; omega
            · have := cn_gt cn v hj; rw [ej, ek] at this; omega
        rw [mm, decide_eq_true (show o ≤ q.1 - 1 by omega), decide_eq_true (show q.1 - 1 < o + d by omega)] at i
        exact i
      · rw [← y]; exact g
    have s1 := per (q.1 - d); rw [show q.1 - d + d = q.1 by omega, f1] at s1
    have s0 := per (q.1 - d - 1); rw [show q.1 - d - 1 + d = q.1 - 1 by omega, f0] at s0
    have := fr (q.1 - d) (by omega) (by omega) s1.symm
    rw [← s0] at this; cases this
/-- The form, from the spans of one least period: what goes on over the end is parted. -/
theorem frm_ok {P d : Int} {f : Int → Bool} {L : List Sp} (h : Crc P f L) (d0 : 0 < d) (dP : d ≤ P) (per : Per f d) {R : List Sp} {q : Sp} (e : caL f (L.getD 0 (0, 0)).1 ((L.getD 0 (0, 0)).1 + d) = R ++ [q]) :
    caL f 0 d = if d < q.2 then (0, q.2 - d) :: (R ++ [(q.1, d)]) else R ++ [q] := by
  have lw := crc_low h d0 dP per
  have oz := h.o0
  have mm := ca_in f (L.getD 0 (0, 0)).1 ((L.getD 0 (0, 0)).1 + d)
  have cn := ca_cn f (L.getD 0 (0, 0)).1 ((L.getD 0 (0, 0)).1 + d)
  rw [e] at lw mm cn
  generalize (L.getD 0 (0, 0)).1 = o at *
  obtain ⟨cR, bR, ltq⟩ := cn_last cn
  have lq := lw q (List.mem_append_right _ (List.mem_singleton.2 rfl))
  have lr : ∀ r, r ∈ R → o ≤ r.1 ∧ r.2 < q.1 := fun r hr => ⟨(lw r (List.mem_append_left _ hr)).1, bR r hr⟩
  have fx : ∀ x, 0 ≤ x → x < d → f x = if x < o then decide (x + d < q.2) else inB (R ++ [q]) x := fun x x0 x1 => by
    split
    · rename_i z
      have m := mm (x + d)
      rw [decide_eq_true (show o ≤ x + d by omega), decide_eq_true (show x + d < o + d by omega), per x, Bool.and_self, Bool.true_and] at m
      rw [← m, inB_app, inB_one, in_high (fun r hr => by have := lr r hr; omega), decide_eq_true (show q.1 ≤ x + d by omega), Bool.true_and, Bool.false_or]
    · rename_i z
      have m := mm x
      rw [decide_eq_true (show o ≤ x by omega), decide_eq_true (show x < o + d by omega), Bool.and_self, Bool.true_and] at m
      exact m.symm
  symm
  split
  · rename_i z
    refine ca_eq ⟨by show (0 : Int) < q.2 - d; omega, fun r hr => ?_, cn_snoc cR bR (by show q.1 < d; omega)⟩ fun x => ?_
    · rcases List.mem_append.1 hr with y | y
      · have := lr r y; show q.2 - d < r.1; omega
      · rw [List.mem_singleton.1 y]; show q.2 - d < q.1; omega
    · rw [inB_cons, inB_app, inB_one]
      show (decide (0 ≤ x) && decide (x < q.2 - d) || (inB R x || decide (q.1 ≤ x) && decide (x < d))) = _
      by_cases x0 : 0 ≤ x
      · by_cases x1 : x < d
        · rw [fx x x0 x1, decide_eq_true x0, decide_eq_true x1, Bool.true_and, Bool.true_and, Bool.true_and, Bool.and_true]
          split
          · rename_i y
            have : inB R x = false := by
              rw [← Bool.not_eq_true]; intro i
              obtain ⟨r, hr, a, b⟩ := inB_iff.1 i
              have := lr r hr; omega
            rw [this, decide_eq_false (show ¬ q.1 ≤ x by omega), Bool.or_false, Bool.or_false, decide_eq_decide.2 (show x < q.2 - d ↔ x + d < q.2 by omega)]
          · rename_i y
            rw [inB_app, inB_one, decide_eq_false (show ¬ x < q.2 - d by omega), Bool.false_or, decide_eq_true (show x < q.2 by omega), Bool.and_true]
        · rw [decide_eq_false x1, decide_eq_false (show ¬ x < q.2 - d by omega), in_high (fun r hr => by have := lr r hr; omega)]; simp
      · have : inB R x = false := by
          rw [← Bool.not_eq_true]; intro i
          obtain ⟨r, hr, a, b⟩ := inB_iff.1 i
          have := lr r hr; omega
        rw [decide_eq_false x0, this, decide_eq_false (show ¬ q.1 ≤ x by omega)]; rfl
  · rename_i z
    refine ca_eq cn fun x => ?_
    by_cases x0 : 0 ≤ x
    · by_cases x1 : x < d
      · rw [fx x x0 x1, decide_eq_true x0, decide_eq_true x1, Bool.true_and, Bool.true_and]
        split
        · rename_i y
          rw [decide_eq_false (show ¬ x + d < q.2 by omega), inB_app, inB_one, decide_eq_false (show ¬ q.1 ≤ x by omega), Bool.false_and, Bool.or_false, ← Bool.not_eq_true]; intro i
          obtain ⟨r, hr, a, b⟩ := inB_iff.1 i
          have := lr r hr; omega
        · rfl
      · rw [decide_eq_false x1, inB_app, inB_one, in_high (fun r hr => by have := lr r hr; omega), decide_eq_false (show ¬ x < q.2 by omega)]; simp
    · have : inB R x = false := by
        rw [← Bool.not_eq_true]; intro i
        obtain ⟨r, hr, a, b⟩ := inB_iff.1 i
        have := lr r hr; omega
      rw [decide_eq_false x0, inB_app, inB_one, this, decide_eq_false (show ¬ q.1 ≤ x by omega)]; rfl
/-- How many spans the least period takes. -/
theorem frm_len {P d : Int} {f : Int → Bool} {L : List Sp} (h : Crc P f L) (d0 : 0 < d) (dv : d ∣ P) (per : Per f d) :
    ∃ c : Nat, 0 < c ∧ c ≤ L.length ∧ (L.length : Int) * d / P = c ∧ L.take c = caL f (L.getD 0 (0, 0)).1 ((L.getD 0 (0, 0)).1 + d) := by
  obtain ⟨t, ht, t0⟩ := dvd_nat h.P0 d0 dv
  have n := h.count d0 ht per
  have p := h.parts d0 ht per
  have ne := h.ne
  generalize caL f (L.getD 0 (0, 0)).1 ((L.getD 0 (0, 0)).1 + d) = A at n p ⊢
  have c0 : 0 < A.length := by
    rcases Nat.eq_zero_or_pos A.length with z | z
    · rw [z, Nat.mul_zero] at n; omega
    · exact z
  refine ⟨A.length, c0, by rw [n]; exact Nat.le_mul_of_pos_left _ t0, ?_, ?_⟩
  · rw [n, ht, Int.natCast_mul, Int.mul_assoc, Int.mul_comm (A.length : Int) d, ← Int.mul_assoc]
    exact Int.mul_ediv_cancel_left _ (by have := Int.mul_pos (show (0 : Int) < t by omega) d0; omega)
  · obtain ⟨t, rfl⟩ : ∃ u, t = u + 1 := ⟨t - 1, by omega⟩
    rw [p, rpA, List.take_left]
end Go.Proofs.Ytaikeclfmmnelaa
/- Periodic sets: how many spans lists have, windows span by span, sets given by spans anywhere, moved sets, complements. No program is mentioned. -/
namespace Go.Proofs.Ytaikeclfmmnelaa

open Go.RowKit

set_option linter.unusedVariables false

theorem ca_none (f : Int → Bool) {a b : Int} (h : b ≤ a) : caL f a b = [] := by
  unfold caL; rw [show (b - a).toNat = 0 by omega]; rfl
/-- How many spans, number by number. -/
theorem len_step (f : Int → Bool) {a c : Int} (h : a ≤ c) : (caL f a (c + 1)).length = (caL f a c).length + (if f c = true ∧ ¬ (a < c ∧ f (c - 1) = true) then 1 else 0) := by
  have e : caL f a (c + 1) = if f c then addL (caL f a c) (c, c + 1) else caL f a c := by
    unfold caL
    rw [show (c + 1 - a).toNat = (c - a).toNat + 1 by omega, caN, show a + ((c - a).toNat : Int) = c by omega]
  rw [e]
  by_cases z : f c = true
  · rw [if_pos z]
    have mm := ca_in f a c
    have cn := ca_cn f a c
    have en := ca_ends f a c
    rcases snoc_cases (caL f a c) with y | ⟨R, q, y⟩
    · rw [y] at mm ⊢
      have : ¬ (a < c ∧ f (c - 1) = true) := fun ⟨u, v⟩ => by
        have := mm (c - 1)
        rw [v, decide_eq_true (show a ≤ c - 1 by omega), decide_eq_true (show c - 1 < c by omega)] at this; cases this
      rw [if_pos ⟨z, this⟩]; rfl
    · rw [y] at mm cn en ⊢
      obtain ⟨cR, bR, ltq⟩ := cn_last cn
      have eq := en q (List.mem_append_right _ (List.mem_singleton.2 rfl))
      rw [add_snoc]
      by_cases t : q.2 = c
      · have i : inB (R ++ [q]) (c - 1) = true := inB_iff.2 ⟨q, List.mem_append_right _ (List.mem_singleton.2 rfl), by omega, by omega⟩
        rw [mm, Bool.and_eq_true, Bool.and_eq_true, decide_eq_true_iff, decide_eq_true_iff] at i
        rw [if_pos t, if_neg (fun n => n.2 ⟨by omega, i.2⟩)]
        simp
      · have : ¬ (a < c ∧ f (c - 1) = true) := fun ⟨u, v⟩ => by
          have i := mm (c - 1)
          rw [v, decide_eq_true (show a ≤ c - 1 by omega), decide_eq_true (show c - 1 < c by omega)] at i
          obtain ⟨r, hr, r0, r1⟩ := inB_iff.1 i
          have er := en r hr
          rcases List.mem_append.1 hr with w | w
          · have := bR r w; omega
          · rw [List.mem_singleton.1 w] at er r1; omega
        rw [if_neg t, if_pos ⟨z, this⟩]; simp
  · rw [if_neg z, if_neg (fun n => z n.1)]; rfl
theorem len_split (f : Int → Bool) {a b : Int} (ab : a ≤ b) : ∀ n : Nat, (caL f a (b + n)).length ≤ (caL f a b).length + (caL f b (b + n)).length
  | 0 => by rw [show b + ((0 : Nat) : Int) = b by omega]; omega
  | n + 1 => by
    have ih := len_split f ab n
    rw [show b + ((n + 1 : Nat) : Int) = b + n + 1 by omega, len_step f (show a ≤ b + n by omega), len_step f (show b ≤ b + n by omega)]
    by_cases z : f (b + n) = true
    · by_cases y : b < b + n
      · by_cases x : f (b + n - 1) = true
        · rw [if_neg (fun q => q.2 ⟨by omega, x⟩), if_neg (fun q => q.2 ⟨by omega, x⟩)]; omega
        · rw [if_pos ⟨z, fun q => x q.2⟩, if_pos ⟨z, fun q => x q.2⟩]; omega
      · rw [if_pos (c := f (b + n) = true ∧ ¬ (b < b + n ∧ f (b + n - 1) = true)) ⟨z, fun q => y q.1⟩]
        split <;> omega
    · rw [if_neg (fun q => z q.1), if_neg (fun q => z q.1)]; omega
theorem len_mono (f : Int → Bool) {a c : Int} (h : a ≤ c) : ∀ n : Nat, (caL f a c).length ≤ (caL f a (c + n)).length
  | 0 => by rw [show c + ((0 : Nat) : Int) = c by omega]; omega
  | n + 1 => by
    have ih := len_mono f h n
    rw [show c + ((n + 1 : Nat) : Int) = c + n + 1 by omega, len_step f (show a ≤ c + n by omega)]
    omega
theorem len_mono' (f : Int → Bool) {a c d : Int} (h : c ≤ d) : (caL f a c).length ≤ (caL f a d).length := by
  by_cases z : a ≤ c
  · have := len_mono f z (d - c).toNat
    rwa [show c + ((d - c).toNat : Int) = d by omega] at this
  · rw [ca_none f (show c ≤ a by omega)]; exact Nat.zero_le _
/-- A combination has at most as many spans as both have. -/
theorem len_comb {k : Int} (k1 : 1 ≤ k) (k3 : k ≤ 3) (f g : Int → Bool) (a : Int) : ∀ n : Nat, (caL (fun x => kpB k (f x) (g x)) a (a + n)).length + (if k = 3 ∧ 0 < n ∧ g (a + n - 1) = true then 1 else 0) ≤ (caL f a (a + n)).length + (caL g a (a + n)).length
  | 0 => by rw [show a + ((0 : Nat) : Int) = a by omega, ca_none _ (Int.le_refl a)]; simp
  | n + 1 => by
    have ih := len_comb k1 k3 f g a n
    rw [show a + ((n + 1 : Nat) : Int) = a + n + 1 by omega, len_step _ (show a ≤ a + n by omega), len_step f (show a ≤ a + n by omega), len_step g (show a ≤ a + n by omega), show a + (n : Int) + 1 - 1 = a + n by omega]
    have kk : k = 1 ∨ k = 2 ∨ k = 3 := by omega
    generalize a + (n : Int) - 1 = y at ih ⊢
    have an : (a < a + n) ↔ 0 < n := by omega
    generalize (caL (fun x => kpB k (f x) (g x)) a (a + n)).length = K at ih ⊢
    generalize (caL f a (a + n)).length = F at ih ⊢
    generalize (caL g a (a + n)).length = G at ih ⊢
    simp only [an]
    generalize a + (n : Int) = x at ih ⊢
    by_cases n0 : 0 < n
    · rcases kk with rfl | rfl | rfl <;> cases f x <;> cases g x <;> cases f y <;> cases hg : g y <;> simp [kpB, n0, hg] at ih ⊢ <;> omega
    · rcases kk with rfl | rfl | rfl <;> cases f x <;> cases g x <;> simp [kpB, n0] at ih ⊢ <;> omega
theorem len_cb {k : Int} (k1 : 1 ≤ k) (k3 : k ≤ 3) {P : Int} {A B : List Sp} (P0 : 0 < P) (cA : Cn A) (cB : Cn B) (a : InP P A) (b : InP P B) : (cbL k A B).length ≤ A.length + B.length := by
  have h := len_comb k1 k3 (hsP P A) (hsP P B) 0 P.toNat
  rw [show (0 : Int) + (P.toNat : Int) = P by omega] at h
  rw [cb_ca P0 a b k, ca_self cA a, ca_self cB b, ← ca_self cA a, ← ca_self cB b]
  have e1 := congrArg List.length (ca_self cA a)
  have e2 := congrArg List.length (ca_self cB b)
  omega
/-- A list over several periods. -/
theorem per_len {f : Int → Bool} {P : Int} (P0 : 0 < P) (per : Per f P) : ∀ k : Nat, (caL f 0 (k * P)).length ≤ k * (caL f 0 P).length
  | 0 => by rw [ca_none _ (show ((0 : Nat) : Int) * P ≤ 0 by simp)]; simp
  | k + 1 => by
    have ih := per_len P0 per k
    have kn : (0 : Int) ≤ k * P := Int.mul_nonneg (by omega) (by omega)
    have e : ((k + 1 : Nat) : Int) * P = k * P + P := by rw [Int.natCast_succ, Int.add_mul, Int.one_mul]
    have s := len_split f kn P.toNat
    rw [show (k : Int) * P + (P.toNat : Int) = k * P + P by omega] at s
    have pk : Per f ((k : Int) * P) := by have := per.mul (k : Int); rwa [Int.mul_comm] at this
    have sh := ca_shift pk 0 P
    rw [show (0 : Int) + k * P = k * P by omega, show P + (k : Int) * P = k * P + P by omega] at sh
    rw [sh, sh_len] at s
    rw [e, Nat.succ_mul]
    omega
/-- The smaller of two, as a window is cut. -/
def clZ (b e : Int) : Int := if b < e then b else e
/-- A window, one span further. -/
theorem win_step {f : Int → Bool} {a b e u v : Int} (eu : e < u) (uv : u < v) (no : ∀ x, e ≤ x → x < u → f x = false) (yes : ∀ x, u ≤ x → x < v → f x = true) :
    caL f a (clZ b v) = if (if a < u then u else a) < (if v < b then v else b) then caL f a (clZ b e) ++ [((if a < u then u else a), (if v < b then v else b))] else caL f a (clZ b e) := by
  generalize hs : (if a < u then u else a) = s
  generalize ht : (if v < b then v else b) = t
  have hs' : s = u ∧ a < u ∨ s = a ∧ u ≤ a := by rw [← hs]; split <;> omega
  have ht' : t = v ∧ v < b ∨ t = b ∧ b ≤ v := by rw [← ht]; split <;> omega
  have ce : clZ b e = b ∧ b < e ∨ clZ b e = e ∧ e ≤ b := by unfold clZ; split <;> omega
  have cv : clZ b v = b ∧ b < v ∨ clZ b v = v ∧ v ≤ b := by unfold clZ; split <;> omega
  generalize clZ b e = E at ce ⊢
  generalize clZ b v = V at cv ⊢
  symm
  split
  · rename_i st
    refine ca_eq (cn_snoc (ca_cn f a E) (fun q hq => by have := ca_ends f a E q hq; show q.2 < s; omega) st) fun x => ?_
    rw [inB_app, ca_in, inB_one]
    show (decide (a ≤ x) && decide (x < E) && f x || (decide (s ≤ x) && decide (x < t))) = _
    by_cases x1 : x < u
    · by_cases x0 : e ≤ x
      · rw [no x x0 x1, decide_eq_false (show ¬ s ≤ x by omega)]; simp
      · have dd : decide (x < E) = decide (x < V) := decide_eq_decide.2 (by omega)
        rw [decide_eq_false (show ¬ s ≤ x by omega), dd]; simp
    · by_cases x2 : x < v
      · rw [yes x (by omega) x2, decide_eq_false (show ¬ x < E by omega)]
        rw [Bool.eq_iff_iff]; simp; omega
      · rw [decide_eq_false (show ¬ x < E by omega), decide_eq_false (show ¬ x < t by omega), decide_eq_false (show ¬ x < V by omega)]; simp
  · rename_i st
    refine ca_eq (ca_cn f a E) fun x => ?_
    rw [ca_in]
    by_cases x1 : x < u
    · by_cases x0 : e ≤ x
      · rw [no x x0 x1, Bool.and_false, Bool.and_false]
      · have dd : decide (x < E) = decide (x < V) := decide_eq_decide.2 (by omega)
        rw [dd]
    · by_cases x2 : x < v
      · rw [yes x (by omega) x2]
        rw [Bool.eq_iff_iff]; simp; omega
      · rw [decide_eq_false (show ¬ x < E by omega), decide_eq_false (show ¬ x < V by omega)]
theorem ca_skip {f : Int → Bool} {a e b : Int} (eb : e ≤ b) (no : ∀ x, e ≤ x → x < b → f x = false) : caL f a e = caL f a b := by
  refine ca_eq (ca_cn f a e) fun x => ?_
  rw [ca_in]
  by_cases x1 : x < e
  · rw [decide_eq_true x1, decide_eq_true (show x < b by omega)]
  · by_cases x2 : x < b
    · rw [no x (by omega) x2, Bool.and_false, Bool.and_false]
    · rw [decide_eq_false x1, decide_eq_false x2]
section

variable {P : Int} {f : Int → Bool} {L : List Sp}
theorem Crc.at (h : Crc P f L) {x s k : Int} (hs : s = P * k) (x0 : s + (L.getD 0 (0, 0)).1 ≤ x) (x1 : x < s + (L.getD 0 (0, 0)).1 + P) : f x = inB L (x - s) := by
  have := (h.per.mul k) (x - s)
  rw [← hs, show x - s + s = x by omega] at this
  rw [this, h.mem, Int.emod_eq_of_lt (by omega) (by omega)]
  congr 1; omega
theorem Crc.yes (h : Crc P f L) {x s k : Int} (hs : s = P * k) {i : Nat} (hi : i < L.length) (x0 : s + (L.getD i (0, 0)).1 ≤ x) (x1 : x < s + (L.getD i (0, 0)).2) : f x = true := by
  have := h.hi _ (getD_mem hi)
  rw [h.at hs (by omega) (by omega)]
  exact inB_iff.2 ⟨_, getD_mem hi, by omega, by omega⟩
theorem cn_lo {L : List Sp} (c : Cn L) {i j : Nat} (h : i ≤ j) (hj : j < L.length) : (L.getD i (0, 0)).1 ≤ (L.getD j (0, 0)).1 ∧ (L.getD i (0, 0)).2 ≤ (L.getD j (0, 0)).2 := by
  rcases Nat.eq_or_lt_of_le h with z | z
  · rw [z]; omega
  · have a := cn_gt c z hj
    have b := c.lt _ (getD_mem (show i < L.length by omega))
    have d := c.lt _ (getD_mem hj)
    omega
theorem Crc.no (h : Crc P f L) {x s k : Int} (hs : s = P * k) {i : Nat} (hi : i + 1 < L.length) (x0 : s + (L.getD i (0, 0)).2 ≤ x) (x1 : x < s + (L.getD (i + 1) (0, 0)).1) : f x = false := by
  have a := h.hi _ (getD_mem (show i < L.length by omega))
  have a' := h.cn.lt _ (getD_mem (show i < L.length by omega))
  have b := h.hi _ (getD_mem hi)
  have b' := h.cn.lt _ (getD_mem hi)
  rw [h.at hs (by omega) (by omega), ← Bool.not_eq_true]
  intro t
  obtain ⟨q, hq, q0, q1⟩ := inB_iff.1 t
  obtain ⟨j, hj, rfl⟩ := mem_getD hq
  rcases Nat.lt_or_ge i j with z | z
  · have := cn_lo h.cn (show i + 1 ≤ j from z) hj; omega
  · have := cn_lo h.cn z (by omega); omega
theorem Crc.last (h : Crc P f L) {x s k : Int} (hs : s = P * k) (x0 : s + (L.getD (L.length - 1) (0, 0)).2 ≤ x) (x1 : x < s + P + (L.getD 0 (0, 0)).1) : f x = false := by
  have ne := h.ne
  have a := h.hi _ (getD_mem (show L.length - 1 < L.length by omega))
  have a' := h.cn.lt _ (getD_mem (show L.length - 1 < L.length by omega))
  rw [h.at hs (by omega) (by omega), ← Bool.not_eq_true]
  intro t
  obtain ⟨q, hq, q0, q1⟩ := inB_iff.1 t
  obtain ⟨j, hj, rfl⟩ := mem_getD hq
  have := cn_lo h.cn (show j ≤ L.length - 1 by omega) (by omega); omega
end
/-- Nothing lies right before a span of a canonical list. -/
theorem cn_start {L : List Sp} (c : Cn L) {q : Sp} (hq : q ∈ L) : inB L (q.1 - 1) = false := by
  rw [← Bool.not_eq_true]; intro i
  obtain ⟨r, hr, a, b⟩ := inB_iff.1 i
  obtain ⟨j, hj, rfl⟩ := mem_getD hr
  obtain ⟨k, hk, rfl⟩ := mem_getD hq
  rcases Nat.lt_or_ge j k with u | u
  · have := cn_gt c u hk; omega
  · have := cn_lo c u hj; omega
/-- The set of all numbers whose remainder is that of a number in one of the spans. -/
def ofB (P : Int) (l : List Sp) (x : Int) : Bool := l.any fun p => decide ((x - p.1) % P < p.2 - p.1)
theorem of_per (P : Int) (l : List Sp) : Per (ofB P l) P := fun x => by
  unfold ofB
  congr 1
  funext p
  rw [show x + P - p.1 = x - p.1 + P by omega, Int.add_emod_right]
theorem ofB_nil (P x : Int) : ofB P [] x = false := rfl
theorem ofB_snoc (P : Int) (l : List Sp) (p : Sp) (x : Int) : ofB P (l ++ [p]) x = (ofB P l x || decide ((x - p.1) % P < p.2 - p.1)) := by simp [ofB]
/-- The spans, moved to begin in the period, none longer than it. -/
def mvS (P : Int) (p : Sp) : Sp := (p.1 % P, p.1 % P + (if P < p.2 - p.1 then P else p.2 - p.1))
def mvO (P : Int) (l : List Sp) : List Sp := l.map (mvS P)
theorem mv_fits {P : Int} {p : Sp} (P0 : 0 < P) (h : p.1 < p.2) : 0 ≤ (mvS P p).1 ∧ (mvS P p).1 < P ∧ (mvS P p).1 < (mvS P p).2 ∧ (mvS P p).2 ≤ (mvS P p).1 + P := by
  have m0 := Int.emod_nonneg p.1 (show P ≠ 0 by omega)
  have m1 := Int.emod_lt_of_pos p.1 P0
  unfold mvS
  refine ⟨m0, m1, ?_, ?_⟩
  · show _ < p.1 % P + _
    split <;> omega
  · show p.1 % P + _ ≤ p.1 % P + P
    split <;> omega
theorem mv_has {P : Int} {p : Sp} (P0 : 0 < P) (h : p.1 < p.2) (x : Int) : decide ((x - p.1) % P < p.2 - p.1) = ((decide ((mvS P p).1 ≤ x % P) && decide (x % P < (mvS P p).2)) || (decide ((mvS P p).1 ≤ x % P + P) && decide (x % P + P < (mvS P p).2))) := by
  have f := mv_fits P0 h
  have e2 : (mvS P p).2 = (mvS P p).1 + P ∧ P < p.2 - p.1 ∨ (mvS P p).2 = (mvS P p).1 + (p.2 - p.1) ∧ p.2 - p.1 ≤ P := by
    unfold mvS
    by_cases z : P < p.2 - p.1
    · rw [if_pos z]; exact Or.inl ⟨rfl, z⟩
    · rw [if_neg z]; exact Or.inr ⟨rfl, by omega⟩
  have e1 : (mvS P p).1 = p.1 % P := rfl
  have em : (x - p.1) % P = (x % P - p.1 % P) % P := by rw [Int.emod_sub_emod, Int.sub_emod_emod]
  have m0 := Int.emod_nonneg x (show P ≠ 0 by omega)
  have m1 := Int.emod_lt_of_pos x P0
  rw [em, ← e1]
  generalize mvS P p = q at *
  generalize x % P = r at *
  have ed : r - q.1 < 0 ∧ (r - q.1) % P = r - q.1 + P ∨ 0 ≤ r - q.1 ∧ (r - q.1) % P = r - q.1 := by
    by_cases z : 0 ≤ r - q.1
    · exact Or.inr ⟨z, Int.emod_eq_of_lt z (by omega)⟩
    · refine Or.inl ⟨by omega, ?_⟩
      rw [← Int.add_emod_right, Int.emod_eq_of_lt (by omega) (by omega)]
  generalize (r - q.1) % P = t at ed
  rw [Bool.eq_iff_iff]
  simp only [Bool.or_eq_true, Bool.and_eq_true, decide_eq_true_eq]
  omega
theorem of_mv {P : Int} {l : List Sp} (P0 : 0 < P) (h : ∀ p, p ∈ l → p.1 < p.2) (x : Int) : ofB P l x = (inB (mvO P l) (x % P) || inB (mvO P l) (x % P + P)) := by
  induction l with
  | nil => rfl
  | cons p l ih =>
    have e : ofB P (p :: l) x = (decide ((x - p.1) % P < p.2 - p.1) || ofB P l x) := rfl
    have e' : mvO P (p :: l) = mvS P p :: mvO P l := rfl
    rw [e, e', inB_cons, inB_cons, ih fun q hq => h q (List.mem_cons_of_mem _ hq), mv_has P0 (h p (List.mem_cons_self ..))]
    generalize (decide ((mvS P p).1 ≤ x % P) && decide (x % P < (mvS P p).2)) = b1
    generalize (decide ((mvS P p).1 ≤ x % P + P) && decide (x % P + P < (mvS P p).2)) = b2
    cases b1 <;> cases b2 <;> simp
theorem mv_mem {P : Int} {l : List Sp} (P0 : 0 < P) (h : ∀ p, p ∈ l → p.1 < p.2) : ∀ q, q ∈ mvO P l → 0 ≤ q.1 ∧ q.1 < P ∧ q.1 < q.2 ∧ q.2 ≤ q.1 + P := fun q hq => by
  obtain ⟨p, hp, rfl⟩ := List.mem_map.1 hq
  exact mv_fits P0 (h p hp)
/-- What is joined of the moved spans lies around the circle. -/
theorem of_cir {P : Int} {l : List Sp} (P0 : 0 < P) (h : ∀ p, p ∈ l → p.1 < p.2) : Cir P (ofB P l) (cbL 1 (mvO P l) []) := by
  obtain ⟨cn, mem, -, -⟩ := cb_spec 1 (mvO P l) []
  have mv := mv_mem P0 h
  have m' : ∀ x, inB (cbL 1 (mvO P l) []) x = inB (mvO P l) x := fun x => by rw [mem]; unfold kpB; rw [if_pos rfl]; show (_ || false) = _; rw [Bool.or_false]
  refine ⟨P0, cn, fun q hq => ?_, fun x => by rw [m', m']; exact of_mv P0 h x⟩
  have lt := cn.lt q hq
  have s := cn_start cn hq
  have i0 : inB (cbL 1 (mvO P l) []) q.1 = true := inB_iff.2 ⟨q, hq, by omega, by omega⟩
  have i1 : inB (cbL 1 (mvO P l) []) (q.2 - 1) = true := inB_iff.2 ⟨q, hq, by omega, by omega⟩
  rw [m'] at s i0 i1
  obtain ⟨p, hp, a, b⟩ := inB_iff.1 i0
  obtain ⟨r, hr, c, d⟩ := inB_iff.1 i1
  have mp := mv p hp
  have mr := mv r hr
  have e : p.1 = q.1 := by
    rcases Int.lt_or_eq_of_le a with z | z
    · have : inB (mvO P l) (q.1 - 1) = true := inB_iff.2 ⟨p, hp, by omega, by omega⟩
      rw [this] at s; cases s
    · exact z
  omega
theorem joined_len : ∀ {A : List Sp} {H : Int}, (∀ q, q ∈ A → 0 ≤ q.1 ∧ q.1 < q.2 ∧ q.2 ≤ H) → 0 ≤ H → (caL (inB A) 0 H).length ≤ A.length
  | [], H, _, _ => by
    rw [← ca_skip (f := inB []) (a := 0) (e := 0) (b := H) (by assumption) (fun _ _ _ => rfl), ca_none _ (Int.le_refl 0)]
    simp
  | p :: A, H, h, H0 => by
    have ih := joined_len (fun q hq => h q (List.mem_cons_of_mem _ hq)) H0
    have c := len_comb (k := 1) (by omega) (by omega) (inB [p]) (inB A) 0 H.toNat
    rw [show (0 : Int) + (H.toNat : Int) = H by omega] at c
    have e : caL (fun x => kpB 1 (inB [p] x) (inB A x)) 0 H = caL (inB (p :: A)) 0 H := ca_congr fun x _ _ => by
      show (if (1 : Int) = 1 then _ else _) = _
      rw [if_pos rfl, inB_one, inB_cons]
    rw [e] at c
    have hp := h p (List.mem_cons_self ..)
    have o : [p] = caL (inB [p]) 0 H := ca_eq ⟨hp.2.1, fun q hq => absurd hq (List.not_mem_nil), trivial⟩ fun x => by
      rw [inB_one, Bool.eq_iff_iff]; simp only [Bool.and_eq_true, decide_eq_true_eq]; omega
    rw [← o] at c
    show _ ≤ A.length + 1
    have : ([p] : List Sp).length = 1 := rfl
    omega
theorem ofl_len {P : Int} {l : List Sp} (P0 : 0 < P) (h : ∀ p, p ∈ l → p.1 < p.2) : (cbL 1 (mvO P l) []).length ≤ l.length := by
  obtain ⟨cn, mem, -, -⟩ := cb_spec 1 (mvO P l) []
  have mv := mv_mem P0 h
  have e : cbL 1 (mvO P l) [] = caL (inB (mvO P l)) 0 (2 * P) := ca_eq cn fun x => by
    rw [mem]; unfold kpB; rw [if_pos rfl]
    show (_ || false) = _
    rw [Bool.or_false, Bool.eq_iff_iff]
    simp only [Bool.and_eq_true, decide_eq_true_eq]
    constructor
    · intro i
      obtain ⟨p, hp, a, b⟩ := inB_iff.1 i
      have := mv p hp
      exact ⟨⟨by omega, by omega⟩, i⟩
    · exact fun i => i.2
  have j := joined_len (A := mvO P l) (H := 2 * P) (fun q hq => by have := mv q hq; omega) (by omega)
  have : (mvO P l).length = l.length := by simp [mvO]
  rw [e]; omega
/-- Spans that lie in the period mean their own set. -/
theorem of_in {P : Int} {L : List Sp} (P0 : 0 < P) (c : Cn L) (i : InP P L) (x : Int) : ofB P L x = hsP P L x := by
  rw [of_mv P0 (fun p hp => c.lt p hp)]
  have e : mvO P L = L := by
    unfold mvO
    rw [List.map_congr_left (g := id) fun p hp => ?_, List.map_id]
    have := i p hp; have := c.lt p hp
    unfold mvS
    rw [Int.emod_eq_of_lt (by omega) (by omega), if_neg (by omega)]
    show (p.1, p.1 + (p.2 - p.1)) = p
    rw [show p.1 + (p.2 - p.1) = p.2 by omega]
  rw [e]
  have m0 := Int.emod_nonneg x (show P ≠ 0 by omega)
  have : inB L (x % P + P) = false := by
    rw [← Bool.not_eq_true]; intro q; have := in_out i q; omega
  rw [this, Bool.or_false]; rfl
theorem of_moved (P : Int) (L : List Sp) (m x : Int) : ofB P (shL L m) x = ofB P L (x - m) := by
  unfold ofB shL
  rw [List.any_map]
  congr 1
  funext p
  show decide ((x - (p.1 + m)) % P < p.2 + m - (p.1 + m)) = _
  rw [show x - (p.1 + m) = x - m - p.1 by omega, show p.2 + m - (p.1 + m) = p.2 - p.1 by omega]
theorem hs_mod (P : Int) (L : List Sp) (x n : Int) : hsP P L (x - n % P) = hsP P L (x - n) := by
  unfold hsP; rw [Int.sub_emod_emod]
theorem lst_shift {f : Int → Bool} {P d : Int} (h : Lst f P d) (n : Int) : Lst (fun x => f (x - n)) P d :=
  ⟨h.pos, h.dvd, per_shift h.per n, fun e a b c => h.least e a b fun x => by
    have : f (x + n + e - n) = f (x + n - n) := c (x + n)
    rwa [show x + n + e - n = x + e by omega, show x + n - n = x by omega] at this⟩
theorem lst_not {f : Int → Bool} {P d : Int} (h : Lst f P d) : Lst (fun x => !f x) P d :=
  ⟨h.pos, h.dvd, fun x => by show (!f (x + d)) = !f x; rw [h.per], fun e a b c => h.least e a b fun x => by
    have := c x
    replace this : (!f (x + e)) = !f x := this
    revert this; cases f (x + e) <;> cases f x <;> simp⟩
end Go.Proofs.Ytaikeclfmmnelaa
/- Two combs: their union, its length and its measure. -/
namespace Go.Proofs.Ytaikeclfmmnelaa

set_option linter.unusedVariables false

/-- A comb of p teeth from s on. -/
def cmL (s : Int) : Nat → List Sp
  | 0 => []
  | p + 1 => (s, s + 1) :: cmL (s + 4) p
/-- The teeth of two combs, in their order. -/
def mxL (s : Int) : Nat → Nat → List Sp
  | 0, 0 => []
  | p + 1, 0 => (s, s + 1) :: mxL (s + 4) p 0
  | 0, q + 1 => (s + 2, s + 3) :: mxL (s + 4) 0 q
  | p + 1, q + 1 => (s, s + 1) :: (s + 2, s + 3) :: mxL (s + 4) p q
theorem cm_len : ∀ (s : Int) (p : Nat), (cmL s p).length = p
  | _, 0 => rfl
  | s, p + 1 => by show (cmL (s + 4) p).length + 1 = p + 1; rw [cm_len]
theorem mx_nil (s : Int) : mxL s 0 0 = [] := by rw [mxL]
theorem cm_step (s : Int) (p : Nat) : cmL s (p + 1) = (s, s + 1) :: cmL (s + 4) p := rfl
theorem mx_len : ∀ (s : Int) (p q : Nat), (mxL s p q).length = p + q
  | _, 0, 0 => by rw [mx_nil]; rfl
  | s, p + 1, 0 => by rw [mxL, List.length_cons, mx_len (s + 4) p 0]; try omega
  | s, 0, q + 1 => by rw [mxL, List.length_cons, mx_len (s + 4) 0 q]; omega
  | s, p + 1, q + 1 => by rw [mxL, List.length_cons, List.length_cons, mx_len (s + 4) p q]; omega
theorem mx_ms : ∀ (s : Int) (p q : Nat), msL (mxL s p q) = p + q
  | _, 0, 0 => by rw [mx_nil]; rfl
  | s, p + 1, 0 => by rw [mxL, msL, mx_ms (s + 4) p 0]; simp only; omega
  | s, 0, q + 1 => by rw [mxL, msL, mx_ms (s + 4) 0 q]; simp only; omega
  | s, p + 1, q + 1 => by rw [mxL, msL, msL, mx_ms (s + 4) p q]; simp only; omega
theorem mx_low : ∀ (s : Int) (p q : Nat) (r : Sp), r ∈ mxL s p q → s ≤ r.1
  | _, 0, 0, r, h => by rw [mx_nil] at h; cases h
  | s, p + 1, 0, r, h => by
    rw [mxL] at h
    rcases List.mem_cons.1 h with rfl | h
    · exact Int.le_refl _
    · have := mx_low (s + 4) p 0 r h; omega
  | s, 0, q + 1, r, h => by
    rw [mxL] at h
    rcases List.mem_cons.1 h with rfl | h
    · show s ≤ s + 2; omega
    · have := mx_low (s + 4) 0 q r h; omega
  | s, p + 1, q + 1, r, h => by
    rw [mxL] at h
    rcases List.mem_cons.1 h with rfl | h
    · exact Int.le_refl _
    · rcases List.mem_cons.1 h with rfl | h
      · show s ≤ s + 2; omega
      · have := mx_low (s + 4) p q r h; omega
theorem mx_cn : ∀ (s : Int) (p q : Nat), Cn (mxL s p q)
  | _, 0, 0 => by rw [mx_nil]; trivial
  | s, p + 1, 0 => by
    rw [mxL]
    exact ⟨by show s < s + 1; omega, fun r hr => by have := mx_low (s + 4) p 0 r hr; show s + 1 < r.1; omega, mx_cn (s + 4) p 0⟩
  | s, 0, q + 1 => by
    rw [mxL]
    exact ⟨by show s + 2 < s + 3; omega, fun r hr => by have := mx_low (s + 4) 0 q r hr; show s + 3 < r.1; omega, mx_cn (s + 4) 0 q⟩
  | s, p + 1, q + 1 => by
    rw [mxL]
    refine ⟨by show s < s + 1; omega, fun r hr => ?_, by show s + 2 < s + 3; omega, fun r hr => by have := mx_low (s + 4) p q r hr; show s + 3 < r.1; omega, mx_cn (s + 4) p q⟩
    rcases List.mem_cons.1 hr with rfl | hr
    · show s + 1 < s + 2; omega
    · have := mx_low (s + 4) p q r hr; show s + 1 < r.1; omega
theorem mx_in : ∀ (s : Int) (p q : Nat) (x : Int), inB (mxL s p q) x = (inB (cmL s p) x || inB (cmL (s + 2) q) x)
  | _, 0, 0, _ => by rw [mx_nil]; rfl
  | s, p + 1, 0, x => by
    have h := mx_in (s + 4) p 0 x
    have z : ∀ t, inB (cmL t 0) x = false := fun t => rfl
    rw [mxL, cm_step, inB_cons, inB_cons, h, z, z, Bool.or_false, Bool.or_false]
  | s, 0, q + 1, x => by
    have h := mx_in (s + 4) 0 q x
    have z : ∀ t, inB (cmL t 0) x = false := fun t => rfl
    rw [mxL, cm_step, inB_cons, inB_cons, h, z, z, Bool.false_or, Bool.false_or, show s + 2 + 1 = s + 3 by omega, show s + 2 + 4 = s + 4 + 2 by omega]
  | s, p + 1, q + 1, x => by
    have h := mx_in (s + 4) p q x
    rw [mxL, cm_step, cm_step, inB_cons, inB_cons, inB_cons, inB_cons, h, show s + 2 + 1 = s + 3 by omega, show s + 2 + 4 = s + 4 + 2 by omega]
    generalize inB (cmL (s + 4) p) x = a
    generalize inB (cmL (s + 4 + 2) q) x = b
    generalize (decide (((s, s + 1) : Sp).1 ≤ x) && decide (x < ((s, s + 1) : Sp).2)) = c
    generalize (decide (((s + 2, s + 3) : Sp).1 ≤ x) && decide (x < ((s + 2, s + 3) : Sp).2)) = d
    cases a <;> cases b <;> cases c <;> cases d <;> rfl
theorem cm_mx : ∀ (s : Int) (p : Nat), cmL s p = mxL s p 0
  | _, 0 => by rw [mx_nil]; rfl
  | s, p + 1 => by rw [cmL, mxL, cm_mx]
theorem cm_snoc : ∀ (s : Int) (p : Nat), cmL s (p + 1) = cmL s p ++ [(s + 4 * p, s + 4 * p + 1)]
  | s, 0 => by simp [cmL]
  | s, p + 1 => by
    rw [cmL, cm_snoc (s + 4) p]
    show _ = (s, s + 1) :: (cmL (s + 4) p ++ _)
    rw [show s + 4 + 4 * (p : Int) = s + 4 * ((p + 1 : Nat) : Int) by omega]; try rfl
theorem cm_mem : ∀ (s : Int) (p : Nat) (r : Sp), r ∈ cmL s p → s ≤ r.1 ∧ r.2 = r.1 + 1 ∧ r.2 ≤ s + 4 * p
  | _, 0, r, h => by cases h
  | s, p + 1, r, h => by
    rw [cmL] at h
    rcases List.mem_cons.1 h with rfl | h
    · exact ⟨Int.le_refl _, rfl, by show s + 1 ≤ s + 4 * ((p + 1 : Nat) : Int); omega⟩
    · have := cm_mem (s + 4) p r h; omega
theorem cm_line {s : Int} {p : Nat} (h0 : -4398046511104 ≤ s) (h1 : s + 4 * p ≤ 4398046511104) : Ln (cmL s p) := fun r hr => by
  have := cm_mem s p r hr; omega
theorem cm_cn (s : Int) (p : Nat) : Cn (cmL s p) := by rw [cm_mx]; exact mx_cn s p 0
theorem cm_va {s : Int} {p : Nat} (h0 : -4398046511104 ≤ s) (h1 : s + 4 * p ≤ 4398046511104) (hp : p ≤ 2000) : vaB (cmL s p) = true :=
  vaB_iff.2 ⟨by rw [cm_len]; exact hp, cm_line h0 h1, cm_cn s p⟩
/-- The union of two combs. -/
theorem comb_ap {s : Int} {p q : Nat} (h0 : -2199023255552 ≤ s) (h1 : s ≤ 2199023255552) (hp : p < 1100) (hq : q < 1100) : ruAp 1 (cmL s p) (cmL (s + 2) q) = ruFull (mxL s p q) := by
  have a := cm_va (s := s) (p := p) (by omega) (by omega) (by omega)
  have b := cm_va (s := s + 2) (p := q) (by omega) (by omega) (by omega)
  obtain ⟨c, i, -, -⟩ := cb_spec 1 (cmL s p) (cmL (s + 2) q)
  have e : cbL 1 (cmL s p) (cmL (s + 2) q) = mxL s p q := cn_ext c (mx_cn s p q) fun x => by rw [i x, mx_in]; rfl
  unfold ruAp
  rw [a, b, e]; rfl
/-- The canonical list of both combs' teeth. -/
theorem comb_of {s : Int} {p q : Nat} (h0 : -2199023255552 ≤ s) (h1 : s ≤ 2199023255552) (hp : p < 1100) (hq : q < 1100) : ruOf (cmL (s + 2) q ++ cmL s p) = ruFull (mxL s p q) := by
  have a := va_sps (cm_va (s := s) (p := p) (by omega) (by omega) (by omega))
  have b := va_sps (cm_va (s := s + 2) (p := q) (by omega) (by omega) (by omega))
  obtain ⟨c, i, -, -⟩ := cb_spec 1 (cmL (s + 2) q ++ cmL s p) []
  have e : cbL 1 (cmL (s + 2) q ++ cmL s p) [] = mxL s p q := cn_ext c (mx_cn s p q) fun x => by
    rw [i x, mx_in, inB_app, inB_nil]
    show (_ || _ || false) = _
    rw [Bool.or_false, Bool.or_comm]
  have ab : spsB (cmL (s + 2) q ++ cmL s p) = true := by unfold spsB at *; rw [List.all_append, a, b]; rfl
  unfold ruOf
  rw [ab, e]; rfl
end Go.Proofs.Ytaikeclfmmnelaa
/- Lists of spans: what the laws say of the operations together. No program is mentioned. -/
namespace Go.Proofs.Ytaikeclfmmnelaa

open Go.RowKit

set_option linter.unusedVariables false

theorem full_len (l : List Sp) : (ruFull l).1.length ≤ 2000 := by
  unfold ruFull
  split
  · exact Nat.zero_le _
  · show l.length ≤ _; omega
theorem ap_len (k : Int) (A B : List Sp) : (ruAp k A B).1.length ≤ 2000 := by
  unfold ruAp
  split
  · exact full_len _
  · exact Nat.zero_le _
theorem not_len (A : List Sp) (p : Sp) : (ruNot A p).1.length ≤ 2000 := by rw [← not_ap]; exact ap_len _ _ _
theorem of_len (A : List Sp) : (ruOf A).1.length ≤ 2000 := by
  unfold ruOf
  split
  · exact full_len _
  · exact Nat.zero_le _
theorem full_err (l : List Sp) : 0 ≤ (ruFull l).2 ∧ (ruFull l).2 ≤ 5 := by unfold ruFull; split <;> simp
theorem ap_err (k : Int) (A B : List Sp) : 0 ≤ (ruAp k A B).2 ∧ (ruAp k A B).2 ≤ 5 := by
  unfold ruAp
  split
  · exact full_err _
  · simp
theorem not_err (A : List Sp) (p : Sp) : 0 ≤ (ruNot A p).2 ∧ (ruNot A p).2 ≤ 5 := by rw [← not_ap]; exact ap_err _ _ _
theorem ap_fate (k : Int) {A B : List Sp} (hA : A.length ≤ 80) (hB : B.length ≤ 80) : (ruAp k A B).2 = if vaB A && vaB B then 0 else 1 := by
  cases v : vaB A && vaB B
  · rw [ap_arg v]; rfl
  · obtain ⟨a, b⟩ := Bool.and_eq_true_iff.1 v
    rw [ap_small a b (by omega)]; rfl
/-- Points of an operation's result. -/
theorem pt_ap (k : Int) {A B : List Sp} (hA : A.length ≤ 80) (hB : B.length ≤ 80) (x : Int) : ((ruAp k A B).2 != 0 || ((vaB (ruAp k A B).1 && inB (ruAp k A B).1 x) == kpB k (vaB A && inB A x) (vaB B && inB B x))) = true := by
  by_cases h : (ruAp k A B).2 = 0
  · obtain ⟨a, b, c, d⟩ := ap_ok h
    rw [a, b, c, d x]; simp
  · have : ((ruAp k A B).2 != 0) = true := by rw [bne_iff_ne]; exact h
    rw [this]; rfl
theorem pt_not {A : List Sp} (p : Sp) (x : Int) : ((ruNot A p).2 != 0 || ((vaB (ruNot A p).1 && inB (ruNot A p).1 x) == ((decide (p.1 ≤ x) && decide (x < p.2)) && !(vaB A && inB A x)))) = true := by
  by_cases h : (ruNot A p).2 = 0
  · obtain ⟨a, b, c, d⟩ := not_ok h
    rw [a, c, d x]; simp
  · have : ((ruNot A p).2 != 0) = true := by rw [bne_iff_ne]; exact h
    rw [this]; rfl
theorem va_cn {A : List Sp} (h : vaB A = true) : Cn A := (vaB_iff.1 h).2.2
theorem va_ln {A : List Sp} (h : vaB A = true) : Ln A := (vaB_iff.1 h).2.1
/-- The laws of a Boolean algebra. -/
theorem al_com (k : Int) (hk : k = 1 ∨ k = 2) {A B : List Sp} (h : (ruAp k A B).2 = 0) (g : (ruAp k B A).2 = 0) : (ruAp k A B).1 = (ruAp k B A).1 := by
  obtain ⟨a, b, c, d⟩ := ap_ok h
  obtain ⟨-, -, c', d'⟩ := ap_ok g
  refine cn_ext (va_cn c) (va_cn c') fun x => ?_
  rw [d, d']
  rcases hk with rfl | rfl <;> cases inB A x <;> cases inB B x <;> rfl
theorem al_dis {A B C D E F G H : List Sp} {e f g h i : Int} (h1 : ruAp 1 B C = (D, e)) (e1 : e = 0) (h2 : ruAp 2 A D = (E, f)) (e2 : f = 0) (h3 : ruAp 2 A B = (F, g)) (e3 : g = 0) (h4 : ruAp 2 A C = (G, h)) (e4 : h = 0) (h5 : ruAp 1 F G = (H, i)) (e5 : i = 0) : E = H := by
  obtain ⟨-, -, c1, d1⟩ := ap_ok (k := 1) (A := B) (B := C) (by rw [h1]; exact e1)
  obtain ⟨-, -, c2, d2⟩ := ap_ok (k := 2) (A := A) (B := D) (by rw [h2]; exact e2)
  obtain ⟨-, -, c3, d3⟩ := ap_ok (k := 2) (A := A) (B := B) (by rw [h3]; exact e3)
  obtain ⟨-, -, c4, d4⟩ := ap_ok (k := 2) (A := A) (B := C) (by rw [h4]; exact e4)
  obtain ⟨-, -, c5, d5⟩ := ap_ok (k := 1) (A := F) (B := G) (by rw [h5]; exact e5)
  rw [h1] at c1 d1; rw [h2] at c2 d2; rw [h3] at c3 d3; rw [h4] at c4 d4; rw [h5] at c5 d5
  refine cn_ext (va_cn c2) (va_cn c5) fun x => ?_
  simp only at d1 d2 d3 d4 d5
  rw [d2, d1, d5, d3, d4]
  cases inB A x <;> cases inB B x <;> cases inB C x <;> rfl
theorem al_ass (k : Int) (hk : k = 1 ∨ k = 2) {A B C D E F G : List Sp} {e f g h : Int} (h1 : ruAp k A B = (D, e)) (e1 : e = 0) (h2 : ruAp k D C = (E, f)) (e2 : f = 0) (h3 : ruAp k B C = (F, g)) (e3 : g = 0) (h4 : ruAp k A F = (G, h)) (e4 : h = 0) : E = G := by
  obtain ⟨-, -, c1, d1⟩ := ap_ok (k := k) (A := A) (B := B) (by rw [h1]; exact e1)
  obtain ⟨-, -, c2, d2⟩ := ap_ok (k := k) (A := D) (B := C) (by rw [h2]; exact e2)
  obtain ⟨-, -, c3, d3⟩ := ap_ok (k := k) (A := B) (B := C) (by rw [h3]; exact e3)
  obtain ⟨-, -, c4, d4⟩ := ap_ok (k := k) (A := A) (B := F) (by rw [h4]; exact e4)
  rw [h1] at c1 d1; rw [h2] at c2 d2; rw [h3] at c3 d3; rw [h4] at c4 d4
  refine cn_ext (va_cn c2) (va_cn c4) fun x => ?_
  simp only at d1 d2 d3 d4
  rw [d2, d1, d4, d3]
  rcases hk with rfl | rfl <;> cases inB A x <;> cases inB B x <;> cases inB C x <;> rfl
theorem al_eit {A B D E F G : List Sp} {e f g h : Int} (h1 : ruAp 4 A B = (D, e)) (e1 : e = 0) (h2 : ruAp 3 A B = (E, f)) (e2 : f = 0) (h3 : ruAp 3 B A = (F, g)) (e3 : g = 0) (h4 : ruAp 1 E F = (G, h)) (e4 : h = 0) : D = G := by
  obtain ⟨-, -, c1, d1⟩ := ap_ok (k := 4) (A := A) (B := B) (by rw [h1]; exact e1)
  obtain ⟨-, -, c2, d2⟩ := ap_ok (k := 3) (A := A) (B := B) (by rw [h2]; exact e2)
  obtain ⟨-, -, c3, d3⟩ := ap_ok (k := 3) (A := B) (B := A) (by rw [h3]; exact e3)
  obtain ⟨-, -, c4, d4⟩ := ap_ok (k := 1) (A := E) (B := F) (by rw [h4]; exact e4)
  rw [h1] at c1 d1; rw [h2] at c2 d2; rw [h3] at c3 d3; rw [h4] at c4 d4
  refine cn_ext (va_cn c1) (va_cn c4) fun x => ?_
  simp only at d1 d2 d3 d4
  rw [d1, d4, d2, d3]
  cases inB A x <;> cases inB B x <;> rfl
theorem al_mor {A B U O M N I : List Sp} {p : Sp} {e f g h i : Int} (h1 : ruAp 1 A B = (U, e)) (e1 : e = 0) (h2 : ruNot U p = (O, f)) (e2 : f = 0) (h3 : ruNot A p = (M, g)) (e3 : g = 0) (h4 : ruNot B p = (N, h)) (e4 : h = 0) (h5 : ruAp 2 M N = (I, i)) (e5 : i = 0) : O = I := by
  obtain ⟨-, -, c1, d1⟩ := ap_ok (k := 1) (A := A) (B := B) (by rw [h1]; exact e1)
  obtain ⟨-, -, c2, d2⟩ := not_ok (A := U) (p := p) (by rw [h2]; exact e2)
  obtain ⟨-, -, c3, d3⟩ := not_ok (A := A) (p := p) (by rw [h3]; exact e3)
  obtain ⟨-, -, c4, d4⟩ := not_ok (A := B) (p := p) (by rw [h4]; exact e4)
  obtain ⟨-, -, c5, d5⟩ := ap_ok (k := 2) (A := M) (B := N) (by rw [h5]; exact e5)
  rw [h1] at c1 d1; rw [h2] at c2 d2; rw [h3] at c3 d3; rw [h4] at c4 d4; rw [h5] at c5 d5
  refine cn_ext (va_cn c2) (va_cn c5) fun x => ?_
  simp only at d1 d2 d3 d4 d5
  rw [d2, d1, d5, d3, d4]
  cases inB A x <;> cases inB B x <;> cases decide (p.1 ≤ x) <;> cases decide (x < p.2) <;> rfl
theorem al_dbl {A I N B : List Sp} {p : Sp} {e f g : Int} (h1 : ruAp 2 A [p] = (I, e)) (e1 : e = 0) (h2 : ruNot I p = (N, f)) (e2 : f = 0) (h3 : ruNot N p = (B, g)) (e3 : g = 0) : B = I := by
  obtain ⟨-, -, c1, d1⟩ := ap_ok (k := 2) (A := A) (B := [p]) (by rw [h1]; exact e1)
  obtain ⟨-, -, c2, d2⟩ := not_ok (A := I) (p := p) (by rw [h2]; exact e2)
  obtain ⟨-, -, c3, d3⟩ := not_ok (A := N) (p := p) (by rw [h3]; exact e3)
  rw [h1] at c1 d1; rw [h2] at c2 d2; rw [h3] at c3 d3
  refine cn_ext (va_cn c3) (va_cn c1) fun x => ?_
  simp only at d1 d2 d3
  rw [d3, d2, d1, inB_one]
  cases inB A x <;> cases decide (p.1 ≤ x) <;> cases decide (x < p.2) <;> rfl
/-- Inclusion and exclusion. -/
theorem ms_all {A B : List Sp} (h1 : (ruAp 1 A B).2 = 0) (h2 : (ruAp 2 A B).2 = 0) (h3 : (ruAp 3 A B).2 = 0) (x : Int) :
    msL (ruAp 1 A B).1 + msL (ruAp 2 A B).1 = msL A + msL B ∧ msL (ruAp 3 A B).1 + msL (ruAp 2 A B).1 = msL A ∧
    rkL (ruAp 1 A B).1 x + rkL (ruAp 2 A B).1 x = rkL A x + rkL B x ∧ rkL (ruAp 3 A B).1 x + rkL (ruAp 2 A B).1 x = rkL A x := by
  obtain ⟨a, b, c1, d1⟩ := ap_ok h1
  obtain ⟨-, -, c2, d2⟩ := ap_ok h2
  obtain ⟨-, -, c3, d3⟩ := ap_ok h3
  have n0 : Cn ([] : List Sp) := trivial
  have n1 : Ln ([] : List Sp) := fun p hp => by cases hp
  have s1 : ∀ x, (if inB (ruAp 1 A B).1 x then 1 else 0) + (if inB (ruAp 2 A B).1 x then 1 else 0) = ((if inB A x then 1 else 0) + (if inB B x then 1 else 0) : Int) := fun x => by
    rw [d1, d2]; cases inB A x <;> cases inB B x <;> rfl
  have s2 : ∀ x, (if inB (ruAp 3 A B).1 x then 1 else 0) + (if inB (ruAp 2 A B).1 x then 1 else 0) = ((if inB A x then 1 else 0) + (if inB [] x then 1 else 0) : Int) := fun x => by
    rw [d3, d2, inB_nil]; cases inB A x <;> cases inB B x <;> rfl
  have m2 := ms_same (va_cn c3) (va_cn c2) (va_cn a) n0 (va_ln c3) (va_ln c2) (va_ln a) n1 s2
  have r2 := rk_same (va_cn c3) (va_cn c2) (va_cn a) n0 (va_ln c3) (va_ln c2) (va_ln a) n1 s2 x
  refine ⟨ms_same (va_cn c1) (va_cn c2) (va_cn a) (va_cn b) (va_ln c1) (va_ln c2) (va_ln a) (va_ln b) s1, ?_, rk_same (va_cn c1) (va_cn c2) (va_cn a) (va_cn b) (va_ln c1) (va_ln c2) (va_ln a) (va_ln b) s1 x, ?_⟩
  · have : msL [] = 0 := rfl
    omega
  · have : rkL [] x = 0 := rfl
    omega
/-- A union that is moved is the union of what is moved. -/
theorem mo_union {A B : List Sp} {n : Int} (hA : A.length ≤ 80) (hB : B.length ≤ 80) (h1 : (moV A n).2 = 0) (h2 : (moV B n).2 = 0) (h3 : (ruAp 1 A B).2 = 0) :
    (moV (ruAp 1 A B).1 n).2 = 0 ∧ (ruAp 1 (moV A n).1 (moV B n).1).2 = 0 ∧ (moV (ruAp 1 A B).1 n).1 = (ruAp 1 (moV A n).1 (moV B n).1).1 ∧ vaB (moV (ruAp 1 A B).1 n).1 = true := by
  obtain ⟨a, n0, n1, sa, ea, va⟩ := mo_ok h1
  obtain ⟨b, -, -, sb, eb, vb⟩ := mo_ok h2
  obtain ⟨-, -, c, d⟩ := ap_ok h3
  have g : (ruAp 1 (shL A n) (shL B n)).2 = 0 := by rw [ap_small va vb (by rw [sh_len, sh_len]; omega)]
  obtain ⟨-, -, c', d'⟩ := ap_ok g
  have mem : ∀ y, inB (ruAp 1 A B).1 y = true → -4398046511104 ≤ y + n ∧ y + n < 4398046511104 := fun y hy => by
    rw [d y] at hy
    have hy' : inB A y = true ∨ inB B y = true := Bool.or_eq_true_iff.1 hy
    rcases hy' with q | q
    · rw [← sh_in A n y] at q
      obtain ⟨p, hp, p0, p1⟩ := inB_iff.1 q
      have := va_ln va p hp; omega
    · rw [← sh_in B n y] at q
      obtain ⟨p, hp, p0, p1⟩ := inB_iff.1 q
      have := va_ln vb p hp; omega
  have su : spsB (shL (ruAp 1 A B).1 n) = true := by
    refine sps_of.2 ⟨fun q hq => ?_, fun q hq => ?_⟩
    · obtain ⟨p, hp, rfl⟩ := List.mem_map.1 hq
      have lt := (va_cn c).lt p hp
      have q0 := mem p.1 (inB_iff.2 ⟨p, hp, Int.le_refl _, lt⟩)
      have q1 := mem (p.2 - 1) (inB_iff.2 ⟨p, hp, by omega, by omega⟩)
      exact ⟨by show _ ≤ p.1 + n; omega, by show p.2 + n ≤ _; omega⟩
    · obtain ⟨p, hp, rfl⟩ := List.mem_map.1 hq
      have lt := (va_cn c).lt p hp
      show p.1 + n < p.2 + n; omega
  have my := mo_yes c n0 n1 su
  have mv := (mo_ok (L := (ruAp 1 A B).1) (n := n) (by rw [my])).2.2.2.2.2
  rw [my, ea, eb]
  refine ⟨rfl, g, cn_ext (va_cn mv) (va_cn c') fun y => ?_, mv⟩
  have e := sh_in (ruAp 1 A B).1 n (y - n)
  have e1 := sh_in A n (y - n)
  have e2 := sh_in B n (y - n)
  rw [Int.sub_add_cancel] at e e1 e2
  show inB (shL _ n) y = _
  rw [e, d', d, e1, e2]
theorem mo_back {A : List Sp} {n : Int} (h : (moV A n).2 = 0) : moV (moV A n).1 (-n) = (A, 0) ∧ msL (moV A n).1 = msL A ∧ vaB A = true ∧ vaB (moV A n).1 = true ∧ (∀ x, inB (moV A n).1 (x + n) = inB A x) ∧ -8796093022208 ≤ n ∧ n ≤ 8796093022208 := by
  obtain ⟨a, n0, n1, sa, ea, va⟩ := mo_ok h
  rw [ea]
  refine ⟨?_, sh_ms A n, a, va, fun x => sh_in A n x, n0, n1⟩
  show moV (shL A n) (-n) = _
  rw [mo_yes va (by omega) (by omega) (by rw [sh_back]; exact va_sps a), sh_back]
theorem mo_err (A : List Sp) (n : Int) : 0 ≤ (moV A n).2 ∧ (moV A n).2 ≤ 2 := by
  unfold moV
  split
  · split
    · simp
    · split <;> simp
  · simp
theorem mo_len (A : List Sp) (n : Int) : (moV A n).1.length ≤ A.length := by
  unfold moV
  split
  · split
    · exact Nat.zero_le _
    · split
      · rw [sh_len]; exact Nat.le_refl _
      · exact Nat.zero_le _
  · exact Nat.zero_le _
end Go.Proofs.Ytaikeclfmmnelaa
/- Names of relations: plain facts. -/
namespace Go.Proofs.Ytaikeclfmmnelaa

open Go.RowKit

set_option linter.unusedVariables false

/-- The names of the relations. -/
def nmV : Nat → ByteArray
  | 0 => ⟨#[98, 101, 102, 111, 114, 101]⟩
  | 1 => ⟨#[109, 101, 101, 116, 115]⟩
  | 2 => ⟨#[111, 118, 101, 114, 108, 97, 112, 115]⟩
  | 3 => ⟨#[115, 116, 97, 114, 116, 115]⟩
  | 4 => ⟨#[100, 117, 114, 105, 110, 103]⟩
  | 5 => ⟨#[102, 105, 110, 105, 115, 104, 101, 115]⟩
  | 6 => ⟨#[101, 113, 117, 97, 108, 115]⟩
  | 7 => ⟨#[102, 105, 110, 105, 115, 104, 101, 100, 98, 121]⟩
  | 8 => ⟨#[99, 111, 110, 116, 97, 105, 110, 115]⟩
  | 9 => ⟨#[115, 116, 97, 114, 116, 101, 100, 98, 121]⟩
  | 10 => ⟨#[111, 118, 101, 114, 108, 97, 112, 112, 101, 100, 98, 121]⟩
  | 11 => ⟨#[109, 101, 116, 98, 121]⟩
  | 12 => ⟨#[97, 102, 116, 101, 114]⟩
  | _ => ⟨#[]⟩
def nmR (r : Int) : ByteArray := if 0 ≤ r ∧ r ≤ 12 then nmV r.toNat else ⟨#[]⟩
theorem nmR_in {k : Nat} (h : k ≤ 12) : nmR k = nmV k := by unfold nmR; rw [if_pos (by omega)]; rfl
theorem nmR_out {r : Int} (h : ¬ (0 ≤ r ∧ r ≤ 12)) : nmR r = ⟨#[]⟩ := by unfold nmR; rw [if_neg h]
theorem nm_dist : ∀ i j : Fin 13, (nmV i).data.toList = (nmV j).data.toList → i = j := by decide +kernel
theorem nm_full : ∀ i : Fin 13, ¬ (nmV i).data.toList = [] := by decide +kernel
theorem nm_small : ∀ i : Fin 13, (nmV i).size ≤ 12 := by decide +kernel
theorem ba_list {s t : ByteArray} (h : s.data.toList = t.data.toList) : s = t := ByteArray.ext (Array.ext' h)
/-- The number of the first name that is the text, from k on. -/
def prK (s : ByteArray) : Nat → Nat
  | 0 => 13
  | d + 1 => if nmV (12 - d) = s then 12 - d else prK s d
def prV (s : ByteArray) : Int := if prK s 13 < 13 then prK s 13 else 0
def prE (s : ByteArray) : Int := if prK s 13 < 13 then 0 else 3
theorem prK_up (s : ByteArray) {k : Nat} (hk : k ≤ 13) (h : ∀ j, j < k → ¬ nmV j = s) : prK s 13 = prK s (13 - k) := by
  induction k with
  | zero => rfl
  | succ k ih =>
    rw [ih (by omega) (fun j hj => h j (by omega)), show 13 - k = (13 - (k + 1)) + 1 by omega]
    show (if nmV (12 - (13 - (k + 1))) = s then _ else _) = _
    rw [if_neg (by rw [show 12 - (13 - (k + 1)) = k by omega]; exact h k (by omega))]
theorem pr_no {s : ByteArray} (h : ∀ j, j < 13 → ¬ nmV j = s) : prV s = 0 ∧ prE s = 3 := by
  have e : prK s 13 = 13 := prK_up s (k := 13) (by omega) h
  unfold prV prE; rw [e]; exact ⟨rfl, rfl⟩
theorem pr_at {s : ByteArray} {k : Nat} (hk : k < 13) (h : ∀ j, j < k → ¬ nmV j = s) (e : nmV k = s) : prV s = k ∧ prE s = 0 := by
  have q : prK s 13 = k := by
    rw [prK_up s (k := k) (by omega) h, show 13 - k = (12 - k) + 1 by omega]
    show (if nmV (12 - (12 - k)) = s then 12 - (12 - k) else _) = k
    rw [show 12 - (12 - k) = k by omega, if_pos e]
  unfold prV prE; rw [q, if_pos hk, if_pos hk]; exact ⟨rfl, rfl⟩
theorem pr_bd (s : ByteArray) : 0 ≤ prV s ∧ prV s ≤ 12 := by
  unfold prV; split <;> omega
/-- A name is read back. -/
theorem pr_back {k : Nat} (hk : k < 13) : prV (nmV k) = k ∧ prE (nmV k) = 0 :=
  pr_at hk (fun j hj e => by have := nm_dist ⟨j, by omega⟩ ⟨k, hk⟩ (by show (nmV j).data.toList = (nmV k).data.toList; rw [e]); have := congrArg Fin.val this; simp only at this; omega) rfl
theorem pr_nil : prE (⟨#[]⟩ : ByteArray) = 3 := (pr_no fun j hj e => nm_full ⟨j, hj⟩ (by show (nmV j).data.toList = []; rw [e])).2
end Go.Proofs.Ytaikeclfmmnelaa

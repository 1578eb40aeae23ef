/- Plain facts on integers: division, remainders, divisors, exact sums. No program is mentioned. -/
import Derived.WalkKit

namespace Go.Proofs.Ytdkmahdfnmoliaa

open Go.RowKit

set_option linter.unusedVariables false

theorem fdm_unique {a b q r : Int} (hb : b ≠ 0) (h : q * b + r = a) (hp : 0 < b → 0 ≤ r ∧ r < b) (hn : b < 0 → b < r ∧ r ≤ 0) : a.fdiv b = q ∧ a.fmod b = r := by
  have e := Int.mul_fdiv_add_fmod a b
  have hr : a.fmod b = r := by
    have d : b ∣ a.fmod b - r := ⟨q - a.fdiv b, by rw [Int.mul_sub, Int.mul_comm b q]; omega⟩
    have z : a.fmod b - r = 0 := by
      apply Int.eq_zero_of_dvd_of_natAbs_lt_natAbs d
      by_cases p : 0 < b
      · have := Int.fmod_nonneg_of_pos a p; have := Int.fmod_lt_of_pos a p; have := hp p; omega
      · have p' : b < 0 := by omega
        have t := Int.fmod_nonneg_of_pos (-a) (show 0 < -b by omega); have u := Int.fmod_lt_of_pos (-a) (show 0 < -b by omega)
        rw [Int.neg_fmod_neg] at t u
        have := hn p'; omega
    omega
  refine ⟨?_, hr⟩
  have : b * a.fdiv b = b * q := by rw [Int.mul_comm b q]; omega
  exact Int.eq_of_mul_eq_mul_left hb this
theorem tq_bd {a b : Int} (h0 : -9223372036854775808 ≤ a) (h1 : a ≤ 9223372036854775807) (hx : ¬ (a = -9223372036854775808 ∧ b = -1)) (hb : b ≠ 0) :
    -9223372036854775808 ≤ a.tdiv b ∧ a.tdiv b ≤ 9223372036854775807 := by
  have e : (a.tdiv b).natAbs = a.natAbs / b.natAbs := Int.natAbs_tdiv a b
  have l : a.natAbs / b.natAbs ≤ a.natAbs := Nat.div_le_self _ _
  by_cases h : a = -9223372036854775808
  · by_cases hb1 : b = 1
    · subst hb1; simp; omega
    · have h2 : 2 ≤ b.natAbs := by omega
      have : a.natAbs / b.natAbs ≤ a.natAbs / 2 := Nat.div_le_div_left h2 (by omega)
      omega
  · omega
theorem tr_bd {a b : Int} (hb : b ≠ 0) : (a.tmod b).natAbs < b.natAbs ∧ (0 ≤ a → 0 ≤ a.tmod b) ∧ (a ≤ 0 → a.tmod b ≤ 0) := by
  refine ⟨?_, fun h => Int.tmod_nonneg b h, fun h => ?_⟩
  · rw [Int.natAbs_tmod]; exact Nat.mod_lt _ (by omega)
  · have := Int.tmod_nonneg b (show 0 ≤ -a by omega); rw [Int.neg_tmod] at this; omega
theorem tq_half {a b : Int} (h0 : -9223372036854775808 ≤ a) (h1 : a ≤ 9223372036854775807) (hr : a.tmod b ≠ 0) :
    -4611686018427387904 ≤ a.tdiv b ∧ a.tdiv b ≤ 4611686018427387904 := by
  have e : (a.tdiv b).natAbs = a.natAbs / b.natAbs := Int.natAbs_tdiv a b
  have e2 := Int.natAbs_tmod a b
  have h2 : 2 ≤ b.natAbs ∨ b.natAbs = 0 := by
    by_cases h : b.natAbs = 1
    · rw [h, Nat.mod_one] at e2; omega
    · omega
  rcases h2 with h2 | h2
  · have : a.natAbs / b.natAbs ≤ a.natAbs / 2 := Nat.div_le_div_left h2 (by omega)
    omega
  · rw [h2, Nat.div_zero] at e; omega
theorem fdm_exact {a b : Int} (hb : b ≠ 0) (h : a.tmod b = 0) : a.fdiv b = a.tdiv b ∧ a.fmod b = 0 := by
  have e := Int.tdiv_mul_add_tmod a b
  exact fdm_unique hb (by omega) (fun _ => by omega) (fun _ => by omega)
theorem fdm_same {a b : Int} (hb : b ≠ 0) (h : 0 < a.tmod b ∧ 0 < b ∨ a.tmod b < 0 ∧ b < 0) : a.fdiv b = a.tdiv b ∧ a.fmod b = a.tmod b := by
  have e := Int.tdiv_mul_add_tmod a b
  have t := (tr_bd (a := a) hb).1
  exact fdm_unique hb (by omega) (fun _ => by omega) (fun _ => by omega)
theorem fdm_other {a b : Int} (hb : b ≠ 0) (h : 0 < a.tmod b ∧ b < 0 ∨ a.tmod b < 0 ∧ 0 < b) : a.fdiv b = a.tdiv b - 1 ∧ a.fmod b = a.tmod b + b := by
  have e := Int.tdiv_mul_add_tmod a b
  have t := (tr_bd (a := a) hb).1
  exact fdm_unique hb (by rw [Int.sub_mul]; omega) (fun _ => by omega) (fun _ => by omega)
theorem fr_bd {a b : Int} : (0 < b → 0 ≤ a.fmod b ∧ a.fmod b < b) ∧ (b < 0 → b < a.fmod b ∧ a.fmod b ≤ 0) := by
  refine ⟨fun p => ⟨Int.fmod_nonneg_of_pos a p, Int.fmod_lt_of_pos a p⟩, fun p => ?_⟩
  have t := Int.fmod_nonneg_of_pos (-a) (show 0 < -b by omega); have u := Int.fmod_lt_of_pos (-a) (show 0 < -b by omega)
  rw [Int.neg_fmod_neg] at t u
  omega
/-- The quotient, the remainder and the error number of integer.Div. -/
def dQ (a b : Int) : Int := if b = 0 ∨ (a = -9223372036854775808 ∧ b = -1) then 0 else a.fdiv b
def dR (a b : Int) : Int := if b = 0 ∨ (a = -9223372036854775808 ∧ b = -1) then 0 else a.fmod b
def dE (a b : Int) : Int := if b = 0 then 10 else if a = -9223372036854775808 ∧ b = -1 then 9 else 0
theorem dQ_pos {a b : Int} (h : 0 < b) : dQ a b = a / b := by
  unfold dQ; rw [if_neg (by omega), Int.fdiv_eq_ediv_of_nonneg _ (by omega)]
theorem dR_pos {a b : Int} (h : 0 < b) : dR a b = a % b := by
  unfold dR; rw [if_neg (by omega), Int.fmod_eq_emod_of_nonneg _ (by omega)]
theorem dE_pos {a b : Int} (h : 0 < b) : dE a b = 0 := by
  unfold dE; rw [if_neg (by omega), if_neg (by omega)]
/-- Exact sums and products, and their error number. -/
def fits (n : Int) : Bool := decide (-9223372036854775808 ≤ n ∧ n ≤ 9223372036854775807)
def xV (n : Int) : Int := if fits n then n else 0
def xE (n : Int) : Int := if fits n then 0 else 9
theorem fits_iff {n : Int} : fits n = true ↔ -9223372036854775808 ≤ n ∧ n ≤ 9223372036854775807 := by unfold fits; simp
theorem xV_in {n : Int} (h : -9223372036854775808 ≤ n ∧ n ≤ 9223372036854775807) : xV n = n := by unfold xV; rw [if_pos (fits_iff.2 h)]
theorem xE_in {n : Int} (h : -9223372036854775808 ≤ n ∧ n ≤ 9223372036854775807) : xE n = 0 := by unfold xE; rw [if_pos (fits_iff.2 h)]
theorem xV_out {n : Int} (h : ¬ (-9223372036854775808 ≤ n ∧ n ≤ 9223372036854775807)) : xV n = 0 := by unfold xV; rw [if_neg (mt fits_iff.1 h)]
theorem xE_out {n : Int} (h : ¬ (-9223372036854775808 ≤ n ∧ n ≤ 9223372036854775807)) : xE n = 9 := by unfold xE; rw [if_neg (mt fits_iff.1 h)]
/-- The absolute value of an integer. -/
def mg (a : Int) : Int := if a < 0 then -a else a
theorem mg_cases (a : Int) : a < 0 ∧ mg a = -a ∨ 0 ≤ a ∧ mg a = a := by unfold mg; split <;> omega
theorem mg_bd {a : Int} (h0 : -9223372036854775808 ≤ a) (h1 : a ≤ 9223372036854775807) : 0 ≤ mg a ∧ mg a ≤ 9223372036854775808 := by have := mg_cases a; omega
theorem mg_mul {a b : Int} : (a < 0 ∧ ¬ b < 0 ∨ ¬ a < 0 ∧ b < 0) ∧ a * b = -(mg a * mg b) ∨ (a < 0 ∧ b < 0 ∨ ¬ a < 0 ∧ ¬ b < 0) ∧ a * b = mg a * mg b := by
  rcases mg_cases a with ⟨h, e⟩ | ⟨h, e⟩ <;> rcases mg_cases b with ⟨k, f⟩ | ⟨k, f⟩ <;> rw [e, f] <;> simp [Int.neg_mul, Int.mul_neg] <;> omega
theorem mg_mul_nonneg {a b : Int} (h0 : -9223372036854775808 ≤ a) (h1 : a ≤ 9223372036854775807) (h2 : -9223372036854775808 ≤ b) (h3 : b ≤ 9223372036854775807) : 0 ≤ mg a * mg b :=
  Int.mul_nonneg (mg_bd h0 h1).1 (mg_bd h2 h3).1
/-- A product that was computed with wraparound is exact if and only if dividing it restores the factor. -/
theorem mul_back {a b : Int} (hb : b ≠ 0) (h2 : -9223372036854775808 ≤ b) (h3 : b ≤ 9223372036854775807) :
    (wrap64 (a * b)).tdiv b = a ↔ -9223372036854775808 ≤ a * b ∧ a * b ≤ 9223372036854775807 := by
  constructor
  · intro h
    have e := Int.tdiv_mul_add_tmod (wrap64 (a * b)) b
    rw [h] at e
    have r := (tr_bd (a := wrap64 (a * b)) hb).1
    generalize (wrap64 (a * b)).tmod b = t at *
    generalize a * b = m at *
    unfold wrap64 at e
    omega
  · intro h
    rw [show wrap64 (a * b) = a * b by unfold wrap64; omega]
    exact Int.mul_tdiv_cancel a hb
theorem gcd_step {x y : Int} (hx : 0 ≤ x) (hy : 0 ≤ y) : Int.gcd y (x % y) = Int.gcd x y := by
  obtain ⟨n, rfl⟩ := Int.eq_ofNat_of_zero_le hx
  obtain ⟨m, rfl⟩ := Int.eq_ofNat_of_zero_le hy
  rw [← Int.natCast_emod]
  show Nat.gcd m (n % m) = Nat.gcd n m
  rw [Nat.gcd_comm, Nat.gcd_comm n m, Nat.gcd_rec m n]
theorem gcd_mg (a b : Int) : Int.gcd (mg a) (mg b) = Int.gcd a b := by
  rcases mg_cases a with ⟨h, e⟩ | ⟨h, e⟩ <;> rcases mg_cases b with ⟨k, f⟩ | ⟨k, f⟩ <;> rw [e, f] <;> simp [Int.gcd]
theorem gcd_zero_right {x : Int} (hx : 0 ≤ x) : (Int.gcd x 0 : Int) = x := by simp [Int.gcd]; omega
/-- What integer.Gcd returns. -/
def gR (a b : Int) : Int := if (Int.gcd a b : Int) ≤ 9223372036854775807 then Int.gcd a b else 0
/-- The rounds of integer.inverse, at most n of them. -/
def invLoop : Nat → Int → Int → Int → Int → Int
  | 0, _, _, x, _ => x
  | n + 1, r, s, x, y => if s = 0 then x else invLoop n s (r % s) y (x - r / s * y)
/-- What integer.inverse returns. -/
def inv (a m : Int) : Int := invLoop (m.toNat + 1) a m 1 0 % m
theorem invLoop_spec (a m : Int) : ∀ (n : Nat) (r s x y : Int), s.toNat < n → 0 ≤ r → 0 ≤ s → m ∣ a * x - r → m ∣ a * y - s → Int.gcd r s = 1 → m ∣ a * invLoop n r s x y - 1 := by
  intro n
  induction n with
  | zero => intro r s x y h; omega
  | succ n ih =>
    intro r s x y hn hr hs hx hy hg
    unfold invLoop
    by_cases z : s = 0
    · rw [if_pos z]
      subst z
      have e := gcd_zero_right hr
      rw [hg] at e
      rw [← e] at hx
      exact hx
    · rw [if_neg z]
      have l := Int.emod_lt_of_pos r (show 0 < s by omega)
      have g := Int.emod_nonneg r z
      refine ih s (r % s) y (x - r / s * y) (by omega) hs g hy ?_ (by rw [gcd_step hr hs]; exact hg)
      have e := Int.mul_ediv_add_emod r s
      have t : a * (x - r / s * y) - r % s = (a * x - r) - r / s * (a * y - s) := by
        have u : r % s = r - s * (r / s) := by omega
        rw [u, Int.mul_sub, Int.mul_sub, Int.mul_left_comm a, Int.mul_comm s]; omega
      rw [t]
      exact Int.dvd_sub hx (Int.dvd_mul_of_dvd_right hy)
theorem inv_spec {a m : Int} (ha : 0 ≤ a) (hm : 0 < m) (hg : Int.gcd a m = 1) : 0 ≤ inv a m ∧ inv a m < m ∧ m ∣ a * inv a m - 1 := by
  have h := invLoop_spec a m (m.toNat + 1) a m 1 0 (by omega) ha (by omega) (by simp) (by simp [Int.dvd_neg]) hg
  unfold inv
  generalize invLoop (m.toNat + 1) a m 1 0 = v at *
  refine ⟨Int.emod_nonneg _ (by omega), Int.emod_lt_of_pos _ hm, ?_⟩
  have e := Int.mul_ediv_add_emod v m
  have t : a * (v % m) - 1 = (a * v - 1) - m * (a * (v / m)) := by
    have u : v % m = v - m * (v / m) := by omega
    rw [u, Int.mul_sub, Int.mul_left_comm a]; omega
  rw [t]
  exact Int.dvd_sub h (Int.dvd_mul_right _ _)
/-- The factors of integer.inverse stay small: X and Y are their absolute values. -/
def small (m r s x y : Int) : Prop := ∃ X Y : Int, 0 ≤ X ∧ 0 ≤ Y ∧ X ≤ m ∧ X * s + Y * r = m ∧ (x = X ∧ y = -Y ∨ x = -X ∧ y = Y)
theorem small_start {a m : Int} (hm : 1 ≤ m) : small m a m 1 0 := ⟨1, 0, by omega, by omega, hm, by omega, .inl ⟨rfl, rfl⟩⟩
theorem small_bd {m r s x y : Int} (hs : 0 ≤ s) (hr : 1 ≤ r) (h : small m r s x y) : -m ≤ x ∧ x ≤ m ∧ -m ≤ y ∧ y ≤ m := by
  obtain ⟨X, Y, x0, y0, xm, e, k⟩ := h
  have : Y * 1 ≤ Y * r := Int.mul_le_mul_of_nonneg_left hr y0
  have : 0 ≤ X * s := Int.mul_nonneg x0 hs
  omega
theorem small_step {m r s x y : Int} (hs : 1 ≤ s) (hr : 1 ≤ r) (h : small m r s x y) :
    small m s (r % s) y (x - r / s * y) ∧ -m ≤ r / s * y ∧ r / s * y ≤ m := by
  obtain ⟨X, Y, x0, y0, xm, e, k⟩ := h
  have d := Int.mul_ediv_add_emod r s
  have q0 : 0 ≤ r / s := Int.ediv_nonneg (by omega) (by omega)
  have g0 := Int.emod_nonneg r (show s ≠ 0 by omega)
  generalize r / s = q at *
  generalize r % s = t at *
  have yq : 0 ≤ q * Y := Int.mul_nonneg q0 y0
  have e2 : Y * t + (X + q * Y) * s = m := by
    have : Y * r = Y * (s * q) + Y * t := by rw [← Int.mul_add, d]
    rw [Int.add_mul]
    have : q * Y * s = Y * (s * q) := by rw [Int.mul_comm q Y, Int.mul_assoc, Int.mul_comm q s]
    omega
  have b1 : (X + q * Y) * 1 ≤ (X + q * Y) * s := Int.mul_le_mul_of_nonneg_left hs (by omega)
  have b2 : 0 ≤ Y * t := Int.mul_nonneg y0 g0
  have b3 : Y ≤ m := by
    have : Y * 1 ≤ Y * r := Int.mul_le_mul_of_nonneg_left hr y0
    have : 0 ≤ X * s := Int.mul_nonneg x0 (by omega)
    omega
  rcases k with ⟨rfl, rfl⟩ | ⟨rfl, rfl⟩
  · rw [Int.mul_neg]
    exact ⟨⟨Y, x + q * Y, y0, by omega, b3, e2, .inr ⟨rfl, by omega⟩⟩, by omega, by omega⟩
  · exact ⟨⟨y, X + q * y, y0, by omega, b3, e2, .inl ⟨rfl, by omega⟩⟩, by omega, by omega⟩
/-- The solution that integer.Meet computes, for positive moduli. -/
def meetK (A m B n g : Int) : Int := dR ((B - A).tdiv g) (n / g) * inv (m / g) (n / g) % (n / g)
/-- The floor quotient is the truncated one, less 1 where the remainder is not 0 and the signs differ. -/
theorem fq_of_signs {a b : Int} (hb : b ≠ 0) : a.fdiv b = if (a.tmod b != 0 && !(decide (a < 0) == decide (b < 0))) then a.tdiv b - 1 else a.tdiv b := by
  have t := tr_bd (a := a) hb
  by_cases z : a.tmod b = 0
  · rw [(fdm_exact hb z).1, z]; simp
  · by_cases sa : a < 0 <;> by_cases sb : b < 0 <;> simp only [sa, sb, decide_true, decide_false]
    · rw [(fdm_same hb (by omega)).1]; simp
    · rw [(fdm_other hb (by omega)).1]; simp [z]
    · rw [(fdm_other hb (by omega)).1]; simp [z]
    · rw [(fdm_same hb (by omega)).1]; simp
/-- The equation of a division, in 64 bits. -/
theorem fdm_wrap {a b : Int} (h0 : -9223372036854775808 ≤ a) (h1 : a ≤ 9223372036854775807) : wrap64 (wrap64 (a.fdiv b * b) + a.fmod b) = a := by
  have e := Int.mul_fdiv_add_fmod a b
  rw [Int.mul_comm] at e
  generalize a.fdiv b * b = m at *
  unfold wrap64; omega
end Go.Proofs.Ytdkmahdfnmoliaa

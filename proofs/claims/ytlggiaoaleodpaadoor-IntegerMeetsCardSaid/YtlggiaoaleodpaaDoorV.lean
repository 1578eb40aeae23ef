/- Plain facts on the division of 128 bits by 64 bits, digit by digit (two digits of 32 bits): no program is mentioned. -/
import Derived.WalkKit
import Derived.Laws.MathBits
import Derived.Laws.Bits64b
namespace Go.Proofs.YtlggiaoaleodpaaDoor
open Go.RowKit

/-- What holds of a trial digit q and its remainder r. -/
def DInv (A Y v1 u q r : Int) : Prop := q * v1 + r = A ∧ (A * 4294967296 + u) / Y ≤ q
theorem D_start {A Y v1 v0 u : Int} (hY : Y = v1 * 4294967296 + v0) (v10 : 2147483648 ≤ v1) (v00 : 0 ≤ v0) (v01 : v0 < 4294967296) (A0 : 0 ≤ A) (A1 : A < Y) (u1 : u < 4294967296) :
    DInv A Y v1 u (A / v1) (A - A / v1 * v1) ∧ 0 ≤ A / v1 ∧ A / v1 ≤ 4294967297 ∧ 0 ≤ A / v1 * v1 ∧ A / v1 * v1 ≤ A ∧ A - A / v1 * v1 < v1 := by
  have e := Int.mul_ediv_add_emod A v1
  have m0 := Int.emod_nonneg A (show v1 ≠ 0 by omega)
  have m1 := Int.emod_lt_of_pos A (show 0 < v1 by omega)
  have q0 : 0 ≤ A / v1 := Int.ediv_nonneg A0 (by omega)
  rw [Int.mul_comm] at e
  have q1 : A / v1 < 4294967298 := by
    apply Int.ediv_lt_of_lt_mul (by omega)
    omega
  have p : 0 ≤ A / v1 * v1 := Int.mul_nonneg q0 (by omega)
  refine ⟨⟨by omega, ?_⟩, q0, by omega, p, by omega, by omega⟩
  have : (A * 4294967296 + u) / Y < A / v1 + 1 := by
    apply Int.ediv_lt_of_lt_mul (by omega)
    have w0 : 0 ≤ (A / v1 + 1) * v0 := Int.mul_nonneg (by omega) v00
    have x : (A / v1 + 1) * Y = (A / v1 + 1) * v1 * 4294967296 + (A / v1 + 1) * v0 := by rw [hY, Int.mul_add, Int.mul_assoc]
    have y : (A / v1 + 1) * v1 = A / v1 * v1 + v1 := by rw [Int.add_mul]; omega
    rw [x, y]; omega
  omega
theorem D_body {A Y v1 v0 u q r : Int} (hY : Y = v1 * 4294967296 + v0) (v10 : 2147483648 ≤ v1) (v00 : 0 ≤ v0) (A1 : A < Y) (u0 : 0 ≤ u) (u1 : u < 4294967296)
    (h : DInv A Y v1 u q r) (t : 4294967296 ≤ q ∨ 4294967296 * r + u < q * v0) : DInv A Y v1 u (q - 1) (r + v1) := by
  obtain ⟨e, m⟩ := h
  refine ⟨by rw [Int.sub_mul]; omega, ?_⟩
  rcases t with t | t
  · have : (A * 4294967296 + u) / Y < 4294967296 := by
      apply Int.ediv_lt_of_lt_mul (by omega); omega
    omega
  · have : (A * 4294967296 + u) / Y < q := by
      apply Int.ediv_lt_of_lt_mul (by omega)
      have x : q * Y = q * v1 * 4294967296 + q * v0 := by rw [hY, Int.mul_add, Int.mul_assoc]
      rw [x]; omega
    omega
theorem D_exit {A Y v1 v0 u q r : Int} (hY : Y = v1 * 4294967296 + v0) (v10 : 2147483648 ≤ v1) (v00 : 0 ≤ v0)
    (h : DInv A Y v1 u q r) (t : q * v0 ≤ 4294967296 * r + u) : q = (A * 4294967296 + u) / Y := by
  obtain ⟨e, m⟩ := h
  have : q ≤ (A * 4294967296 + u) / Y := by
    apply Int.le_ediv_of_mul_le (by omega)
    have x : q * Y = q * v1 * 4294967296 + q * v0 := by rw [hY, Int.mul_add, Int.mul_assoc]
    rw [x]; omega
  omega
theorem D_break {A Y v1 v0 u q r : Int} (hY : Y = v1 * 4294967296 + v0) (v10 : 2147483648 ≤ v1) (v00 : 0 ≤ v0) (v01 : v0 < 4294967296) (u0 : 0 ≤ u)
    (h : DInv A Y v1 u q r) (q1 : q ≤ 4294967296) (t : 4294967296 ≤ r) : q = (A * 4294967296 + u) / Y := by
  refine D_exit hY v10 v00 h ?_
  have : q * v0 ≤ 4294967296 * v0 := Int.mul_le_mul_of_nonneg_right q1 v00
  omega
/-- The next remainder, in 64 bits. -/
theorem D_rem {A Y u : Int} (hY : 0 < Y) (Y1 : Y < 18446744073709551616) :
    ((A * 4294967296 + u) - (A * 4294967296 + u) / Y * Y) % 18446744073709551616 = (A * 4294967296 + u) % Y := by
  have e := Int.mul_ediv_add_emod (A * 4294967296 + u) Y
  rw [Int.mul_comm] at e
  have m0 := Int.emod_nonneg (A * 4294967296 + u) (show Y ≠ 0 by omega)
  have m1 := Int.emod_lt_of_pos (A * 4294967296 + u) hY
  generalize (A * 4294967296 + u) / Y * Y = p at *
  generalize A * 4294967296 + u = T at *
  omega
theorem or_add (a b : Int) (s : Nat) (a0 : 0 ≤ a) (b0 : 0 ≤ b) (b1 : b < 2 ^ s) (hm : a * 2 ^ s < 18446744073709551616) (hb : b < 18446744073709551616) :
    bits .or .u64 (a * 2 ^ s) b = a * 2 ^ s + b := by
  obtain ⟨n, rfl⟩ := Int.eq_ofNat_of_zero_le a0
  obtain ⟨m, rfl⟩ := Int.eq_ofNat_of_zero_le b0
  have e : ((n : Int) * 2 ^ s) = ((2 ^ s * n : Nat) : Int) := by rw [Int.natCast_mul, Int.mul_comm, Int.natCast_pow]; rfl
  rw [e] at hm ⊢
  have hm' : m < 2 ^ s := by
    have : ((2 ^ s : Nat) : Int) = 2 ^ s := by rw [Int.natCast_pow]; rfl
    omega
  rw [bits_or_u64_nat _ _ (by generalize 2 ^ s * n = x at *; omega) (by omega), ← Nat.two_pow_add_eq_or_of_lt hm']
  rw [Int.natCast_add]

/-- Shifting dividend and divisor: the digits. 'p' is the power of two by which they are shifted, 'p * t' is 2^64. -/
theorem D_setup {hi lo y p t : Int} (h0 : 0 ≤ hi) (h1 : hi < y) (l0 : 0 ≤ lo) (l1 : lo < 18446744073709551616) (p1 : 1 ≤ p) (t1 : 1 ≤ t) (pt : p * t = 18446744073709551616)
    (y1 : y * p < 18446744073709551616) :
    IntKind.u64.wrap (y * p) = y * p ∧ IntKind.u64.wrap (hi * p) = hi * p ∧ 0 ≤ hi * p ∧ hi * p + p ≤ y * p ∧ 0 ≤ lo / t ∧ lo / t < p ∧
    0 ≤ IntKind.u64.wrap (lo * p) ∧ IntKind.u64.wrap (lo * p) < 18446744073709551616 ∧
    (hi * 18446744073709551616 + lo) * p = (hi * p + lo / t) * 18446744073709551616 + IntKind.u64.wrap (lo * p) := by
  have yp : 0 ≤ y * p := Int.mul_nonneg (by omega) (by omega)
  have hp : 0 ≤ hi * p := Int.mul_nonneg h0 (by omega)
  have hy : (hi + 1) * p ≤ y * p := Int.mul_le_mul_of_nonneg_right (by omega) (by omega)
  rw [Int.add_mul, Int.one_mul] at hy
  have q0 : 0 ≤ lo / t := Int.ediv_nonneg l0 (by omega)
  have q1 : lo / t < p := by
    apply Int.ediv_lt_of_lt_mul (by omega); rw [pt]; exact l1
  have e := Int.mul_ediv_add_emod lo t
  have m0 := Int.emod_nonneg lo (show t ≠ 0 by omega)
  have m1 := Int.emod_lt_of_pos lo (show 0 < t by omega)
  have f : lo * p = lo / t * 18446744073709551616 + lo % t * p := by
    have : (t * (lo / t) + lo % t) * p = lo / t * (p * t) + lo % t * p := by
      rw [Int.add_mul, Int.mul_comm t (lo / t), Int.mul_assoc, Int.mul_comm t p]
    rw [e, pt] at this; exact this
  have g0 : 0 ≤ lo % t * p := Int.mul_nonneg m0 (by omega)
  have g1 : lo % t * p < 18446744073709551616 := by
    have : (lo % t + 1) * p ≤ t * p := Int.mul_le_mul_of_nonneg_right (by omega) (by omega)
    rw [Int.add_mul, Int.one_mul, Int.mul_comm t p, pt] at this
    omega
  have w : IntKind.u64.wrap (lo * p) = lo % t * p := by rw [IntKind.wrap_u64, f]; omega
  refine ⟨by rw [IntKind.wrap_u64]; omega, by rw [IntKind.wrap_u64]; omega, hp, hy, q0, q1, by rw [w]; exact g0, by rw [w]; exact g1, ?_⟩
  rw [w, Int.add_mul, f, Int.add_mul]
  have : hi * 18446744073709551616 * p = hi * p * 18446744073709551616 := by rw [Int.mul_assoc, Int.mul_comm 18446744073709551616 p, ← Int.mul_assoc]
  rw [this]; omega
/-- The last remainder, shifted back. -/
theorem D_last {N y p A L u v : Int} (p1 : 1 ≤ p) (h : N * p = A * 18446744073709551616 + L) (hL : L = u * 4294967296 + v) :
    ((A * 4294967296 + u) % (y * p) * 4294967296 + v) % (y * p) / p = N % y := by
  have e := Int.mul_ediv_add_emod (A * 4294967296 + u) (y * p)
  have k : ((A * 4294967296 + u) % (y * p) * 4294967296 + v) % (y * p) = (N * p) % (y * p) := by
    have : N * p = ((A * 4294967296 + u) % (y * p) * 4294967296 + v) + y * p * ((A * 4294967296 + u) / (y * p) * 4294967296) := by
      rw [h, hL]
      generalize (A * 4294967296 + u) % (y * p) = r at *
      rw [← Int.mul_assoc]
      generalize y * p * ((A * 4294967296 + u) / (y * p)) = z at *
      omega
    rw [this, Int.add_mul_emod_self_left]
  rw [k, Int.mul_comm N p, Int.mul_comm y p, Int.mul_emod_mul_of_pos _ _ (by omega), Int.mul_ediv_cancel_left _ (by omega)]
theorem D_wrap {A Y u q : Int} (hY : 0 < Y) (Y1 : Y < 18446744073709551616) (hq : q = (A * 4294967296 + u) / Y) :
    IntKind.u64.wrap (IntKind.u64.wrap (IntKind.u64.wrap (A * 4294967296) + u) - IntKind.u64.wrap (q * Y)) = (A * 4294967296 + u) % Y := by
  have d := D_rem (A := A) (u := u) hY Y1
  rw [← hq] at d
  rw [← d, IntKind.wrap_u64, IntKind.wrap_u64, IntKind.wrap_u64, IntKind.wrap_u64]
  generalize q * Y = z
  omega
end Go.Proofs.YtlggiaoaleodpaaDoor

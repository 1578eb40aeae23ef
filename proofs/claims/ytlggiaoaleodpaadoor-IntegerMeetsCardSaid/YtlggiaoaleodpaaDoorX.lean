/- Contracts of bits.Rem64, of integer.productMod and of integer.Meet, at every input. -/
import Derived.Test.YtlggiaoaleodpaaDoorU
import Derived.Test.YtlggiaoaleodpaaDoorE
import Derived.Lib.ItoaNum
namespace Go.Proofs.YtlggiaoaleodpaaDoor
open Go.RowKit
set_option linter.unusedVariables false

theorem bitLen_bd (x : Nat) (h0 : x ≠ 0) (h1 : x < 9223372036854775808) : 1 ≤ Lib.bitLen x ∧ Lib.bitLen x ≤ 63 ∧ 2 ^ (Lib.bitLen x - 1) ≤ x ∧ x < 2 ^ Lib.bitLen x := by
  obtain ⟨a, b, c⟩ := Lib.bitLenAux_bounds 64 x (by omega) h0
  have d := Lib.bitLen_le x 63 (by omega) (by omega)
  exact ⟨a, d, b, c⟩
theorem div64_rem (hi lo y : Int) (h0 : 0 ≤ hi) (h1 : hi < y) (h2 : y ≤ 9223372036854775807) (l0 : 0 ≤ lo) (l1 : lo < 18446744073709551616) (w : World) :
    Calls Tryd.prog 54 #[.int .u64 hi, .int .u64 lo, .int .u64 y] w fun e w' => ∃ q, e = .returned (.tuple #[.int .u64 q, .int .u64 ((hi * 18446744073709551616 + lo) % y)]) ∧ ∃ n, w' = w.drewN n := by
  by_cases hz : hi = 0
  · subst hz
    refine (div64_low lo y l0 l1 (by omega) (by omega) w).mono fun e w' ⟨he, hw⟩ => ⟨lo / y, ?_, hw⟩
    rw [he, Int.zero_mul, Int.zero_add]
  · obtain ⟨n, rfl⟩ := Int.eq_ofNat_of_zero_le (show 0 ≤ y by omega)
    obtain ⟨b0, b1, b2, b3⟩ := bitLen_bd n (by omega) (by omega)
    have HZ := fun w => Tryd.bits_LeadingZeros64 (n : Int) w (by omega) (by omega)
    rw [Int.toNat_natCast] at HZ
    generalize Lib.bitLen n = b at *
    -- the powers of two
    obtain ⟨k, hk⟩ : ∃ k : Nat, k = 64 - b := ⟨_, rfl⟩
    have es : (64 : Int) - (b : Int) = (k : Int) := by omega
    rw [es] at HZ
    have hpow : (2 : Nat) ^ k * 2 ^ b = 18446744073709551616 := by
      rw [← Nat.pow_add, show k + b = 64 by omega]
    have hlow : (2 : Nat) ^ k * 2 ^ (b - 1) = 9223372036854775808 := by
      rw [← Nat.pow_add, show k + (b - 1) = 63 by omega]
    have P1 : 1 ≤ (2 : Nat) ^ k := Nat.one_le_two_pow
    have T1 : 1 ≤ (2 : Nat) ^ b := Nat.one_le_two_pow
    have e1 : (64 - (k : Int)).toNat = b := by omega
    have cp : ((2 ^ k : Nat) : Int) = (2 : Int) ^ k := by rw [Int.natCast_pow]; rfl
    have ct : ((2 ^ b : Nat) : Int) = (2 : Int) ^ b := by rw [Int.natCast_pow]; rfl
    have ylo : 9223372036854775808 ≤ 2 ^ k * n := by rw [← hlow]; exact Nat.mul_le_mul_left _ b2
    have yhi : 2 ^ k * n < 18446744073709551616 := by rw [← hpow]; exact Nat.mul_lt_mul_of_pos_left b3 (by omega)
    have pt : ((2 : Int) ^ k) * (2 : Int) ^ b = 18446744073709551616 := by
      rw [← cp, ← ct, ← Int.natCast_mul, hpow]; rfl
    have yp : (n : Int) * (2 : Int) ^ k = ((2 ^ k * n : Nat) : Int) := by rw [← cp, ← Int.natCast_mul, Nat.mul_comm]
    have p1 : (1 : Int) ≤ 2 ^ k := by rw [← cp]; omega
    have t1 : (1 : Int) ≤ 2 ^ b := by rw [← ct]; omega
    have lt : lo / 2 ^ b < 2 ^ k := by
      apply Int.ediv_lt_of_lt_mul (by omega); rw [pt]; exact l1
    obtain ⟨f1, f2, f3, f4, f5, f6, f7, f8, f9⟩ := D_setup (hi := hi) (lo := lo) (y := (n : Int)) (p := 2 ^ k) (t := 2 ^ b) h0 h1 l0 l1 p1 t1 pt (by rw [yp]; omega)
    have fo : bits .or .u64 (hi * 2 ^ k) (lo / 2 ^ b) = hi * 2 ^ k + lo / 2 ^ b := or_add hi (lo / 2 ^ b) k h0 f5 f6 (by omega) (by omega)
    have ek : ((k : Int)).toNat = k := Int.toNat_natCast k
    have YB : (n : Int) * 2 ^ k < 18446744073709551616 := by rw [yp]; omega
    have YA : 9223372036854775808 ≤ (n : Int) * 2 ^ k := by rw [yp]; omega
    clear cp ct ylo yhi yp hpow hlow P1 T1 b2 b3 lt
    have hlast := D_last (N := hi * 18446744073709551616 + lo) (y := (n : Int)) (p := 2 ^ k) (u := IntKind.u64.wrap (lo * 2 ^ k) / 4294967296) (v := IntKind.u64.wrap (lo * 2 ^ k) % 4294967296) p1 f9 (by omega)
    have main := div64_any hi lo n k (2 ^ k) (2 ^ b) (n * 2 ^ k) (hi * 2 ^ k) (lo / 2 ^ b) (hi * 2 ^ k + lo / 2 ^ b) (IntKind.u64.wrap (lo * 2 ^ k)) (n * 2 ^ k / 4294967296) (n * 2 ^ k % 4294967296) (IntKind.u64.wrap (lo * 2 ^ k) / 4294967296) (IntKind.u64.wrap (lo * 2 ^ k) % 4294967296) _
      (by omega) h1 h2 l0 l1 (by omega) (by omega) (by rw [ek]) (by rw [e1]) f1 f2 rfl fo rfl rfl (and_low32 _ (by omega) YB) rfl (and_low32 _ f7 f8) YB (by omega) (by omega) f7 f8 (by omega) (by omega) (by omega) (by omega) (by omega) (by omega) (by omega) (by omega) (by omega) hlast w HZ
    refine main.mono fun e w' ⟨q, he, hw⟩ => ⟨q, he, 0, ?_⟩
    rw [← hw]; rfl
theorem rem64_any (hi lo y : Int) (h0 : 0 ≤ hi) (h1 : hi < y) (h2 : y ≤ 9223372036854775807) (l0 : 0 ≤ lo) (l1 : lo < 18446744073709551616) (w : World) :
    Calls Tryd.prog 42 #[.int .u64 hi, .int .u64 lo, .int .u64 y] w fun e w' => e = .returned (.int .u64 ((hi * 18446744073709551616 + lo) % y)) ∧ ∃ n, w' = w.drewN n := by
  have HD := Lib.hid (fun w => div64_rem hi lo y h0 h1 h2 l0 l1 w)
  have e : hi % y = hi := Int.emod_eq_of_lt h0 h1
  have y0 : ¬ y = 0 := by omega
  generalize (hi * 18446744073709551616 + lo) % y = R at *
  go_enter Tryd.func42, Tryd.ntmps42
  go_wp2_with fail
  refine (HD.out _).mono ?_
  rintro e w' ⟨q, rfl, n, rfl⟩
  go_wp2
  go_ret
  exact ⟨rfl, _, rfl⟩
theorem prodMod_all : ProdMod 9223372036854775807 := by
  intro a b m w a0 a1 b0 b1 m0 m1
  have p0 : 0 ≤ a * b := Int.mul_nonneg a0 b0
  have p1 : a * b ≤ m * m := Int.mul_le_mul (by omega) (by omega) b0 (by omega)
  have p2 : m * m ≤ m * 9223372036854775807 := Int.mul_le_mul_of_nonneg_left m1 (by omega)
  have r0 := Int.emod_nonneg (a * b) (show m ≠ 0 by omega)
  have r1 := Int.emod_lt_of_pos (a * b) (show 0 < m by omega)
  obtain ⟨H, L, e, L0, L1⟩ : ∃ H L : Int, a * b = H * 18446744073709551616 + L ∧ 0 ≤ L ∧ L < 18446744073709551616 := ⟨a * b / 18446744073709551616, a * b % 18446744073709551616, by omega, by omega, by omega⟩
  have H0 : 0 ≤ H := by omega
  have H1 : H < m := by omega
  have HM := Lib.hid (fun w => mul64_at a b H L a0 (by omega) b0 (by omega) e L0 L1 w)
  have HR := fun w => rem64_any H L m H0 H1 m1 L0 L1 w
  rw [← e] at HR
  replace HR := Lib.hid HR
  clear p1 p2 e
  generalize a * b = p at *
  go_enter Tryd.func31, Tryd.ntmps31
  go_wp2_with fail
  refine (HM.out _).mono ?_
  rintro e w' ⟨rfl, rfl⟩
  go_wp2_with fail
  refine (HR.out _).mono ?_
  rintro e w' ⟨rfl, n, rfl⟩
  go_wp2
  go_ret
  exact ⟨rfl, _, rfl⟩
end Go.Proofs.YtlggiaoaleodpaaDoor

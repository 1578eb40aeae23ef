/- Plain facts on two congruences: their solution, and that it is the only one below the least common multiple. -/
import Derived.Test.YtlggiaoaleodpaaDoorE
namespace Go.Proofs.YtlggiaoaleodpaaDoor
open Go.RowKit
set_option linter.unusedVariables false

theorem coprime_dvd {M N c v : Int} (h : N ∣ M * v - 1) (hd : M ∣ N * c) : M ∣ c := by
  obtain ⟨z, hz⟩ := h
  obtain ⟨d, hd⟩ := hd
  refine ⟨v * c - z * d, ?_⟩
  have e : M * v * c - N * z * c = c := by
    rw [← Int.sub_mul, show M * v - N * z = 1 by omega, Int.one_mul]
  have f : N * z * c = M * (z * d) := by
    rw [Int.mul_assoc, Int.mul_left_comm, hd, Int.mul_left_comm]
  rw [Int.mul_sub, ← f, ← Int.mul_assoc]; omega
theorem inv_unique {M N v v' : Int} (h : N ∣ M * v - 1) (h' : N ∣ M * v' - 1) : N ∣ v - v' := by
  have e : v - v' = v' * (M * v - 1) - v * (M * v' - 1) := by
    rw [Int.mul_sub, Int.mul_sub, Int.mul_left_comm v', Int.mul_left_comm v, Int.mul_comm v' v]; omega
  rw [e]
  exact Int.dvd_sub (Int.dvd_mul_of_dvd_right h) (Int.dvd_mul_of_dvd_right h')
theorem below_eq {N a b : Int} (h : N ∣ a - b) (a0 : 0 ≤ a) (a1 : a < N) (b0 : 0 ≤ b) (b1 : b < N) : a = b := by
  have := Int.eq_zero_of_dvd_of_natAbs_lt_natAbs h (by omega)
  omega
/-- What the positive moduli and their greatest common divisor give. -/
theorem gcd_parts {m n : Int} (m1 : 1 ≤ m) (m2 : m ≤ 9223372036854775807) (n1 : 1 ≤ n) :
    1 ≤ gR m n ∧ gR m n * (m / gR m n) = m ∧ gR m n * (n / gR m n) = n ∧ 1 ≤ m / gR m n ∧ 1 ≤ n / gR m n ∧ Int.gcd (m / gR m n) (n / gR m n) = 1 := by
  obtain ⟨g1, g2⟩ := gR_pos (b := n) m1 m2
  have e := gR_gcd (n := n) m1 m2
  have hg : 0 < Int.gcd m n := by omega
  have c := Int.gcd_ediv_gcd_ediv_gcd hg
  rw [← e] at c
  have gd : gR m n ∣ m ∧ gR m n ∣ n := by rw [e]; exact ⟨Int.gcd_dvd_left m n, Int.gcd_dvd_right m n⟩
  have M1 : 0 < m / gR m n := Int.ediv_pos_of_pos_of_dvd (by omega) (by omega) gd.1
  have N1 : 0 < n / gR m n := Int.ediv_pos_of_pos_of_dvd (by omega) (by omega) gd.2
  exact ⟨g1, Int.mul_ediv_cancel' gd.1, Int.mul_ediv_cancel' gd.2, by omega, by omega, c⟩
/-- The solution of integer.Meet solves both congruences, and lies below the least common multiple. -/
theorem meet_solves {A m B n : Int} (m1 : 1 ≤ m) (m2 : m ≤ 9223372036854775807) (n1 : 1 ≤ n) (A0 : 0 ≤ A) (A1 : A < m) (h : (B - A).tmod (gR m n) = 0) :
    0 ≤ A + meetK A m B n (gR m n) * m ∧ A + meetK A m B n (gR m n) * m < m / gR m n * n ∧ m ∣ A + meetK A m B n (gR m n) * m - A ∧ n ∣ A + meetK A m B n (gR m n) * m - B := by
  obtain ⟨g1, em, en, M1, N1, co⟩ := gcd_parts m1 m2 n1
  have tq := Int.tdiv_mul_add_tmod (B - A) (gR m n)
  rw [h] at tq
  obtain ⟨-, -, hv⟩ := inv_spec (show 0 ≤ m / gR m n by omega) (show 0 < n / gR m n by omega) co
  unfold meetK
  rw [dR_pos (by omega)]
  generalize (B - A).tdiv (gR m n) = T at *
  generalize inv (m / gR m n) (n / gR m n) = v at *
  generalize gR m n = g at *
  have k0 := Int.emod_nonneg (T % (n / g) * v) (show n / g ≠ 0 by omega)
  have k1 := Int.emod_lt_of_pos (T % (n / g) * v) (show 0 < n / g by omega)
  have e := Int.mul_ediv_add_emod (T % (n / g) * v) (n / g)
  have e2 := Int.mul_ediv_add_emod T (n / g)
  generalize T % (n / g) * v % (n / g) = K at *
  generalize T % (n / g) * v / (n / g) = z1 at *
  have hK : n / g ∣ K * (m / g) - T := by
    obtain ⟨z, hz⟩ := hv
    generalize T % (n / g) = t at *
    generalize T / (n / g) = z2 at *
    generalize n / g = N at *
    generalize m / g = M at *
    -- K = t v - N z1, T = N z2 + t, M v = 1 + N z
    refine ⟨t * z - z1 * M - z2, ?_⟩
    have hk : K = t * v - N * z1 := by omega
    have ht : T = N * z2 + t := by omega
    rw [hk, ht, Int.sub_mul, Int.mul_sub, Int.mul_sub]
    have a : t * v * M = t + N * (t * z) := by
      rw [Int.mul_assoc, Int.mul_comm v M, show M * v = 1 + N * z by omega, Int.mul_add, Int.mul_one, Int.mul_left_comm]
    have b : N * z1 * M = N * (z1 * M) := Int.mul_assoc _ _ _
    rw [a, b]; omega
  have Km : K * m = g * (K * (m / g)) := by rw [Int.mul_left_comm, em]
  have KM0 : 0 ≤ K * m := Int.mul_nonneg k0 (by omega)
  have KM : K * m + m ≤ m / g * n := by
    have e1 : m / g * n = n / g * m := by
      have u : m / g * (g * (n / g)) = n / g * (g * (m / g)) := by rw [Int.mul_comm g (n / g), Int.mul_comm g (m / g), Int.mul_left_comm]
      rw [en, em] at u
      exact u
    rw [e1]
    have : (K + 1) * m ≤ n / g * m := Int.mul_le_mul_of_nonneg_right (by omega) (by omega)
    rw [Int.add_mul] at this
    omega
  refine ⟨by omega, by omega, ⟨K, by rw [Int.mul_comm]; omega⟩, ?_⟩
  obtain ⟨z, hz⟩ := hK
  refine ⟨z, ?_⟩
  rw [Km, show K * (m / g) = n / g * z + T by omega, Int.mul_add, ← Int.mul_assoc, en, Int.mul_comm g T]
  omega
/-- A common multiple of both moduli is one of the least common multiple. -/
theorem lcm_dvd_of {m n d : Int} (m1 : 1 ≤ m) (m2 : m ≤ 9223372036854775807) (n1 : 1 ≤ n) (hm : m ∣ d) (hn : n ∣ d) : m / gR m n * n ∣ d := by
  obtain ⟨g1, em, en, M1, N1, co⟩ := gcd_parts m1 m2 n1
  obtain ⟨-, -, hv⟩ := inv_spec (show 0 ≤ m / gR m n by omega) (show 0 < n / gR m n by omega) co
  generalize inv (m / gR m n) (n / gR m n) = v at *
  generalize gR m n = g at *
  obtain ⟨c, rfl⟩ := hn
  have : m / g ∣ n / g * c := by
    apply Int.dvd_of_mul_dvd_mul_left (show g ≠ 0 by omega)
    rw [em, ← Int.mul_assoc, en]; exact hm
  have hc := coprime_dvd hv this
  rw [Int.mul_comm (m / g) n]
  exact Int.mul_dvd_mul_left n hc
end Go.Proofs.YtlggiaoaleodpaaDoor

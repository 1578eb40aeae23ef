/- The walk of IntegerSolves: the Go text returns true, at every input. -/
import Derived.Test.YtlggiaoaleodpaaDoorX
import Derived.Test.YtlggiaoaleodpaaDoorY
import Derived.Test.YtlggiaoaleodpaaDoorT
import Derived.OpenShut
namespace Go.Proofs.YtlggiaoaleodpaaDoor
open Go.RowKit
set_option linter.unusedVariables false

theorem tmod_of_dvd {a b : Int} (h : b ∣ a) : a.tmod b = 0 := Int.dvd_iff_tmod_eq_zero.1 h
theorem emod_dvd (x m : Int) : m ∣ x % m - x := ⟨-(x / m), by have := Int.mul_ediv_add_emod x m; rw [Int.mul_neg]; omega⟩
/-- The solution for two remainders of one number is that number's remainder. -/
theorem solves {x m n : Int} (m1 : 1 ≤ m) (m2 : m ≤ 9223372036854775807) (n1 : 1 ≤ n) :
    (x % n - x % m).tmod (gR m n) = 0 ∧ x % m + meetK (x % m) m (x % n) n (gR m n) * m = x % (m / gR m n * n) ∧ 1 ≤ m / gR m n * n := by
  obtain ⟨g1, em, en, M1, N1, co⟩ := gcd_parts m1 m2 n1
  have gm : gR m n ∣ m := ⟨_, em.symm⟩
  have gn : gR m n ∣ n := ⟨_, en.symm⟩
  have hd : (x % n - x % m).tmod (gR m n) = 0 := by
    apply tmod_of_dvd
    have : x % n - x % m = (x % n - x) - (x % m - x) := by omega
    rw [this]
    exact Int.dvd_sub (Int.dvd_trans gn (emod_dvd x n)) (Int.dvd_trans gm (emod_dvd x m))
  have a0 := Int.emod_nonneg x (show m ≠ 0 by omega)
  have a1 := Int.emod_lt_of_pos x (show 0 < m by omega)
  obtain ⟨s0, s1, s2, s3⟩ := meet_solves (A := x % m) (B := x % n) m1 m2 n1 a0 a1 hd
  have lp : 0 < m / gR m n * n := by omega
  have ml : m ∣ m / gR m n * n := by
    refine ⟨n / gR m n, ?_⟩
    have u : m / gR m n * (gR m n * (n / gR m n)) = gR m n * (m / gR m n) * (n / gR m n) := by rw [← Int.mul_assoc, Int.mul_comm (m / gR m n)]
    rw [en, em] at u; exact u
  have nl : n ∣ m / gR m n * n := Int.dvd_mul_left _ _
  refine ⟨hd, ?_, by omega⟩
  refine below_eq (lcm_dvd_of m1 m2 n1 ?_ ?_) s0 s1 (Int.emod_nonneg _ (by omega)) (Int.emod_lt_of_pos _ lp)
  · have e : ∀ Y L : Int, Y - L = (Y - x % m) + (x % m - x) - (L - x) := fun Y L => by omega
    rw [e]
    exact Int.dvd_sub (Int.dvd_add s2 (emod_dvd x m)) (Int.dvd_trans ml (emod_dvd x _))
  · have e : ∀ Y L : Int, Y - L = (Y - x % n) + (x % n - x) - (L - x) := fun Y L => by omega
    rw [e]
    exact Int.dvd_sub (Int.dvd_add s3 (emod_dvd x n)) (Int.dvd_trans nl (emod_dvd x _))
namespace IntegerSolves
set_option maxRecDepth 100000 in
set_option maxHeartbeats 1000000 in
theorem walk (x m n : Int) (w0 : (Lit.int .i64 x).wf = true) (w1 : (Lit.int .i64 m).wf = true) (w2 : (Lit.int .i64 n).wf = true) (w : World) (htab : Tab w) :
    Calls Tryd.prog 8 #[.int .i64 x, .int .i64 m, .int .i64 n] w fun e w' => e = .returned (.bool true) ∧ Below w.heap.size w w' := by
  obtain ⟨h0, h1⟩ := bounds_i64 w0
  obtain ⟨h2, h3⟩ := bounds_i64 w1
  obtain ⟨h4, h5⟩ := bounds_i64 w2
  have HW := Lib.hid (awake_all w htab)
  have HV := Lib.hid (fun w' (h : Below w.heap.size w w') => awake_all w' (tab_below htab h))
  clear w0 w1 w2 htab
  by_cases a : m < 1
  · have k1 : decide (m < 1) = true := decide_eq_true a
    go_enter Tryd.func8, Tryd.ntmps8
    go_wp2_with fail
    refine HW.out.mono ?_
    rintro e w1 ⟨rfl, hb⟩
    go_wp2_with fail
    refine (HV.out _ hb).mono ?_
    rintro e w2 ⟨rfl, hb2⟩
    go_wp2
    go_ret
    exact ⟨rfl, hb.trans (hb2.mono hb.size)⟩
  by_cases b : n < 1
  · have k1 : decide (m < 1) = false := decide_eq_false a
    have k2 : decide (n < 1) = true := decide_eq_true b
    go_enter Tryd.func8, Tryd.ntmps8
    go_wp2_with fail
    refine HW.out.mono ?_
    rintro e w1 ⟨rfl, hb⟩
    go_wp2_with fail
    refine (HV.out _ hb).mono ?_
    rintro e w2 ⟨rfl, hb2⟩
    go_wp2
    go_ret
    exact ⟨rfl, hb.trans (hb2.mono hb.size)⟩
  have k1 : decide (m < 1) = false := decide_eq_false a
  have k2 : decide (n < 1) = false := decide_eq_false b
  have m1 : 1 ≤ m := by omega
  have n1 : 1 ≤ n := by omega
  have HA := fun w => mod_all x m h0 h1 h2 h3 w
  have HB := fun w => mod_all x n h0 h1 h4 h5 w
  have HL := fun w => lcm_all m n h2 h3 h4 h5 w
  rw [dR_pos (by omega)] at HA HB
  have a0 := Int.emod_nonneg x (show m ≠ 0 by omega)
  have a1 := Int.emod_lt_of_pos x (show 0 < m by omega)
  have b0 := Int.emod_nonneg x (show n ≠ 0 by omega)
  have b1 := Int.emod_lt_of_pos x (show 0 < n by omega)
  obtain ⟨s1, s2, s3⟩ := solves (x := x) m1 h3 n1
  by_cases hl : lE m n = 0
  · obtain ⟨-, -, le, lb⟩ := lE_ok hl
    have HM := fun w => meet_yes 9223372036854775807 prodMod_all (x % m) m (x % n) n (by omega) (by omega) h3 (by omega) (by omega) (by omega) h5 hl w
    rw [dR_pos (by omega), dR_pos (by omega), Int.emod_eq_of_lt a0 a1, Int.emod_eq_of_lt b0 b1, if_pos s1, s2, le] at HM
    rw [hl, le] at HL
    have HX := fun w => mod_all x (m / gR m n * n) h0 h1 (by omega) lb w
    rw [dR_pos (by omega)] at HX
    generalize m / gR m n * n = l at *
    generalize x % m = A at *
    generalize x % n = B at *
    generalize x % l = X at *
    replace HA := Lib.hid HA
    replace HB := Lib.hid HB
    replace HL := Lib.hid HL
    replace HM := Lib.hid HM
    replace HX := Lib.hid HX
    clear s1 s2 le a b hl
    go_enter Tryd.func8, Tryd.ntmps8
    go_wp2_with fail
    refine HW.out.mono ?_
    rintro e w1 ⟨rfl, hb⟩
    go_wp2_with fail
    refine (HA.out _).mono ?_
    rintro e w' ⟨rfl, n1, rfl⟩
    go_wp2_with fail
    refine (HB.out _).mono ?_
    rintro e w' ⟨rfl, n2, rfl⟩
    go_wp2_with fail
    refine (HM.out _).mono ?_
    rintro e w' ⟨rfl, n3, rfl⟩
    go_wp2_with fail
    refine (HL.out _).mono ?_
    rintro e w' ⟨rfl, n4, rfl⟩
    go_wp2_with fail
    refine (HX.out _).mono ?_
    rintro e w' ⟨rfl, n5, rfl⟩
    go_wp2
    go_ret
    exact ⟨rfl, below_drewN hb _⟩
  · have HM := fun w => meet_no (x % m) m (x % n) n (by omega) (by omega) h2 h3 (by omega) (by omega) h4 h5 hl w
    have el : lR m n = 0 := by
      unfold lE at hl
      unfold lR
      rw [if_neg (by omega)] at hl ⊢
      unfold xE at hl
      unfold xV
      split at hl
      · exact absurd rfl hl
      · rw [if_neg (by assumption)]
    rw [el] at HL
    generalize lE m n = f at *
    have kf : (f != 0) = true := by simpa using hl
    generalize x % m = A at *
    generalize x % n = B at *
    replace HA := Lib.hid HA
    replace HB := Lib.hid HB
    replace HL := Lib.hid HL
    replace HM := Lib.hid HM
    clear s1 s2 s3 el a b hl
    go_enter Tryd.func8, Tryd.ntmps8
    go_wp2_with fail
    refine HW.out.mono ?_
    rintro e w1 ⟨rfl, hb⟩
    go_wp2_with fail
    refine (HA.out _).mono ?_
    rintro e w' ⟨rfl, n1, rfl⟩
    go_wp2_with fail
    refine (HB.out _).mono ?_
    rintro e w' ⟨rfl, n2, rfl⟩
    go_wp2_with fail
    refine (HM.out _).mono ?_
    rintro e w' ⟨rfl, n3, rfl⟩
    go_wp2_with fail
    refine (HL.out _).mono ?_
    rintro e w' ⟨rfl, n4, rfl⟩
    go_wp2
    go_ret
    exact ⟨rfl, below_drewN hb _⟩
end IntegerSolves
end Go.Proofs.YtlggiaoaleodpaaDoor

/- The contract of integer.Meet, given one of productMod; the examples of the chapter. -/
import Derived.Test.YtlggiaoaleodpaaDoorD
namespace Go.Proofs.YtlggiaoaleodpaaDoor
open Go.RowKit
set_option linter.unusedVariables false

theorem meet_no (a m b n : Int) (h0 : -9223372036854775808 ≤ a) (h1 : a ≤ 9223372036854775807) (h2 : -9223372036854775808 ≤ m) (h3 : m ≤ 9223372036854775807)
    (h4 : -9223372036854775808 ≤ b) (h5 : b ≤ 9223372036854775807) (h6 : -9223372036854775808 ≤ n) (h7 : n ≤ 9223372036854775807) (hl : lE m n ≠ 0) (w : World) :
    Calls Tryd.prog 23 #[.int .i64 a, .int .i64 m, .int .i64 b, .int .i64 n] w fun e w' => e = .returned (.tuple #[.int .i64 0, .int .i64 0, .bool false]) ∧ ∃ n, w' = w.drewN n := by
  have HL := Lib.hid (fun w => lcm_all m n h2 h3 h6 h7 w)
  generalize lR m n = l at *
  generalize lE m n = f at *
  have k : (f != 0) = true := by simpa using hl
  clear hl
  go_enter Tryd.func23, Tryd.ntmps23
  go_wp2_with fail
  refine (HL.out _).mono ?_
  rintro e w' ⟨rfl, n, rfl⟩
  go_wp2
  go_ret3
  exact ⟨rfl, _, rfl⟩
theorem lE_ok {m n : Int} (hl : lE m n = 0) : 1 ≤ m ∧ 1 ≤ n ∧ lR m n = m / gR m n * n ∧ m / gR m n * n ≤ 9223372036854775807 := by
  unfold lE at hl
  by_cases h : m < 1 ∨ n < 1
  · rw [if_pos h] at hl; omega
  · rw [if_neg h] at hl
    refine ⟨by omega, by omega, ?_⟩
    unfold lR
    rw [if_neg h]
    generalize m / gR m n * n = p at *
    by_cases q : -9223372036854775808 ≤ p ∧ p ≤ 9223372036854775807
    · rw [xV_in q]; exact ⟨rfl, q.2⟩
    · rw [xE_out q] at hl; omega
theorem gR_gcd {m n : Int} (hm : 1 ≤ m) (h3 : m ≤ 9223372036854775807) : gR m n = Int.gcd m n := by
  have hd : (Int.gcd m n : Int) ∣ m := Int.gcd_dvd_left m n
  have hle := Int.le_of_dvd (by omega) hd
  unfold gR; rw [if_pos (by omega)]
set_option maxHeartbeats 1000000 in
theorem meet_yes (C : Int) (hP : ProdMod C) (a m b n : Int) (h0 : -9223372036854775808 ≤ a) (h1 : a ≤ 9223372036854775807) (h3 : m ≤ C) (hC : C ≤ 9223372036854775807)
    (h4 : -9223372036854775808 ≤ b) (h5 : b ≤ 9223372036854775807) (h7 : n ≤ C) (hl : lE m n = 0) (w : World) :
    Calls Tryd.prog 23 #[.int .i64 a, .int .i64 m, .int .i64 b, .int .i64 n] w fun e w' =>
      e = .returned (if (dR b n - dR a m).tmod (gR m n) = 0 then .tuple #[.int .i64 (dR a m + meetK (dR a m) m (dR b n) n (gR m n) * m), .int .i64 (lR m n), .bool true] else .tuple #[.int .i64 0, .int .i64 0, .bool false]) ∧ ∃ n, w' = w.drewN n := by
  obtain ⟨m1, n1, le, lb⟩ := lE_ok hl
  obtain ⟨g1, g2⟩ := gR_pos (b := n) m1 (show m ≤ 9223372036854775807 by omega)
  have gd : gR m n ∣ m ∧ gR m n ∣ n := by rw [gR_gcd m1 (by omega)]; exact ⟨Int.gcd_dvd_left m n, Int.gcd_dvd_right m n⟩
  have HL := Lib.hid (fun w => lcm_all m n (by omega) (by omega) (by omega) (by omega) w)
  have HA := Lib.hid (fun w => mod_all a m h0 h1 (by omega) (by omega) w)
  have HB := Lib.hid (fun w => mod_all b n h4 h5 (by omega) (by omega) w)
  have HG := Lib.hid (fun w => gcd_all m n (by omega) (by omega) (by omega) (by omega) w)
  have a0 : 0 ≤ dR a m ∧ dR a m < m := by rw [dR_pos (by omega)]; exact ⟨Int.emod_nonneg _ (by omega), Int.emod_lt_of_pos _ (by omega)⟩
  have b0 : 0 ≤ dR b n ∧ dR b n < n := by rw [dR_pos (by omega)]; exact ⟨Int.emod_nonneg _ (by omega), Int.emod_lt_of_pos _ (by omega)⟩
  unfold meetK
  rw [hl] at HL
  generalize dR a m = A at *
  generalize dR b n = B at *
  generalize lR m n = l at *
  obtain ⟨hm, hn⟩ := gd
  generalize gR m n = g at *
  obtain ⟨a0, a1⟩ := a0
  obtain ⟨b0, b1⟩ := b0
  have em : g * (m / g) = m := Int.mul_ediv_cancel' hm
  have en : g * (n / g) = n := Int.mul_ediv_cancel' hn
  have M1 : 1 ≤ m / g := by
    have : 0 < m / g := Int.ediv_pos_of_pos_of_dvd (by omega) (by omega) hm
    omega
  have N1 : 1 ≤ n / g := by
    have : 0 < n / g := Int.ediv_pos_of_pos_of_dvd (by omega) (by omega) hn
    omega
  have M2 : m / g ≤ m := Int.ediv_le_self _ (by omega)
  have N2 : n / g ≤ n := Int.ediv_le_self _ (by omega)
  have tm := tr_bd (a := B - A) (b := g) (by omega)
  have tb := tq_bd (a := B - A) (b := g) (by omega) (by omega) (by omega) (by omega)
  have HT := Lib.hid (fun w => mod_all ((B - A).tdiv g) (n / g) tb.1 tb.2 (by omega) (by omega) w)
  have HV := Lib.hid (fun w => inverse_all (m / g) (n / g) M1 (by omega) N1 (by omega) w)
  have k1 : 0 ≤ dR ((B - A).tdiv g) (n / g) ∧ dR ((B - A).tdiv g) (n / g) < n / g := by rw [dR_pos (by omega)]; exact ⟨Int.emod_nonneg _ (by omega), Int.emod_lt_of_pos _ (by omega)⟩
  have k2 : 0 ≤ inv (m / g) (n / g) ∧ inv (m / g) (n / g) < n / g := by unfold inv; exact ⟨Int.emod_nonneg _ (by omega), Int.emod_lt_of_pos _ (by omega)⟩
  have HK := Lib.hid (fun w => hP _ _ _ w k1.1 k1.2 k2.1 k2.2 N1 (by omega))
  have K0 := Int.emod_nonneg (dR ((B - A).tdiv g) (n / g) * inv (m / g) (n / g)) (show n / g ≠ 0 by omega)
  have K1 := Int.emod_lt_of_pos (dR ((B - A).tdiv g) (n / g) * inv (m / g) (n / g)) (show 0 < n / g by omega)
  generalize dR ((B - A).tdiv g) (n / g) = x1 at *
  generalize inv (m / g) (n / g) = x2 at *
  generalize x1 * x2 % (n / g) = K at *
  have KM : K * m + m ≤ m / g * n := by
    have e1 : m / g * n = n / g * m := by
      have u : m / g * (g * (n / g)) = n / g * (g * (m / g)) := by rw [Int.mul_comm g (n / g), Int.mul_comm g (m / g), Int.mul_left_comm]
      rw [en, em] at u
      exact u
    rw [e1]
    have : (K + 1) * m ≤ n / g * m := Int.mul_le_mul_of_nonneg_right (by omega) (by omega)
    rw [Int.add_mul] at this
    omega
  have KM0 : 0 ≤ K * m := Int.mul_nonneg K0 (by omega)
  have hg0 : ¬ g = 0 := by omega
  have hgb : (g == 0) = false := by simpa using hg0
  obtain ⟨tb0, tb1⟩ := tb
  obtain ⟨T, hT⟩ : ∃ T, (B - A).tmod g = T := ⟨_, rfl⟩
  obtain ⟨Q, hQ⟩ : ∃ Q, (B - A).tdiv g = Q := ⟨_, rfl⟩
  obtain ⟨M, hM⟩ : ∃ M, m / g = M := ⟨_, rfl⟩
  obtain ⟨N, hN⟩ : ∃ N, n / g = N := ⟨_, rfl⟩
  rw [hT] at tm
  rw [hQ] at tb0 tb1 HT
  rw [hM] at M1 M2 HV KM lb le em
  rw [hN] at N1 N2 HV HT HK K1 en
  rw [hT]
  clear tm em en
  subst le
  by_cases z : T = 0
  · subst z
    rw [if_pos rfl]
    go_enter Tryd.func23, Tryd.ntmps23
    go_wp2_with fail
    refine (HL.out _).mono ?_
    rintro e w' ⟨rfl, k1, rfl⟩
    go_wp2_with fail
    refine (HA.out _).mono ?_
    rintro e w' ⟨rfl, k2, rfl⟩
    go_wp2_with fail
    refine (HB.out _).mono ?_
    rintro e w' ⟨rfl, k3, rfl⟩
    go_wp2_with fail
    refine (HG.out _).mono ?_
    rintro e w' ⟨rfl, k4, rfl⟩
    go_wp2_with fail
    generalize hW : w.drewN (k1 + k2 + k3 + k4) = W
    replace hW := Lib.hid hW
    go_quiet ((first | (go_at_call 16; exact Calls.quiet_of (HT.out _)) | (go_at_call 32; exact Calls.quiet_of (HV.out _)) | (go_at_call 31; exact Calls.quiet_of (HK.out _))))
    go_wp2
    go_ret3
    exact ⟨rfl, by rw [← hW.out]; exact drew2 _ _ _⟩
  · rw [if_neg z]
    have z' : (T != 0) = true := by simpa using z
    go_enter Tryd.func23, Tryd.ntmps23
    go_wp2_with fail
    refine (HL.out _).mono ?_
    rintro e w' ⟨rfl, k1, rfl⟩
    go_wp2_with fail
    refine (HA.out _).mono ?_
    rintro e w' ⟨rfl, k2, rfl⟩
    go_wp2_with fail
    refine (HB.out _).mono ?_
    rintro e w' ⟨rfl, k3, rfl⟩
    go_wp2_with fail
    refine (HG.out _).mono ?_
    rintro e w' ⟨rfl, k4, rfl⟩
    go_wp2_with fail
    go_ret3
    exact ⟨rfl, _, rfl⟩
end Go.Proofs.YtlggiaoaleodpaaDoor

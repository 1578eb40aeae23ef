/- The walks of IntegerDivisors and IntegerMultiples: the Go text returns true, at every input. -/
import Derived.Test.YtlggiaoaleodpaaDoorG
import Derived.OpenShut
namespace Go.Proofs.YtlggiaoaleodpaaDoor
open Go.RowKit
set_option linter.unusedVariables false

theorem gR_comm (a b : Int) : gR a b = gR b a := by unfold gR; rw [Int.gcd_comm]
theorem gR_neg (a b : Int) : gR (-a) b = gR a b := by
  have e : (-a).gcd b = a.gcd b := by simp [Int.gcd]
  unfold gR; rw [e]
theorem gR_zero {a b : Int} (h0 : -9223372036854775808 ≤ a) (h1 : a ≤ 9223372036854775807) (h2 : -9223372036854775808 ≤ b) (h3 : b ≤ 9223372036854775807) (h : gR a b = 0) :
    (a = 0 ∨ a = -9223372036854775808) ∧ (b = 0 ∨ b = -9223372036854775808) := by
  have ha : (Int.gcd a b : Int) ∣ a := Int.gcd_dvd_left a b
  have hb : (Int.gcd a b : Int) ∣ b := Int.gcd_dvd_right a b
  unfold gR at h
  by_cases k : (Int.gcd a b : Int) ≤ 9223372036854775807
  · rw [if_pos k] at h
    rw [h] at ha hb
    rw [Int.zero_dvd] at ha hb
    omega
  · generalize (Int.gcd a b : Int) = g at *
    have f : ∀ x : Int, -9223372036854775808 ≤ x → x ≤ 9223372036854775807 → g ∣ x → x = 0 ∨ x = -9223372036854775808 := by
      intro x x0 x1 hx
      by_cases z : x = 0
      · exact .inl z
      · by_cases p : 0 < x
        · have := Int.le_of_dvd p hx; omega
        · have := Int.le_of_dvd (show 0 < -x by omega) ((Int.dvd_neg).2 hx); omega
    exact ⟨f a h0 h1 ha, f b h2 h3 hb⟩
theorem gR_dvd {a b : Int} (h : gR a b ≠ 0) : 0 < gR a b ∧ gR a b ∣ a ∧ gR a b ∣ b ∧ ∀ d : Int, d ∣ a → d ∣ b → d ∣ gR a b := by
  have ha : (Int.gcd a b : Int) ∣ a := Int.gcd_dvd_left a b
  have hb : (Int.gcd a b : Int) ∣ b := Int.gcd_dvd_right a b
  have hd : ∀ d : Int, d ∣ a → d ∣ b → d ∣ (Int.gcd a b : Int) := fun d x y => Int.dvd_coe_gcd x y
  unfold gR at *
  by_cases k : (Int.gcd a b : Int) ≤ 9223372036854775807
  · rw [if_pos k] at *
    exact ⟨by omega, ha, hb, hd⟩
  · rw [if_neg k] at h; omega
theorem gR_bd (a b : Int) : 0 ≤ gR a b ∧ gR a b ≤ 9223372036854775807 := by unfold gR; split <;> omega

namespace IntegerDivisors
set_option maxRecDepth 100000 in
theorem walk_zero (a b d : Int) (h0 : -9223372036854775808 ≤ a) (h1 : a ≤ 9223372036854775807) (h2 : -9223372036854775808 ≤ b) (h3 : b ≤ 9223372036854775807) (hz : gR a b = 0) (w : World) (htab : Tab w) :
    Calls Tryd.prog 5 #[.int .i64 a, .int .i64 b, .int .i64 d] w fun e w' => e = .returned (.bool true) ∧ Below w.heap.size w w' := by
  have HW := Lib.hid (awake_all w htab)
  have H1 := fun w => gcd_all a b h0 h1 h2 h3 w
  have H2 := fun w => gcd_all b a h2 h3 h0 h1 w
  have g := gR_zero h0 h1 h2 h3 hz
  rw [hz] at H1
  rw [gR_comm, hz] at H2
  replace H1 := Lib.hid H1
  replace H2 := Lib.hid H2
  clear htab hz h0 h1 h2 h3
  obtain ⟨ga, gb⟩ := g
  rcases ga with rfl | rfl <;> rcases gb with rfl | rfl
  all_goals
    go_enter Tryd.func5, Tryd.ntmps5
    go_wp2_with fail
    refine HW.out.mono ?_
    rintro e w1 ⟨rfl, hb⟩
    go_wp2_with fail
    refine (H1.out _).mono ?_
    rintro e w' ⟨rfl, n1, rfl⟩
    go_wp2_with fail
    refine (H2.out _).mono ?_
    rintro e w' ⟨rfl, n2, rfl⟩
    go_wp2
    go_ret
    exact ⟨rfl, below_drewN hb _⟩
set_option maxRecDepth 100000 in
set_option maxHeartbeats 1000000 in
theorem walk_any (a b d : Int) (h0 : -9223372036854775808 ≤ a) (h1 : a ≤ 9223372036854775807) (h2 : -9223372036854775808 ≤ b) (h3 : b ≤ 9223372036854775807) (h4 : -9223372036854775808 ≤ d) (h5 : d ≤ 9223372036854775807) (hz : gR a b ≠ 0) (w : World) (htab : Tab w) :
    Calls Tryd.prog 5 #[.int .i64 a, .int .i64 b, .int .i64 d] w fun e w' => e = .returned (.bool true) ∧ Below w.heap.size w w' := by
  have HW := Lib.hid (awake_all w htab)
  have H1 := fun w => gcd_all a b h0 h1 h2 h3 w
  have H2 := fun w => gcd_all b a h2 h3 h0 h1 w
  have H3 := fun (k : -9223372036854775807 ≤ a) w => gcd_all (-a) b (by omega) (by omega) h2 h3 w
  rw [gR_neg] at H3
  rw [gR_comm] at H2
  replace H1 := Lib.hid H1
  replace H2 := Lib.hid H2
  replace H3 := Lib.hid H3
  obtain ⟨g0, ga, gb, gd⟩ := gR_dvd hz
  have g1 := (gR_bd a b).2
  generalize gR a b = g at *
  have ea : a.tmod g = 0 := Int.dvd_iff_tmod_eq_zero.1 ga
  have eb : b.tmod g = 0 := Int.dvd_iff_tmod_eq_zero.1 gb
  have ez : (g == 0) = false := by simpa using hz
  have ed : a.tmod d = 0 → b.tmod d = 0 → g.tmod d = 0 := fun x y => Int.dvd_iff_tmod_eq_zero.1 (gd d (Int.dvd_iff_tmod_eq_zero.2 x) (Int.dvd_iff_tmod_eq_zero.2 y))
  obtain ⟨r1, er1⟩ : ∃ r, a.tmod d = r := ⟨_, rfl⟩
  obtain ⟨r2, er2⟩ : ∃ r, b.tmod d = r := ⟨_, rfl⟩
  obtain ⟨r3, er3⟩ : ∃ r, g.tmod d = r := ⟨_, rfl⟩
  rw [er1, er2, er3] at ed
  obtain ⟨c, hc⟩ : ∃ c, (d == -9223372036854775808) = c := ⟨_, rfl⟩
  obtain ⟨m, hm⟩ : ∃ c, (a != -9223372036854775808) = c := ⟨_, rfl⟩
  have kd : decide (g < 0) = false := by simp; omega
  clear htab ga gb gd
  -- the ways of the last test
  have ways : d = 0 ∨ d = -1 ∨ d ≠ 0 ∧ d ≠ -1 ∧ (r1 ≠ 0 ∨ r1 = 0 ∧ r2 ≠ 0 ∨ r1 = 0 ∧ r2 = 0 ∧ r3 = 0) := by
    by_cases d0 : d = 0
    · exact .inl d0
    · by_cases d1 : d = -1
      · exact .inr (.inl d1)
      · right; right
        refine ⟨d0, d1, ?_⟩
        by_cases x : r1 = 0
        · by_cases y : r2 = 0
          · exact .inr (.inr ⟨x, y, ed x y⟩)
          · exact .inr (.inl ⟨x, y⟩)
        · exact .inl x
  clear ed
  cases m
  · clear H3
    rcases ways with rfl | rfl | ⟨d0, d1, rw1 | ⟨rfl, rw2⟩ | ⟨rfl, rfl, rfl⟩⟩
    · go_enter Tryd.func5, Tryd.ntmps5
      go_wp2_with fail
      refine HW.out.mono ?_
      rintro e w1 ⟨rfl, hb⟩
      go_wp2_with fail
      refine (H1.out _).mono ?_
      rintro e w' ⟨rfl, n1, rfl⟩
      go_wp2_with fail
      refine (H2.out _).mono ?_
      rintro e w' ⟨rfl, n2, rfl⟩
      go_wp2
      go_ret
      exact ⟨rfl, below_drewN hb _⟩
    · go_enter Tryd.func5, Tryd.ntmps5
      go_wp2_with fail
      refine HW.out.mono ?_
      rintro e w1 ⟨rfl, hb⟩
      go_wp2_with fail
      refine (H1.out _).mono ?_
      rintro e w' ⟨rfl, n1, rfl⟩
      go_wp2_with fail
      refine (H2.out _).mono ?_
      rintro e w' ⟨rfl, n2, rfl⟩
      go_wp2
      go_ret
      exact ⟨rfl, below_drewN hb _⟩
    · have k0 : (d == 0) = false := by simpa using d0
      have k1 : (d == -1) = false := by simpa using d1
      have k2 : (r1 != 0) = true := by simpa using rw1
      go_enter Tryd.func5, Tryd.ntmps5
      go_wp2_with fail
      refine HW.out.mono ?_
      rintro e w1 ⟨rfl, hb⟩
      go_wp2_with fail
      refine (H1.out _).mono ?_
      rintro e w' ⟨rfl, n1, rfl⟩
      go_wp2_with fail
      refine (H2.out _).mono ?_
      rintro e w' ⟨rfl, n2, rfl⟩
      go_wp2
      go_ret
      exact ⟨rfl, below_drewN hb _⟩
    · have k0 : (d == 0) = false := by simpa using d0
      have k1 : (d == -1) = false := by simpa using d1
      have k2 : (r2 != 0) = true := by simpa using rw2
      go_enter Tryd.func5, Tryd.ntmps5
      go_wp2_with fail
      refine HW.out.mono ?_
      rintro e w1 ⟨rfl, hb⟩
      go_wp2_with fail
      refine (H1.out _).mono ?_
      rintro e w' ⟨rfl, n1, rfl⟩
      go_wp2_with fail
      refine (H2.out _).mono ?_
      rintro e w' ⟨rfl, n2, rfl⟩
      go_wp2
      go_ret
      exact ⟨rfl, below_drewN hb _⟩
    · have k0 : (d == 0) = false := by simpa using d0
      have k1 : (d == -1) = false := by simpa using d1
      cases c
      all_goals
        go_enter Tryd.func5, Tryd.ntmps5
        go_wp2_with fail
        refine HW.out.mono ?_
        rintro e w1 ⟨rfl, hb⟩
        go_wp2_with fail
        refine (H1.out _).mono ?_
        rintro e w' ⟨rfl, n1, rfl⟩
        go_wp2_with fail
        refine (H2.out _).mono ?_
        rintro e w' ⟨rfl, n2, rfl⟩
        go_wp2
        go_ret
        exact ⟨rfl, below_drewN hb _⟩
  · have hm0 : a ≠ -9223372036854775808 := by simpa using hm
    have hm1 : -9223372036854775807 ≤ a := by omega
    rcases ways with rfl | rfl | ⟨d0, d1, rw1 | ⟨rfl, rw2⟩ | ⟨rfl, rfl, rfl⟩⟩
    · go_enter Tryd.func5, Tryd.ntmps5
      go_wp2_with fail
      refine HW.out.mono ?_
      rintro e w1 ⟨rfl, hb⟩
      go_wp2_with fail
      refine (H1.out _).mono ?_
      rintro e w' ⟨rfl, n1, rfl⟩
      go_wp2_with fail
      refine (H2.out _).mono ?_
      rintro e w' ⟨rfl, n2, rfl⟩
      go_wp2_with fail
      refine (H3.out (by omega) _).mono ?_
      rintro e w' ⟨rfl, n3, rfl⟩
      go_wp2
      go_ret
      exact ⟨rfl, below_drewN hb _⟩
    · go_enter Tryd.func5, Tryd.ntmps5
      go_wp2_with fail
      refine HW.out.mono ?_
      rintro e w1 ⟨rfl, hb⟩
      go_wp2_with fail
      refine (H1.out _).mono ?_
      rintro e w' ⟨rfl, n1, rfl⟩
      go_wp2_with fail
      refine (H2.out _).mono ?_
      rintro e w' ⟨rfl, n2, rfl⟩
      go_wp2_with fail
      refine (H3.out (by omega) _).mono ?_
      rintro e w' ⟨rfl, n3, rfl⟩
      go_wp2
      go_ret
      exact ⟨rfl, below_drewN hb _⟩
    · have k0 : (d == 0) = false := by simpa using d0
      have k1 : (d == -1) = false := by simpa using d1
      have k2 : (r1 != 0) = true := by simpa using rw1
      go_enter Tryd.func5, Tryd.ntmps5
      go_wp2_with fail
      refine HW.out.mono ?_
      rintro e w1 ⟨rfl, hb⟩
      go_wp2_with fail
      refine (H1.out _).mono ?_
      rintro e w' ⟨rfl, n1, rfl⟩
      go_wp2_with fail
      refine (H2.out _).mono ?_
      rintro e w' ⟨rfl, n2, rfl⟩
      go_wp2_with fail
      refine (H3.out (by omega) _).mono ?_
      rintro e w' ⟨rfl, n3, rfl⟩
      go_wp2
      go_ret
      exact ⟨rfl, below_drewN hb _⟩
    · have k0 : (d == 0) = false := by simpa using d0
      have k1 : (d == -1) = false := by simpa using d1
      have k2 : (r2 != 0) = true := by simpa using rw2
      go_enter Tryd.func5, Tryd.ntmps5
      go_wp2_with fail
      refine HW.out.mono ?_
      rintro e w1 ⟨rfl, hb⟩
      go_wp2_with fail
      refine (H1.out _).mono ?_
      rintro e w' ⟨rfl, n1, rfl⟩
      go_wp2_with fail
      refine (H2.out _).mono ?_
      rintro e w' ⟨rfl, n2, rfl⟩
      go_wp2_with fail
      refine (H3.out (by omega) _).mono ?_
      rintro e w' ⟨rfl, n3, rfl⟩
      go_wp2
      go_ret
      exact ⟨rfl, below_drewN hb _⟩
    · have k0 : (d == 0) = false := by simpa using d0
      have k1 : (d == -1) = false := by simpa using d1
      cases c
      all_goals
        go_enter Tryd.func5, Tryd.ntmps5
        go_wp2_with fail
        refine HW.out.mono ?_
        rintro e w1 ⟨rfl, hb⟩
        go_wp2_with fail
        refine (H1.out _).mono ?_
        rintro e w' ⟨rfl, n1, rfl⟩
        go_wp2_with fail
        refine (H2.out _).mono ?_
        rintro e w' ⟨rfl, n2, rfl⟩
        go_wp2_with fail
        refine (H3.out (by omega) _).mono ?_
        rintro e w' ⟨rfl, n3, rfl⟩
        go_wp2
        go_ret
        exact ⟨rfl, below_drewN hb _⟩
theorem walk (a b d : Int) (w0 : (Lit.int .i64 a).wf = true) (w1 : (Lit.int .i64 b).wf = true) (w2 : (Lit.int .i64 d).wf = true) (w : World) (htab : Tab w) :
    Calls Tryd.prog 5 #[.int .i64 a, .int .i64 b, .int .i64 d] w fun e w' => e = .returned (.bool true) ∧ Below w.heap.size w w' := by
  obtain ⟨h0, h1⟩ := bounds_i64 w0
  obtain ⟨h2, h3⟩ := bounds_i64 w1
  obtain ⟨h4, h5⟩ := bounds_i64 w2
  by_cases hz : gR a b = 0
  · exact walk_zero a b d h0 h1 h2 h3 hz w htab
  · exact walk_any a b d h0 h1 h2 h3 h4 h5 hz w htab
end IntegerDivisors

namespace IntegerMultiples
theorem dvd_plain {a b g : Int} (g0 : 0 < g) (ha : g ∣ a) (hb : g ∣ b) (a0 : 0 < a) (b0 : 0 < b) :
    (a / g * b) % a = 0 ∧ (a / g * b) % b = 0 ∧ (a / g * b) / a = b / g := by
  have ea : g * (a / g) = a := Int.mul_ediv_cancel' ha
  have eb : g * (b / g) = b := Int.mul_ediv_cancel' hb
  have e : a / g * b = a * (b / g) := by
    have u : a / g * (g * (b / g)) = g * (a / g) * (b / g) := by rw [← Int.mul_assoc, Int.mul_comm (a / g) g]
    rw [eb, ea] at u; exact u
  refine ⟨?_, ?_, ?_⟩
  · rw [e]; exact Int.mul_emod_right _ _
  · exact Int.mul_emod_left _ _
  · rw [e]; exact Int.mul_ediv_cancel_left _ (by omega)
set_option maxRecDepth 100000 in
set_option maxHeartbeats 400000 in
theorem walk (a b : Int) (w0 : (Lit.int .i64 a).wf = true) (w1 : (Lit.int .i64 b).wf = true) (w : World) (htab : Tab w) :
    Calls Tryd.prog 6 #[.int .i64 a, .int .i64 b] w fun e w' => e = .returned (.bool true) ∧ Below w.heap.size w w' := by
  obtain ⟨h0, h1⟩ := bounds_i64 w0
  obtain ⟨h2, h3⟩ := bounds_i64 w1
  have HW := Lib.hid (awake_all w htab)
  have H1 := fun w => lcm_all a b h0 h1 h2 h3 w
  have H2 := Lib.hid (fun w => gcd_all a b h0 h1 h2 h3 w)
  clear htab w0 w1
  by_cases ha : a < 1 ∨ b < 1
  · have e1 : lR a b = 0 := by unfold lR; rw [if_pos ha]
    have e2 : lE a b = 2 := by unfold lE; rw [if_pos ha]
    rw [e1, e2] at H1
    replace H1 := Lib.hid H1
    clear e1 e2
    by_cases x : a < 1
    · have k : decide (a < 1) = true := by simpa using x
      go_enter Tryd.func6, Tryd.ntmps6
      go_wp2_with fail
      refine HW.out.mono ?_
      rintro e w1 ⟨rfl, hb⟩
      go_wp2_with fail
      refine (H1.out _).mono ?_
      rintro e w' ⟨rfl, n1, rfl⟩
      go_wp2
      go_ret
      exact ⟨rfl, below_drewN hb _⟩
    · have k : decide (a < 1) = false := by simpa using x
      have k2 : decide (b < 1) = true := by simp; omega
      go_enter Tryd.func6, Tryd.ntmps6
      go_wp2_with fail
      refine HW.out.mono ?_
      rintro e w1 ⟨rfl, hb⟩
      go_wp2_with fail
      refine (H1.out _).mono ?_
      rintro e w' ⟨rfl, n1, rfl⟩
      go_wp2
      go_ret
      exact ⟨rfl, below_drewN hb _⟩
  · have a1 : 1 ≤ a := by omega
    have b1 : 1 ≤ b := by omega
    have k : decide (a < 1) = false := by simp; omega
    have k2 : decide (b < 1) = false := by simp; omega
    have e1 : lR a b = xV (a / gR a b * b) := by unfold lR; rw [if_neg ha]
    have e2 : lE a b = xE (a / gR a b * b) := by unfold lE; rw [if_neg ha]
    obtain ⟨g1, g2⟩ := gR_pos (b := b) a1 h1
    obtain ⟨-, ga, gb, -⟩ := gR_dvd (show gR a b ≠ 0 by omega)
    obtain ⟨d1, d2, d3⟩ := dvd_plain (by omega) ga gb (show 0 < a by omega) (show 0 < b by omega)
    have q0 : 0 ≤ a / gR a b := Int.ediv_nonneg (by omega) (by omega)
    have q1 : a / gR a b ≤ a := Int.ediv_le_self _ (by omega)
    have p0 : 0 ≤ a / gR a b * b := Int.mul_nonneg q0 (by omega)
    have H3 := fun w => mul_all (a / gR a b) b (by omega) (by omega) h2 h3 w
    rw [e1, e2] at H1
    clear e1 e2 ga gb ha
    generalize gR a b = g at *
    obtain ⟨Q, hQ⟩ : ∃ Q, a / g = Q := ⟨_, rfl⟩
    rw [hQ] at H1 H3 d1 d2 d3 q0 q1 p0
    obtain ⟨B, hB⟩ : ∃ B, b / g = B := ⟨_, rfl⟩
    rw [hB] at d3
    by_cases q : -9223372036854775808 ≤ Q * b ∧ Q * b ≤ 9223372036854775807
    · rw [xV_in q, xE_in q] at H1
      clear H3
      obtain ⟨-, q2⟩ := q
      generalize Q * b = p at *
      replace H1 := Lib.hid H1
      go_enter Tryd.func6, Tryd.ntmps6
      go_wp2_with fail
      refine HW.out.mono ?_
      rintro e w1 ⟨rfl, hb⟩
      go_wp2_with fail
      refine (H1.out _).mono ?_
      rintro e w' ⟨rfl, n1, rfl⟩
      go_wp2_with fail
      refine (H2.out _).mono ?_
      rintro e w' ⟨rfl, n2, rfl⟩
      go_wp2
      go_quiet (fail)
      go_wp2
      go_ret
      exact ⟨rfl, below_drewN (below_drewN hb _) _⟩
    · rw [xV_out q, xE_out q] at H1 H3
      clear q d1 d2 d3 p0
      replace H1 := Lib.hid H1
      replace H3 := Lib.hid H3
      go_enter Tryd.func6, Tryd.ntmps6
      go_wp2_with fail
      refine HW.out.mono ?_
      rintro e w1 ⟨rfl, hb⟩
      go_wp2_with fail
      refine (H1.out _).mono ?_
      rintro e w' ⟨rfl, n1, rfl⟩
      go_wp2_with fail
      refine (H2.out _).mono ?_
      rintro e w' ⟨rfl, n2, rfl⟩
      go_wp2_with fail
      refine (H3.out _).mono ?_
      rintro e w' ⟨rfl, n3, rfl⟩
      go_wp2
      go_ret
      exact ⟨rfl, below_drewN hb _⟩
end IntegerMultiples
end Go.Proofs.YtlggiaoaleodpaaDoor

/- Contracts of integer.Div, Floor, Mod, Add. -/
import Derived.Test.YtocimbiidloofaaGreatDoorProg

import Derived.Test.YtocimbiidloofaaGreatDoorLGen

import Derived.BigQuiet

import Derived.Deep.QuietTactic

import Derived.Outline

import Derived.WalkKit

namespace Go.Proofs.YtocimbiidloofaaGreatDoor

open Go.RowKit

set_option linter.unusedVariables false

theorem div_zero (a : Int) (w : World) :
    Calls Tryz.prog 39 #[.int .i64 a, .int .i64 0] w fun e w' => e = .returned (.tuple #[.int .i64 0, .int .i64 0, .int .i64 10]) ∧ w' = w.drewN 0 := by
  go_enter Tryz.func39, Tryz.ntmps39
  go_wp2
  go_ret3
  exact ⟨rfl, rfl⟩
theorem div_big (w : World) :
    Calls Tryz.prog 39 #[.int .i64 (-9223372036854775808), .int .i64 (-1)] w fun e w' => e = .returned (.tuple #[.int .i64 0, .int .i64 0, .int .i64 9]) ∧ w' = w.drewN 0 := by
  go_enter Tryz.func39, Tryz.ntmps39
  go_wp2
  go_ret3
  exact ⟨rfl, rfl⟩
set_option maxHeartbeats 400000 in
theorem div_any (a b : Int) (h0 : -9223372036854775808 ≤ a) (h1 : a ≤ 9223372036854775807) (h2 : -9223372036854775808 ≤ b) (h3 : b ≤ 9223372036854775807) (hb : b ≠ 0) (hx : ¬ (a = -9223372036854775808 ∧ b = -1)) (w : World) :
    Calls Tryz.prog 39 #[.int .i64 a, .int .i64 b] w fun e w' => e = .returned (.tuple #[.int .i64 (a.fdiv b), .int .i64 (a.fmod b), .int .i64 0]) ∧ ∃ n, w' = w.drewN n := by
  have hz : (b == 0) = false := by simpa using hb
  have hq := tq_bd h0 h1 hx hb
  have hr := tr_bd (a := a) hb
  have ht := tq_half (b := b) h0 h1
  have he := fdm_exact (a := a) hb
  have hs := fdm_same (a := a) hb
  have ho := fdm_other (a := a) hb
  obtain ⟨c, hc⟩ : ∃ c, (a == -9223372036854775808) = c := ⟨_, rfl⟩
  obtain ⟨d, hd⟩ : ∃ d, (b == -1) = d := ⟨_, rfl⟩
  have hcd : (c && d) = false := by
    subst hc; subst hd; rw [Bool.and_eq_false_iff]; simp only [beq_eq_false_iff_ne]; omega
  generalize a.fdiv b = Q at *
  generalize a.fmod b = R at *
  obtain ⟨q, eq⟩ : ∃ q, a.tdiv b = q := ⟨_, rfl⟩
  obtain ⟨r, er⟩ : ∃ r, a.tmod b = r := ⟨_, rfl⟩
  rw [eq] at hq he hs ho ht
  rw [er] at hr he hs ho ht
  obtain ⟨hq0, hq1⟩ := hq
  obtain ⟨hr0, -, -⟩ := hr
  have hr2 : -9223372036854775808 ≤ r := by omega
  have hr3 : r ≤ 9223372036854775807 := by omega
  have g : Q = q ∧ R = r ∧ r = 0 ∨ Q = q ∧ R = r ∧ (0 < r ∧ 0 < b ∨ r < 0 ∧ b < 0) ∨ Q = q - 1 ∧ R = r + b ∧ (0 < r ∧ b < 0 ∨ r < 0 ∧ 0 < b) := by
    by_cases z : r = 0
    · left; have := he z; omega
    · by_cases z' : 0 < r ∧ 0 < b ∨ r < 0 ∧ b < 0
      · right; left; have := hs z'; omega
      · right; right; have z2 : 0 < r ∧ b < 0 ∨ r < 0 ∧ 0 < b := by omega
        have := ho z2; omega
  clear he hs ho
  rcases g with ⟨rfl, rfl, rfl⟩ | ⟨rfl, rfl, g⟩ | ⟨rfl, rfl, g⟩
  · clear ht
    cases c <;> cases d <;> (try cases hcd) <;> (go_enter Tryz.func39, Tryz.ntmps39; go_wp2; go_quiet (fail); go_wp2; go_ret3; exact ⟨rfl, _, rfl⟩)
  · clear ht
    rcases g with ⟨g1, g2⟩ | ⟨g1, g2⟩
    · have k1 : decide (R < 0) = false := by simp; omega
      have k2 : decide (b < 0) = false := by simp; omega
      have k3 : (R != 0) = true := by simp; omega
      cases c <;> cases d <;> (try cases hcd) <;> (go_enter Tryz.func39, Tryz.ntmps39; go_wp2; go_quiet (fail); go_wp2; go_ret3; exact ⟨rfl, _, rfl⟩)
    · have k1 : decide (R < 0) = true := by simp; omega
      have k2 : decide (b < 0) = true := by simp; omega
      have k3 : (R != 0) = true := by simp; omega
      cases c <;> cases d <;> (try cases hcd) <;> (go_enter Tryz.func39, Tryz.ntmps39; go_wp2; go_quiet (fail); go_wp2; go_ret3; exact ⟨rfl, _, rfl⟩)
  · obtain ⟨t1, t2⟩ := ht (by omega)
    clear ht
    rcases g with ⟨g1, g2⟩ | ⟨g1, g2⟩
    · have k1 : decide (r < 0) = false := by simp; omega
      have k2 : decide (b < 0) = true := by simp; omega
      have k3 : (r != 0) = true := by simp; omega
      cases c <;> cases d <;> (try cases hcd) <;> (go_enter Tryz.func39, Tryz.ntmps39; go_wp2; go_quiet (fail); go_wp2; go_ret3; exact ⟨rfl, _, rfl⟩)
    · have k1 : decide (r < 0) = true := by simp; omega
      have k2 : decide (b < 0) = false := by simp; omega
      have k3 : (r != 0) = true := by simp; omega
      cases c <;> cases d <;> (try cases hcd) <;> (go_enter Tryz.func39, Tryz.ntmps39; go_wp2; go_quiet (fail); go_wp2; go_ret3; exact ⟨rfl, _, rfl⟩)
theorem div_all (a b : Int) (h0 : -9223372036854775808 ≤ a) (h1 : a ≤ 9223372036854775807) (h2 : -9223372036854775808 ≤ b) (h3 : b ≤ 9223372036854775807) (w : World) :
    Calls Tryz.prog 39 #[.int .i64 a, .int .i64 b] w fun e w' => e = .returned (.tuple #[.int .i64 (dQ a b), .int .i64 (dR a b), .int .i64 (dE a b)]) ∧ ∃ n, w' = w.drewN n := by
  by_cases hb : b = 0
  · subst hb
    refine (div_zero a w).mono fun e w' ⟨he, hw⟩ => ⟨?_, 0, hw⟩
    rw [he]; unfold dQ dR dE; simp
  · by_cases hx : a = -9223372036854775808 ∧ b = -1
    · obtain ⟨rfl, rfl⟩ := hx
      refine (div_big w).mono fun e w' ⟨he, hw⟩ => ⟨?_, 0, hw⟩
      rw [he]; unfold dQ dR dE; simp
    · refine (div_any a b h0 h1 h2 h3 hb hx w).mono fun e w' ⟨he, hw⟩ => ⟨?_, hw⟩
      rw [he]; unfold dQ dR dE; simp [hb, hx]
theorem cdiv (a b : Int) (ha : I64 a) (b0 : 0 < b) (b1 : b ≤ 146097) (w : World) :
    Calls Tryz.prog 39 #[.int .i64 a, .int .i64 b] w fun e w' => e = .returned (.tuple #[.int .i64 (a / b), .int .i64 (a % b), .int .i64 0]) ∧ ∃ n, w' = w.drewN n := by
  have h := div_all a b ha.1 ha.2 (by omega) (by omega) w
  rw [dQ_pos b0, dR_pos b0, dE_pos b0] at h
  exact h
end Go.Proofs.YtocimbiidloofaaGreatDoor

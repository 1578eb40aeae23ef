/- The walk of IntegerDivides: the Go text returns true, at every input. -/
import Derived.Test.YtlggiaoaleodpaaDoorG
import Derived.OpenShut
namespace Go.Proofs.YtlggiaoaleodpaaDoor
open Go.RowKit
set_option linter.unusedVariables false

namespace IntegerDivides
theorem walk_zero (a : Int) (h0 : -9223372036854775808 ≤ a) (h1 : a ≤ 9223372036854775807) (w : World) (htab : Tab w) :
    Calls Tryd.prog 3 #[.int .i64 a, .int .i64 0] w fun e w' => e = .returned (.bool true) ∧ Below w.heap.size w w' := by
  have HW := Lib.hid (awake_all w htab)
  have HD := Lib.hid (fun w => div_all a 0 h0 h1 (by omega) (by omega) w)
  have HF := Lib.hid (fun w => floor_all a 0 h0 h1 (by omega) (by omega) w)
  have HM := Lib.hid (fun w => mod_all a 0 h0 h1 (by omega) (by omega) w)
  rw [show dQ a 0 = 0 by simp [dQ], show dR a 0 = 0 by simp [dR], show dE a 0 = 10 by simp [dE]] at HD
  rw [show dQ a 0 = 0 by simp [dQ]] at HF
  rw [show dR a 0 = 0 by simp [dR]] at HM
  clear htab
  go_enter Tryd.func3, Tryd.ntmps3
  go_wp2_with fail
  refine HW.out.mono ?_
  rintro e w1 ⟨rfl, hb⟩
  go_wp2_with fail
  refine (HD.out _).mono ?_
  rintro e w' ⟨rfl, n1, rfl⟩
  go_wp2_with fail
  refine (HF.out _).mono ?_
  rintro e w' ⟨rfl, n2, rfl⟩
  go_wp2_with fail
  refine (HM.out _).mono ?_
  rintro e w' ⟨rfl, n3, rfl⟩
  go_wp2
  go_ret
  exact ⟨rfl, below_drewN hb _⟩
set_option maxRecDepth 100000 in
theorem walk_big (w : World) (htab : Tab w) :
    Calls Tryd.prog 3 #[.int .i64 (-9223372036854775808), .int .i64 (-1)] w fun e w' => e = .returned (.bool true) ∧ Below w.heap.size w w' := by
  have HW := Lib.hid (awake_all w htab)
  have HD := Lib.hid (fun w => div_all (-9223372036854775808) (-1) (by omega) (by omega) (by omega) (by omega) w)
  have HF := Lib.hid (fun w => floor_all (-9223372036854775808) (-1) (by omega) (by omega) (by omega) (by omega) w)
  have HM := Lib.hid (fun w => mod_all (-9223372036854775808) (-1) (by omega) (by omega) (by omega) (by omega) w)
  rw [show dQ (-9223372036854775808) (-1) = 0 by simp [dQ], show dR (-9223372036854775808) (-1) = 0 by simp [dR], show dE (-9223372036854775808) (-1) = 9 by simp [dE]] at HD
  rw [show dQ (-9223372036854775808) (-1) = 0 by simp [dQ]] at HF
  rw [show dR (-9223372036854775808) (-1) = 0 by simp [dR]] at HM
  clear htab
  go_enter Tryd.func3, Tryd.ntmps3
  go_wp2_with fail
  refine HW.out.mono ?_
  rintro e w1 ⟨rfl, hb⟩
  go_wp2_with fail
  refine (HD.out _).mono ?_
  rintro e w' ⟨rfl, n1, rfl⟩
  go_wp2_with fail
  refine (HF.out _).mono ?_
  rintro e w' ⟨rfl, n2, rfl⟩
  go_wp2_with fail
  refine (HM.out _).mono ?_
  rintro e w' ⟨rfl, n3, rfl⟩
  go_wp2
  go_ret
  exact ⟨rfl, below_drewN hb _⟩
set_option maxRecDepth 100000 in
set_option maxHeartbeats 2000000 in
theorem walk_any (a b : Int) (h0 : -9223372036854775808 ≤ a) (h1 : a ≤ 9223372036854775807) (h2 : -9223372036854775808 ≤ b) (h3 : b ≤ 9223372036854775807) (hb0 : b ≠ 0) (hx : ¬ (a = -9223372036854775808 ∧ b = -1)) (w : World) (htab : Tab w) :
    Calls Tryd.prog 3 #[.int .i64 a, .int .i64 b] w fun e w' => e = .returned (.bool true) ∧ Below w.heap.size w w' := by
  have HW := Lib.hid (awake_all w htab)
  have HD := Lib.hid (fun w => div_all a b h0 h1 h2 h3 w)
  have HF := Lib.hid (fun w => floor_all a b h0 h1 h2 h3 w)
  have HM := Lib.hid (fun w => mod_all a b h0 h1 h2 h3 w)
  have eQ : dQ a b = a.fdiv b := by unfold dQ; rw [if_neg (by omega)]
  have eR : dR a b = a.fmod b := by unfold dR; rw [if_neg (by omega)]
  have eE : dE a b = 0 := by unfold dE; rw [if_neg hb0, if_neg hx]
  rw [eQ, eR, eE] at HD
  rw [eQ] at HF
  rw [eR] at HM
  clear eQ eR eE htab
  have fq := fq_of_signs (a := a) hb0
  have fw : (wrap64 (wrap64 (a.fdiv b * b) + a.fmod b) == a) = true := beq_iff_eq.2 (fdm_wrap (b := b) h0 h1)
  have fr := fr_bd (a := a) (b := b)
  have ht := tq_bd h0 h1 hx hb0
  have hh := tq_half (b := b) h0 h1
  have hz : (b == 0) = false := by simpa using hb0
  obtain ⟨c, hc⟩ : ∃ c, (a == -9223372036854775808) = c := ⟨_, rfl⟩
  obtain ⟨d, hd⟩ : ∃ d, (b == -1) = d := ⟨_, rfl⟩
  have hcd : (c && d) = false := by
    subst hc; subst hd; rw [Bool.and_eq_false_iff]; simp only [beq_eq_false_iff_ne]; omega
  generalize a.fdiv b = Q at *
  generalize a.fmod b = R at *
  obtain ⟨q, eq⟩ : ∃ q, a.tdiv b = q := ⟨_, rfl⟩
  obtain ⟨r, er⟩ : ∃ r, a.tmod b = r := ⟨_, rfl⟩
  rw [eq, er] at fq
  rw [eq] at ht hh
  rw [er] at hh
  obtain ⟨t0, t1⟩ := ht
  obtain ⟨z, hz'⟩ : ∃ z, (r != 0) = z := ⟨_, rfl⟩
  obtain ⟨s, hs⟩ : ∃ s, decide (a < 0) = s := ⟨_, rfl⟩
  obtain ⟨t, hT⟩ : ∃ t, decide (b < 0) = t := ⟨_, rfl⟩
  rw [hz', hs, hT] at fq
  have hq : z = true → -4611686018427387904 ≤ q := by
    intro e; rw [e] at hz'; exact (hh (by simpa using hz')).1
  clear hh hx
  have sb : decide (0 < b) = !t ∧ (t = false → 0 ≤ R ∧ R < b) ∧ (t = true → b < R ∧ R ≤ 0) := by
    subst hT
    refine ⟨?_, fun h => fr.1 (by simp at h; omega), fun h => fr.2 (by simpa using h)⟩
    by_cases h : b < 0
    · simp [h]; omega
    · simp [h]; omega
  clear fr
  obtain ⟨k0, k1, k2⟩ := sb
  cases t
  · obtain ⟨r0, r1⟩ := k1 rfl
    rw [Bool.not_false] at k0
    have k3 : decide (0 ≤ R) = true := by simpa using r0
    have k4 : decide (R < b) = true := by simpa using r1
    clear k1 k2
    cases c <;> cases d <;> (try cases hcd) <;> cases z <;> cases s
    all_goals
      simp at fq
      subst fq
      try replace hq := hq rfl
      go_enter Tryd.func3, Tryd.ntmps3
      go_wp2_with fail
      refine HW.out.mono ?_
      rintro e w1 ⟨rfl, hb⟩
      go_wp2_with fail
      refine (HD.out _).mono ?_
      rintro e w' ⟨rfl, n1, rfl⟩
      go_wp2_with fail
      refine (HF.out _).mono ?_
      rintro e w' ⟨rfl, n2, rfl⟩
      go_wp2_with fail
      refine (HM.out _).mono ?_
      rintro e w' ⟨rfl, n3, rfl⟩
      go_wp2
      go_ret
      exact ⟨rfl, below_drewN hb _⟩
  · obtain ⟨r0, r1⟩ := k2 rfl
    rw [Bool.not_true] at k0
    have k3 : decide (R ≤ 0) = true := by simpa using r1
    have k4 : decide (b < R) = true := by simpa using r0
    clear k1 k2
    cases c <;> cases d <;> (try cases hcd) <;> cases z <;> cases s
    all_goals
      simp at fq
      subst fq
      try replace hq := hq rfl
      go_enter Tryd.func3, Tryd.ntmps3
      go_wp2_with fail
      refine HW.out.mono ?_
      rintro e w1 ⟨rfl, hb⟩
      go_wp2_with fail
      refine (HD.out _).mono ?_
      rintro e w' ⟨rfl, n1, rfl⟩
      go_wp2_with fail
      refine (HF.out _).mono ?_
      rintro e w' ⟨rfl, n2, rfl⟩
      go_wp2_with fail
      refine (HM.out _).mono ?_
      rintro e w' ⟨rfl, n3, rfl⟩
      go_wp2
      go_ret
      exact ⟨rfl, below_drewN hb _⟩
theorem walk (a b : Int) (w0 : (Lit.int .i64 a).wf = true) (w1 : (Lit.int .i64 b).wf = true) (w : World) (htab : Tab w) :
    Calls Tryd.prog 3 #[.int .i64 a, .int .i64 b] w fun e w' => e = .returned (.bool true) ∧ Below w.heap.size w w' := by
  obtain ⟨h0, h1⟩ := bounds_i64 w0
  obtain ⟨h2, h3⟩ := bounds_i64 w1
  by_cases hb : b = 0
  · subst hb
    exact walk_zero a h0 h1 w htab
  · by_cases hx : a = -9223372036854775808 ∧ b = -1
    · obtain ⟨rfl, rfl⟩ := hx
      exact walk_big w htab
    · exact walk_any a b h0 h1 h2 h3 hb hx w htab
end IntegerDivides
end Go.Proofs.YtlggiaoaleodpaaDoor

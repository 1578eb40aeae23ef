/- The walks of IntegerSums and IntegerSteps: the Go text returns true, at every input. -/
import Derived.Test.YtlggiaoaleodpaaDoorG
import Derived.OpenShut
namespace Go.Proofs.YtlggiaoaleodpaaDoor
open Go.RowKit
set_option linter.unusedVariables false

namespace IntegerSums
set_option maxRecDepth 100000 in
theorem walk (a b : Int) (w0 : (Lit.int .i64 a).wf = true) (w1 : (Lit.int .i64 b).wf = true) (w : World) (htab : Tab w) :
    Calls Tryd.prog 4 #[.int .i64 a, .int .i64 b] w fun e w' => e = .returned (.bool true) ∧ Below w.heap.size w w' := by
  obtain ⟨h0, h1⟩ := bounds_i64 w0
  obtain ⟨h2, h3⟩ := bounds_i64 w1
  have HW := Lib.hid (awake_all w htab)
  have H1 := Lib.hid (fun w => add_all a b h0 h1 h2 h3 w)
  have H2 := Lib.hid (fun w => mul_all a b h0 h1 h2 h3 w)
  have H3 := Lib.hid (fun w => refadd_all a b h0 h1 h2 h3 w)
  have H4 := Lib.hid (fun w => refmul_all a b h0 h1 h2 h3 w)
  generalize xV (a + b) = s at *
  generalize xE (a + b) = f at *
  generalize xV (a * b) = p at *
  generalize xE (a * b) = g at *
  clear htab w0 w1
  go_enter Tryd.func4, Tryd.ntmps4
  go_wp2_with fail
  refine HW.out.mono ?_
  rintro e w1 ⟨rfl, hb⟩
  go_wp2_with fail
  refine (H1.out _).mono ?_
  rintro e w' ⟨rfl, rfl⟩
  go_wp2_with fail
  refine (H2.out _).mono ?_
  rintro e w' ⟨rfl, n2, rfl⟩
  go_wp2_with fail
  refine (H3.out _).mono ?_
  rintro e w' ⟨rfl, rfl⟩
  go_wp2_with fail
  refine (H4.out _).mono ?_
  rintro e w' ⟨rfl, rfl⟩
  go_wp2
  go_ret
  exact ⟨rfl, below_drewN hb _⟩
end IntegerSums

namespace IntegerSteps
theorem step_plain {a b : Int} (hb : b ≠ 0) : (a + b).fdiv b = a.fdiv b + 1 ∧ (a + b).fmod b = a.fmod b := by
  have e := Int.mul_fdiv_add_fmod a b
  have r := fr_bd (a := a) (b := b)
  refine fdm_unique hb ?_ r.1 r.2
  rw [Int.add_mul, Int.mul_comm (a.fdiv b)]; omega
theorem fq_bd {a b : Int} (h0 : -9223372036854775808 ≤ a) (h1 : a ≤ 9223372036854775807) (hx : ¬ (a = -9223372036854775808 ∧ b = -1)) (hb : b ≠ 0) :
    -9223372036854775808 ≤ a.fdiv b ∧ a.fdiv b ≤ 9223372036854775807 := by
  have q := tq_bd h0 h1 hx hb
  have t := tq_half (b := b) h0 h1
  have e := fq_of_signs (a := a) hb
  by_cases z : a.tmod b = 0
  · rw [z] at e; simp at e; omega
  · have := t z
    split at e <;> omega
set_option maxRecDepth 100000 in
set_option maxHeartbeats 400000 in
theorem walk (a b : Int) (w0 : (Lit.int .i64 a).wf = true) (w1 : (Lit.int .i64 b).wf = true) (w : World) (htab : Tab w) :
    Calls Tryd.prog 12 #[.int .i64 a, .int .i64 b] w fun e w' => e = .returned (.bool true) ∧ Below w.heap.size w w' := by
  obtain ⟨h0, h1⟩ := bounds_i64 w0
  obtain ⟨h2, h3⟩ := bounds_i64 w1
  have HW := Lib.hid (awake_all w htab)
  have H1 := Lib.hid (fun w => add_all a b h0 h1 h2 h3 w)
  have H2 := Lib.hid (fun w => div_all a b h0 h1 h2 h3 w)
  have H3 := Lib.hid (fun c h4 h5 w => div_all c b h4 h5 h2 h3 w)
  clear htab w0 w1
  -- every way, by the error numbers
  have main : ∀ c E F G Q R S T : Int, xV (a + b) = c → xE (a + b) = E → dQ a b = Q → dR a b = R → dE a b = F → dQ c b = S → dR c b = T → dE c b = G →
      -9223372036854775808 ≤ c → c ≤ 9223372036854775807 → (E ≠ 0 ∨ E = 0 ∧ F ≠ 0 ∨ E = 0 ∧ F = 0 ∧ G ≠ 0 ∨ E = 0 ∧ F = 0 ∧ G = 0 ∧ S = Q + 1 ∧ T = R ∧ -9223372036854775808 ≤ S ∧ S ≤ 9223372036854775807) →
      Calls Tryd.prog 12 #[.int .i64 a, .int .i64 b] w fun e w' => e = .returned (.bool true) ∧ Below w.heap.size w w' := by
    intro c E F G Q R S T e1 e2 e3 e4 e5 e6 e7 e8 c0 c1 way
    have H3 := Lib.hid (H3.out c c0 c1)
    rw [e1, e2] at H1
    rw [e3, e4, e5] at H2
    rw [e6, e7, e8] at H3
    clear e1 e2 e3 e4 e5 e6 e7 e8
    rcases way with z | ⟨rfl, z⟩ | ⟨rfl, rfl, z⟩ | ⟨rfl, rfl, rfl, rfl, rfl, s0, s1⟩
    · have k : (E != 0) = true := by simpa using z
      go_enter Tryd.func12, Tryd.ntmps12
      go_wp2_with fail
      refine HW.out.mono ?_
      rintro e w1 ⟨rfl, hb⟩
      go_wp2_with fail
      refine (H1.out _).mono ?_
      rintro e w' ⟨rfl, rfl⟩
      go_wp2_with fail
      refine (H2.out _).mono ?_
      rintro e w' ⟨rfl, n2, rfl⟩
      go_wp2_with fail
      refine (H3.out _).mono ?_
      rintro e w' ⟨rfl, n3, rfl⟩
      go_wp2
      go_ret
      exact ⟨rfl, below_drewN hb _⟩
    · have k : (F != 0) = true := by simpa using z
      go_enter Tryd.func12, Tryd.ntmps12
      go_wp2_with fail
      refine HW.out.mono ?_
      rintro e w1 ⟨rfl, hb⟩
      go_wp2_with fail
      refine (H1.out _).mono ?_
      rintro e w' ⟨rfl, rfl⟩
      go_wp2_with fail
      refine (H2.out _).mono ?_
      rintro e w' ⟨rfl, n2, rfl⟩
      go_wp2_with fail
      refine (H3.out _).mono ?_
      rintro e w' ⟨rfl, n3, rfl⟩
      go_wp2
      go_ret
      exact ⟨rfl, below_drewN hb _⟩
    · have k : (G != 0) = true := by simpa using z
      go_enter Tryd.func12, Tryd.ntmps12
      go_wp2_with fail
      refine HW.out.mono ?_
      rintro e w1 ⟨rfl, hb⟩
      go_wp2_with fail
      refine (H1.out _).mono ?_
      rintro e w' ⟨rfl, rfl⟩
      go_wp2_with fail
      refine (H2.out _).mono ?_
      rintro e w' ⟨rfl, n2, rfl⟩
      go_wp2_with fail
      refine (H3.out _).mono ?_
      rintro e w' ⟨rfl, n3, rfl⟩
      go_wp2
      go_ret
      exact ⟨rfl, below_drewN hb _⟩
    · go_enter Tryd.func12, Tryd.ntmps12
      go_wp2_with fail
      refine HW.out.mono ?_
      rintro e w1 ⟨rfl, hb⟩
      go_wp2_with fail
      refine (H1.out _).mono ?_
      rintro e w' ⟨rfl, rfl⟩
      go_wp2_with fail
      refine (H2.out _).mono ?_
      rintro e w' ⟨rfl, n2, rfl⟩
      go_wp2_with fail
      refine (H3.out _).mono ?_
      rintro e w' ⟨rfl, n3, rfl⟩
      go_wp2
      go_ret
      exact ⟨rfl, below_drewN hb _⟩
  by_cases q : -9223372036854775808 ≤ a + b ∧ a + b ≤ 9223372036854775807
  · have e1 := xV_in q
    refine main (a + b) _ _ _ _ _ _ _ e1 rfl rfl rfl rfl rfl rfl rfl q.1 q.2 ?_
    rw [xE_in q]
    by_cases hb : b = 0
    · right; left; unfold dE; rw [if_pos hb]; omega
    · have nx : ¬ (a = -9223372036854775808 ∧ b = -1) := by omega
      have f0 : dE a b = 0 := by unfold dE; rw [if_neg hb, if_neg nx]
      by_cases hx : a + b = -9223372036854775808 ∧ b = -1
      · right; right; left; refine ⟨rfl, f0, ?_⟩; unfold dE; rw [if_neg hb, if_pos hx]; omega
      · right; right; right
        have g0 : dE (a + b) b = 0 := by unfold dE; rw [if_neg hb, if_neg hx]
        obtain ⟨s, t⟩ := step_plain (a := a) hb
        refine ⟨rfl, f0, g0, ?_, ?_, ?_⟩
        · unfold dQ; rw [if_neg (by omega), if_neg (by omega)]; exact s
        · unfold dR; rw [if_neg (by omega), if_neg (by omega)]; exact t
        · unfold dQ; rw [if_neg (by omega)]; exact fq_bd q.1 q.2 hx hb
  · refine main 0 _ _ _ _ _ _ _ (xV_out q) rfl rfl rfl rfl rfl rfl rfl (by omega) (by omega) ?_
    left; rw [xE_out q]; omega
end IntegerSteps
end Go.Proofs.YtlggiaoaleodpaaDoor

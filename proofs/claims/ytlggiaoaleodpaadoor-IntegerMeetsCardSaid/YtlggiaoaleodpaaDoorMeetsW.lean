/- The walk of IntegerMeets: the Go text returns true, at every input. -/
import Derived.Test.YtlggiaoaleodpaaDoorX
import Derived.Test.YtlggiaoaleodpaaDoorS
import Derived.Test.YtlggiaoaleodpaaDoorG
import Derived.OpenShut
namespace Go.Proofs.YtlggiaoaleodpaaDoor
open Go.RowKit
set_option linter.unusedVariables false
namespace IntegerMeets
set_option maxRecDepth 100000 in
theorem same (a m b n x l : Int) (ok : Bool) (w : World) (htab : Tab w)
    (H1 : ∀ w, Calls Tryd.prog 23 #[.int .i64 a, .int .i64 m, .int .i64 b, .int .i64 n] w fun e w' => e = .returned (.tuple #[.int .i64 x, .int .i64 l, .bool ok]) ∧ ∃ n, w' = w.drewN n)
    (H2 : ∀ w, Calls Tryd.prog 24 #[.int .i64 a, .int .i64 m, .int .i64 b, .int .i64 n] w fun e w' => e = .returned (.tuple #[.int .i64 x, .int .i64 l, .bool ok]) ∧ ∃ n, w' = w.drewN n) :
    Calls Tryd.prog 7 #[.int .i64 a, .int .i64 m, .int .i64 b, .int .i64 n] w fun e w' => e = .returned (.bool true) ∧ Below w.heap.size w w' := by
  have HW := Lib.hid (awake_all w htab)
  replace H1 := Lib.hid H1
  replace H2 := Lib.hid H2
  clear htab
  cases ok
  all_goals
    go_enter Tryd.func7, Tryd.ntmps7
    go_wp2_with fail
    refine HW.out.mono ?_
    rintro e w1 ⟨rfl, hb⟩
    go_wp2_with fail
    refine (H1.out _).mono ?_
    rintro e w' ⟨rfl, k1, rfl⟩
    go_wp2_with fail
    refine (H2.out _).mono ?_
    rintro e w' ⟨rfl, k2, rfl⟩
    go_wp2
    go_ret
    exact ⟨rfl, below_drewN hb _⟩
theorem walk (a m b n : Int) (w0 : (Lit.int .i64 a).wf = true) (w1 : (Lit.int .i64 m).wf = true) (w2 : (Lit.int .i64 b).wf = true) (w3 : (Lit.int .i64 n).wf = true) (w : World) (htab : Tab w) :
    Calls Tryd.prog 7 #[.int .i64 a, .int .i64 m, .int .i64 b, .int .i64 n] w fun e w' => e = .returned (.bool true) ∧ Below w.heap.size w w' := by
  obtain ⟨h0, h1⟩ := bounds_i64 w0
  obtain ⟨h2, h3⟩ := bounds_i64 w1
  obtain ⟨h4, h5⟩ := bounds_i64 w2
  obtain ⟨h6, h7⟩ := bounds_i64 w3
  by_cases hl : lE m n = 0
  · have H1 := fun w => meet_yes 9223372036854775807 prodMod_all a m b n h0 h1 h3 (by omega) h4 h5 h7 hl w
    have H2 := fun w => refmeet_yes a m b n h0 h1 h3 h4 h5 h7 hl w
    by_cases z : (dR b n - dR a m).tmod (gR m n) = 0
    · rw [if_pos z] at H1 H2
      exact same a m b n _ _ true w htab H1 H2
    · rw [if_neg z] at H1 H2
      exact same a m b n _ _ false w htab H1 H2
  · exact same a m b n _ _ false w htab (fun w => meet_no a m b n h0 h1 h2 h3 h4 h5 h6 h7 hl w) (fun w => refmeet_no a m b n h0 h1 h2 h3 h4 h5 h6 h7 hl w)
end IntegerMeets
end Go.Proofs.YtlggiaoaleodpaaDoor

/- The examples of the chapter: what the statements ask first. -/
import Derived.Test.YtdhmmfdpfpecmaaDoorJuC
namespace Go.Proofs.YtdhmmfdpfpecmaaDoor
open Go.RowKit
set_option linter.unusedVariables false

/-- The listed tables of both calendars' months. -/
structure Tabs (w : World) : Prop where
  jl : JLens w
  cl : Lens w
theorem Tabs.below {w w' : World} (h : Tabs w) (hb : Below w.heap.size w w') : Tabs w' := ⟨jlens_below h.jl hb, lens_below h.cl hb⟩
theorem Tabs.alloc {w : World} (h : Tabs w) (o : Obj) : Tabs (w.alloc o) := h.below (grow (here w) o)
theorem Tabs.drewN {w : World} (h : Tabs w) (n : Nat) : Tabs (w.drewN n) := h.below (below_drewN (here w) n)
theorem ex_jday (w : World) (ht : JLens w) : Calls Tryd.prog 13 #[.agg #[.int .i64 1900, .int .i64 3, .int .i64 1]] w fun e w' => e = .returned (.tuple #[.int .i64 (-25495), .int .i64 0]) ∧ Below w.heap.size w w' := by
  have h := ujday 1900 3 1 ⟨by decide, by decide⟩ ⟨by decide, by decide⟩ ⟨by decide, by decide⟩ w ht
  rw [show jdN 1900 3 1 = -25495 by decide +kernel, show jdE 1900 3 1 = 0 by decide +kernel] at h
  exact h
theorem ex_cday (w : World) (ht : Lens w) : Calls Tryd.prog 32 #[.agg #[.int .i64 1900, .int .i64 3, .int .i64 14]] w fun e w' => e = .returned (.tuple #[.int .i64 (-25495), .int .i64 0]) ∧ Below w.heap.size w w' := by
  have h := cday_yes 1900 3 14 (by decide +kernel) w ht
  rw [show dayN 1900 3 14 = -25495 by decide +kernel] at h
  exact h
theorem ex_num (w : World) : Calls Tryd.prog 21 #[.int .i64 0] w fun e w' => e = .returned (.tuple #[.int .i64 2440588, .int .i64 0]) ∧ w = w' := ujnumber_in 0 (by decide) (by decide) w
set_option maxRecDepth 100000 in
set_option maxHeartbeats 1000000 in
theorem awake_all (w : World) (ht : Tabs w) :
    Calls Tryd.prog 12 #[] w fun e w' => e = .returned (.bool true) ∧ Below w.heap.size w w' := by
  replace ht := Lib.hid ht
  go_enter Tryd.func12, Tryd.ntmps12
  go_wp2_with fail
  refine (ex_jday _ ht.out.jl).mono ?_
  rintro e w1 ⟨rfl, hb⟩
  have A1 := Lib.hid hb
  clear hb
  go_wp2_with fail
  refine (ex_cday _ (ht.out.below A1.out).cl).mono ?_
  rintro e w2 ⟨rfl, hb⟩
  have A2 := Lib.hid (down A1.out hb)
  clear hb A1
  go_wp2_with fail
  refine (ex_num _).mono ?_
  rintro e w3 ⟨rfl, rfl⟩
  go_wp2
  go_ret
  exact ⟨rfl, A2.out⟩
theorem jdyB_no {n : Int} (h : ¬ (-719162 ≤ n ∧ n < 2932897)) : dyB n = false := by rw [← Bool.not_eq_true, dyB_iff]; exact h
theorem right_no (n : Int) (hn : I64 n) (h : n < -719162 ∨ 2932897 ≤ n) (w : World) : Calls Tryd.prog 22 #[.int .i64 n] w fun e w' => e = .returned (.bool false) ∧ w = w' := by
  have q := rjright n hn.1 hn.2 w
  rw [dyB_no h] at q; exact q
theorem right_yes (n : Int) (r0 : -719162 ≤ n) (r1 : n < 2932897) (w : World) : Calls Tryd.prog 22 #[.int .i64 n] w fun e w' => e = .returned (.bool true) ∧ w = w' := by
  have q := rjright n (by omega) (by omega) w
  rw [dyB_yes r0 r1] at q; exact q
end Go.Proofs.YtdhmmfdpfpecmaaDoor

/- The examples of the chapter: what the statements ask first. -/
import Derived.Test.YtdhedkcbkchpgaaDoorCivC
import Derived.Test.YtdhedkcbkchpgaaDoorCivD
import Derived.Test.YtdhedkcbkchpgaaDoorCivE
import Derived.Test.YtdhedkcbkchpgaaDoorKept
namespace Go.Proofs.YtdhedkcbkchpgaaDoor
open Go.RowKit
set_option linter.unusedVariables false

theorem ex_day (w : World) (ht : Lens w) : Calls Tryd.prog 25 #[.agg #[.int .i64 2024, .int .i64 2, .int .i64 29]] w fun e w' => e = .returned (.tuple #[.int .i64 19782, .int .i64 0]) ∧ Below w.heap.size w w' := by
  have h := cday_yes 2024 2 29 (by decide +kernel) w ht
  rw [show dayN 2024 2 29 = 19782 by decide +kernel] at h
  exact h
theorem ex_add (w : World) (ht : Lens w) : Calls Tryd.prog 29 #[.agg #[.int .i64 2024, .int .i64 1, .int .i64 31], .int .i64 1] w fun e w' => e = .returned (.tuple #[.agg #[.int .i64 2024, .int .i64 2, .int .i64 29], .int .i64 0]) ∧ Below w.heap.size w w' := by
  have h := cadd_yes 2024 1 31 1 24289 ⟨by decide, by decide⟩ (by decide +kernel) (by decide) (by decide) (by decide) w ht
  rw [show min (31 : Int) (lenM (24289 / 12) (24289 % 12 + 1)) = 29 by decide +kernel, show (24289 : Int) / 12 = 2024 by decide, show (24289 : Int) % 12 + 1 = 2 by decide] at h
  exact h
theorem ex_add2 (w : World) (ht : Lens w) : Calls Tryd.prog 29 #[.agg #[.int .i64 2024, .int .i64 2, .int .i64 29], .int .i64 12] w fun e w' => e = .returned (.tuple #[.agg #[.int .i64 2025, .int .i64 2, .int .i64 28], .int .i64 0]) ∧ Below w.heap.size w w' := by
  have h := cadd_yes 2024 2 29 12 24301 ⟨by decide, by decide⟩ (by decide +kernel) (by decide) (by decide) (by decide) w ht
  rw [show min (29 : Int) (lenM (24301 / 12) (24301 % 12 + 1)) = 28 by decide +kernel, show (24301 : Int) / 12 = 2025 by decide, show (24301 : Int) % 12 + 1 = 2 by decide] at h
  exact h
theorem ex_nth (w : World) (ht : Lens w) : Calls Tryd.prog 31 #[.int .i64 2024, .int .i64 2, .int .i64 5, .int .i64 (-1)] w fun e w' => e = .returned (.tuple #[.int .i64 19776, .int .i64 0]) ∧ Below w.heap.size w w' := by
  have h := cnth_neg 2024 2 5 (-1) 19754 29 6 (by decide +kernel) (by decide +kernel) (by decide) (by decide) (by decide) (by decide) ⟨by decide, by decide⟩ (by decide) w ht
  rw [show nthB 19754 29 6 (- -1) = 19776 by decide +kernel, show nthE 29 6 (- -1) = 0 by decide +kernel] at h
  exact h
theorem ex_nth2 (w : World) (ht : Lens w) : Calls Tryd.prog 31 #[.int .i64 2024, .int .i64 2, .int .i64 5, .int .i64 5] w fun e w' => e = .returned (.tuple #[.int .i64 0, .int .i64 7]) ∧ Below w.heap.size w w' := by
  have h := cnth_pos 2024 2 5 5 19754 29 1 (by decide +kernel) (by decide +kernel) (by decide) (by decide) (by decide) (by decide) ⟨by decide, by decide⟩ (by decide) w ht
  rw [show nthD 19754 29 1 5 = 0 by decide +kernel, show nthE 29 1 5 = 7 by decide +kernel] at h
  exact h
theorem ex_wkd (w : World) : Calls Tryd.prog 21 #[.int .i64 19782] w fun e w' => e = .returned (.int .i64 4) ∧ ∃ k, w' = w.drewN k := by
  have h := cweekday 19782 ⟨by decide, by decide⟩ w
  rw [show wkd 19782 = 4 by decide +kernel] at h
  exact h
theorem ex_ydy (w : World) (ht : Lens w) : Calls Tryd.prog 23 #[.agg #[.int .i64 2024, .int .i64 2, .int .i64 29]] w fun e w' => e = .returned (.int .i64 60) ∧ Below w.heap.size w w' := by
  have h := cyearday_yes 2024 2 29 (by decide +kernel) w ht
  rw [show cum 2024 2 + 29 = 60 by decide +kernel] at h
  exact h
set_option maxRecDepth 100000 in
set_option maxHeartbeats 1000000 in
theorem awake_all (w : World) (ht : Lens w) :
    Calls Tryd.prog 14 #[] w fun e w' => e = .returned (.bool true) ∧ Below w.heap.size w w' := by
  replace ht := Lib.hid ht
  go_enter Tryd.func14, Tryd.ntmps14
  go_wp2_with fail
  refine (ex_day _ (lens_alloc ht.out _)).mono ?_
  rintro e w1 ⟨rfl, hb⟩
  have A1 := Lib.hid (down (grow (here w) _) hb)
  have B1 := Lib.hid (Box.new hb)
  clear hb
  go_wp2_with fail
  refine (ex_add _ (lens_below ht.out A1.out)).mono ?_
  rintro e w2 ⟨rfl, hb⟩
  have A2 := Lib.hid (down A1.out hb)
  have B2 := Lib.hid (B1.out.keep hb)
  clear hb A1 B1
  obtain ⟨c0, c1, c2, z⟩ := B2.out
  go_wp2_with fail
  refine (ex_add2 _ (lens_below ht.out (grow A2.out _))).mono ?_
  rintro e w3 ⟨rfl, hb⟩
  have A3 := Lib.hid (down (grow A2.out _) hb)
  have B3 := Lib.hid ((B2.out.old _).keep hb)
  have C3 := Lib.hid (Box.new hb)
  clear hb A2 B2 c0 c1 c2 z
  obtain ⟨c0, c1, c2, z⟩ := B3.out
  obtain ⟨d0, d1, d2, z2⟩ := C3.out
  go_wp2_with fail
  refine (ex_nth _ (lens_below ht.out (grow A3.out _))).mono ?_
  rintro e w4 ⟨rfl, hb⟩
  have A4 := Lib.hid (down (grow A3.out _) hb)
  have B4 := Lib.hid ((B3.out.old _).keep hb)
  have C4 := Lib.hid ((C3.out.old _).keep hb)
  have D4 := Lib.hid (Box.new hb)
  clear hb A3 B3 C3 c0 c1 c2 z d0 d1 d2 z2
  go_wp2_with fail
  refine (ex_nth2 _ (lens_below ht.out A4.out)).mono ?_
  rintro e w5 ⟨rfl, hb⟩
  have A5 := Lib.hid (down A4.out hb)
  have B5 := Lib.hid (B4.out.keep hb)
  have C5 := Lib.hid (C4.out.keep hb)
  have D5 := Lib.hid (D4.out.keep hb)
  clear hb A4 B4 C4 D4
  obtain ⟨c0, c1, c2, z⟩ := B5.out
  go_wp2_with fail
  refine (ex_wkd _).mono ?_
  rintro e w' ⟨rfl, k, rfl⟩
  go_wp2_with fail
  refine (ex_ydy _ (lens_below ht.out (below_drewN A5.out k))).mono ?_
  rintro e w6 ⟨rfl, hb⟩
  have A6 := Lib.hid (down (below_drewN A5.out k) hb)
  have B6 := Lib.hid ((B5.out.drewN k).keep hb)
  have C6 := Lib.hid ((C5.out.drewN k).keep hb)
  have D6 := Lib.hid ((D5.out.drewN k).keep hb)
  clear hb A5 B5 C5 D5 c0 c1 c2 z
  obtain ⟨c0, c1, c2, z⟩ := B6.out
  obtain ⟨d0, d1, d2, z2⟩ := C6.out
  obtain ⟨e0, e1, e2, z3⟩ := D6.out
  go_wp2
  go_ret
  exact ⟨rfl, A6.out⟩
end Go.Proofs.YtdhedkcbkchpgaaDoor

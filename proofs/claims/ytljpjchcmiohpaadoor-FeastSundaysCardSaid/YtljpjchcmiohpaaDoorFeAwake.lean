/- The examples of the chapter: what the statements ask first. -/
import Derived.Test.YtljpjchcmiohpaaDoorFeU
import Derived.BigQuiet
import Derived.Deep.QuietTactic
import Derived.Deep.Cut
namespace Go.Proofs.YtljpjchcmiohpaaDoor
open Go.RowKit
set_option linter.unusedVariables false

set_option maxRecDepth 100000 in
set_option maxHeartbeats 2000000 in
theorem awake_all (w : World) (ht : Tabs w) :
    Calls Tryd.prog 11 #[] w fun e w' => e = .returned (.bool true) ∧ Below w.heap.size w w' := by
  have i : I64 2024 ∧ I64 2000 := ⟨⟨by decide, by decide⟩, ⟨by decide, by decide⟩⟩
  have H1 := fun w ht => ueaster 2024 i.1 w ht
  rw [show feV 2024 = 19813 by decide +kernel, show fyE 2024 = 0 by decide +kernel] at H1
  have H2 := fun w ht => ujulian 2024 i.1 w ht
  rw [show fjV 2024 = 19848 by decide +kernel, show fyE 2024 = 0 by decide +kernel] at H2
  have H3 := fun w ht => cday_yes 2024 5 5 (by decide +kernel) w ht
  rw [show dayN 2024 5 5 = 19848 by decide +kernel] at H3
  have H4 := fun w ht => ugold 2000 i.2 w ht
  rw [show fgV 2000 = 6 by decide +kernel] at H4
  have H5 := fun w ht => uepact 2000 i.2 w ht
  rw [show fpV 2000 = 24 by decide +kernel] at H5
  clear i
  replace H1 := Lib.hid H1
  replace H2 := Lib.hid H2
  replace H3 := Lib.hid H3
  replace H4 := Lib.hid H4
  replace H5 := Lib.hid H5
  replace ht := Lib.hid ht
  go_enter Tryd.func11, Tryd.ntmps11
  go_wp2_with fail
  refine (H1.out _ (ht.out.below (here w))).mono ?_
  rintro e w1 ⟨rfl, hb⟩
  have A1 := Lib.hid (down (here w) hb)
  clear hb
  go_wp2_with fail
  refine (H2.out _ (ht.out.below A1.out)).mono ?_
  rintro e w2 ⟨rfl, hb⟩
  have A2 := Lib.hid (down A1.out hb)
  clear hb A1
  go_wp2_with fail
  refine (H3.out _ (ht.out.below A2.out).cl).mono ?_
  rintro e w3 ⟨rfl, hb⟩
  have A3 := Lib.hid (down A2.out hb)
  clear hb A2
  go_wp2_with fail
  refine (H4.out _ (ht.out.below A3.out)).mono ?_
  rintro e w4 ⟨rfl, hb⟩
  have A4 := Lib.hid (down A3.out hb)
  clear hb A3
  go_wp2_with fail
  refine (H5.out _ (ht.out.below A4.out)).mono ?_
  rintro e w5 ⟨rfl, hb⟩
  have A5 := Lib.hid (down A4.out hb)
  clear hb A4
  go_wp2
  go_ret
  exact ⟨rfl, by first | exact A5.out | exact grow A5.out _ | exact below_drewN A5.out _ | exact grow (grow A5.out _) _ | exact grow (grow (grow A5.out _) _) _⟩
end Go.Proofs.YtljpjchcmiohpaaDoor

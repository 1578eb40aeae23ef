/- The example of the chapter. -/
import Derived.Test.YtiaidmjhgfaobaaDoorAlUn
import Derived.Test.YtiaidmjhgfaobaaDoorLSlP
import Derived.Test.YtiaidmjhgfaobaaDoorLThr
import Derived.BigQuiet
import Derived.Deep.QuietTactic
import Derived.Deep.RegionHeld3
import Derived.Deep.Cut
import Derived.Outline
namespace Go.Proofs.YtiaidmjhgfaobaaDoor
open Go.RowKit
set_option linter.unusedVariables false

set_option maxRecDepth 100000 in
set_option maxHeartbeats 4000000 in
theorem awake_all (w : World) (ht : Tabs w) :
    Calls Tryd.prog 13 #[] w fun e w' => e = .returned (.bool true) ∧ Below w.heap.size w w' := by
  have HB := fun w ht => uabasic 0 4 ⟨by decide, by decide⟩ ⟨by decide, by decide⟩ w ht
  rw [show baS 0 4 = 31 by decide +kernel] at HB
  have HF := fun w ht => uafull w ht
  have HC := fun w ht => uaconvex 31 ⟨by decide, by decide⟩ w ht
  rw [show cvB 31 = true by decide +kernel] at HC
  replace HB := Lib.hid HB
  replace HF := Lib.hid HF
  replace HC := Lib.hid HC
  replace ht := Lib.hid ht
  go_enter Tryd.func13, Tryd.ntmps13
  go_wp2_with fail
  refine (HB.out _ (ht.out.below (here w))).mono ?_
  rintro e w1 ⟨rfl, hb⟩
  have A1 := Lib.hid (down (here w) hb)
  clear hb
  go_wp2_with fail
  refine (HF.out _ (ht.out.below A1.out)).mono ?_
  rintro e w2 ⟨rfl, hb⟩
  have A2 := Lib.hid (down A1.out hb)
  clear hb A1
  go_wp2_with fail
  refine (HC.out _ (ht.out.below A2.out)).mono ?_
  rintro e w3 ⟨rfl, hb⟩
  have A3 := Lib.hid (down A2.out hb)
  clear hb A2
  go_wp2
  go_ret
  exact ⟨rfl, by first | exact A3.out | exact grow A3.out _ | exact below_drewN A3.out _ | exact grow (grow A3.out _) _ | exact grow (grow (grow A3.out _) _) _⟩
end Go.Proofs.YtiaidmjhgfaobaaDoor

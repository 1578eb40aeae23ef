/- The walk of AllenTexts. -/
import Derived.Test.YtiaidmjhgfaobaaDoorAlAwaken
import Derived.BigQuiet
import Derived.Deep.QuietTactic
import Derived.Deep.RegionHeld3
import Derived.Deep.Cut
import Derived.Outline
namespace Go.Proofs.YtiaidmjhgfaobaaDoor
open Go.RowKit
set_option linter.unusedVariables false

set_option maxRecDepth 100000 in
set_option maxHeartbeats 4000000 in
theorem AllenTexts.walk (n : Int) (s : ByteArray) (hn : (Lit.int .i64 n).wf = true) (hs : s.size ≤ maxLen) (w : World) (ht : Tabs w) :
    Calls Tryd.prog 5 #[.int .i64 n, .string s] w fun e w' => e = .returned (.bool true) ∧ Below w.heap.size w w' := by
  replace hn := i64_wf hn
  have AW := Lib.hid (fun w ht => awake_all w ht)
  replace ht := Lib.hid ht
  by_cases l : 300 < s.size
  · have kl : decide (300 < (s.size : Int)) = true := decide_eq_true (by omega)
    clear l
    go_enter Tryd.func5, Tryd.ntmps5
    go_wp2_with fail
    refine (AW.out _ (ht.out.below (here w))).mono ?_
    rintro e w1 ⟨rfl, hb⟩
    have A1 := Lib.hid hb
    clear hb
    go_wp2
    go_ret
    exact ⟨rfl, A1.out⟩
  · have kl : decide (300 < (s.size : Int)) = false := decide_eq_false (by omega)
    have HP := fun w ht => uaparse s (by omega) w ht
    have RP := fun w => raparse s hs w
    have HT := fun w ht => uatext n hn w ht
    have RT := fun w => ratext n hn w
    generalize (psV s).1 = V at *
    generalize (psV s).2 = E at *
    generalize (⟨(txB n).toArray⟩ : ByteArray) = X at *
    have k0 : (X.toList == X.toList) = true := beq_self_eq_true _
    clear l hn
    replace HP := Lib.hid HP
    replace RP := Lib.hid RP
    replace HT := Lib.hid HT
    replace RT := Lib.hid RT
    go_enter Tryd.func5, Tryd.ntmps5
    go_wp2_with fail
    refine (AW.out _ (ht.out.below (here w))).mono ?_
    rintro e w1 ⟨rfl, hb⟩
    have A1 := Lib.hid (down (here w) hb)
    clear hb
    go_wp2_with fail
    refine (HP.out _ (ht.out.below A1.out)).mono ?_
    rintro e w2 ⟨rfl, hb⟩
    have A2 := Lib.hid (down A1.out hb)
    clear hb A1
    go_wp2_with fail
    refine (RP.out _).mono ?_
    rintro e w3 ⟨rfl, hb⟩
    have A3 := Lib.hid (down A2.out hb)
    clear hb A2
    go_wp2_with fail
    refine (HT.out _ (ht.out.below A3.out)).mono ?_
    rintro e w4 ⟨rfl, hb⟩
    have A4 := Lib.hid (down A3.out hb)
    clear hb A3
    go_wp2_with fail
    refine (RT.out _).mono ?_
    rintro e w5 ⟨rfl, hb⟩
    have A5 := Lib.hid (down A4.out hb)
    clear hb A4
    go_wp2
    go_ret
    exact ⟨rfl, by first | exact A5.out | exact grow A5.out _ | exact below_drewN A5.out _ | exact grow (grow A5.out _) _ | exact grow (grow (grow A5.out _) _) _⟩
end Go.Proofs.YtiaidmjhgfaobaaDoor

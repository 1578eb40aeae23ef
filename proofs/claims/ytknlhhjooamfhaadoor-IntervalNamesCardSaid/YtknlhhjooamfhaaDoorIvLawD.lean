/- The walk of IntervalNames. -/
import Derived.Test.YtknlhhjooamfhaaDoorIvAwake
import Derived.Test.YtknlhhjooamfhaaDoorIvN
import Derived.BigQuiet
import Derived.Deep.QuietTactic
import Derived.Deep.RegionHeld3
import Derived.Deep.Cut
import Derived.Outline
namespace Go.Proofs.YtknlhhjooamfhaaDoor
open Go.RowKit
set_option linter.unusedVariables false

set_option maxRecDepth 100000 in
set_option maxHeartbeats 4000000 in
theorem IntervalNames.walk (r : Int) (s : ByteArray) (hr : (Lit.int .i64 r).wf = true) (hs : s.size ≤ maxLen) (w : World) (ht : Tabs w) :
    Calls Tryd.prog 6 #[.int .i64 r, .string s] w fun e w' => e = .returned (.bool true) ∧ Below w.heap.size w w' := by
  replace hr := i64_wf hr
  have AW := Lib.hid (fun w ht => awake_all w ht)
  replace ht := Lib.hid ht
  unfold maxLen at hs
  by_cases l : 1000 < s.size
  · have kl : decide (1000 < (s.size : Int)) = true := decide_eq_true (by omega)
    clear l
    go_enter Tryd.func6, Tryd.ntmps6
    go_wp2_with fail
    refine (AW.out _ (ht.out.below (here w))).mono ?_
    rintro e w1 ⟨rfl, hb⟩
    have A1 := Lib.hid hb
    clear hb
    go_wp2
    go_ret
    exact ⟨rfl, A1.out⟩
  · have kl : decide (1000 < (s.size : Int)) = false := decide_eq_false (by omega)
    have HP := fun w ht => uvparse s (by omega) w ht
    have RP := fun w => rparse s w
    have HN := fun w ht => uvname r hr w ht
    have RN := fun w => rname r hr w
    generalize prV s = V at *
    generalize prE s = E at *
    obtain ⟨r0, r1⟩ := hr
    replace HP := Lib.hid HP
    replace RP := Lib.hid RP
    clear l
    by_cases z : 0 ≤ r ∧ r ≤ 12
    · obtain ⟨k, rfl⟩ : ∃ k : Nat, r = k := ⟨r.toNat, by omega⟩
      have kk : k ≤ 12 := by omega
      have HB := fun w ht => uvparse (nmV k) (Nat.le_trans (nm_small ⟨k, by omega⟩) (by decide)) w ht
      rw [(pr_back (show k < 13 by omega)).1, (pr_back (show k < 13 by omega)).2] at HB
      rw [nmR_in kk] at HN RN
      generalize nmV k = S at *
      have k0 : decide (0 ≤ (k : Int)) = true := decide_eq_true (by omega)
      have k1 : decide ((k : Int) ≤ 12) = true := decide_eq_true (by omega)
      clear z
      replace HN := Lib.hid HN
      replace RN := Lib.hid RN
      replace HB := Lib.hid HB
      go_enter Tryd.func6, Tryd.ntmps6
      go_wp2_with fail
      refine (AW.out _ (ht.out.below (here w))).mono ?_
      rintro e w1 ⟨rfl, hb⟩
      have A1 := Lib.hid (down (here w) hb)
      clear hb
      go_wp2_with fail
      refine (HP.out _ (ht.out.below A1.out)).mono ?_
      rintro e w2 ⟨rfl, hb⟩
      have A2 := Lib.hid (down A1.out hb)
      clear hb A1
      go_wp2_with fail
      refine (RP.out _).mono ?_
      rintro e w3 ⟨rfl, hb⟩
      have A3 := Lib.hid (down A2.out hb)
      clear hb A2
      go_wp2_with fail
      refine (HN.out _ (ht.out.below A3.out)).mono ?_
      rintro e w4 ⟨rfl, hb⟩
      have A4 := Lib.hid (down A3.out hb)
      clear hb A3
      go_wp2_with fail
      refine (HB.out _ (ht.out.below A4.out)).mono ?_
      rintro e w5 ⟨rfl, hb⟩
      have A5 := Lib.hid (down A4.out hb)
      clear hb A4
      go_wp2_with fail
      refine (HN.out _ (ht.out.below A5.out)).mono ?_
      rintro e w6 ⟨rfl, hb⟩
      have A6 := Lib.hid (down A5.out hb)
      clear hb A5
      go_wp2_with fail
      refine (RN.out _).mono ?_
      rintro e w7 ⟨rfl, hb⟩
      have A7 := Lib.hid (down A6.out hb)
      clear hb A6
      go_wp2
      go_ret
      exact ⟨rfl, by first | exact A7.out | exact grow A7.out _ | exact below_drewN A7.out _ | exact grow (grow A7.out _) _ | exact grow (grow (grow A7.out _) _) _⟩
    · have HB := fun w ht => uvparse ⟨#[]⟩ (by decide) w ht
      rw [pr_nil, show prV (⟨#[]⟩ : ByteArray) = 0 from (pr_no fun j hj e => nm_full ⟨j, hj⟩ (by show (nmV j).data.toList = []; rw [e])).1] at HB
      rw [nmR_out z] at HN RN
      by_cases y : 0 ≤ r
      · have k0 : decide (0 ≤ r) = true := decide_eq_true y
        have k1 : decide (r ≤ 12) = false := decide_eq_false (by omega)
        clear z
        replace HN := Lib.hid HN
        replace RN := Lib.hid RN
        replace HB := Lib.hid HB
        go_enter Tryd.func6, Tryd.ntmps6
        go_wp2_with fail
        refine (AW.out _ (ht.out.below (here w))).mono ?_
        rintro e w1 ⟨rfl, hb⟩
        have A1 := Lib.hid (down (here w) hb)
        clear hb
        go_wp2_with fail
        refine (HP.out _ (ht.out.below A1.out)).mono ?_
        rintro e w2 ⟨rfl, hb⟩
        have A2 := Lib.hid (down A1.out hb)
        clear hb A1
        go_wp2_with fail
        refine (RP.out _).mono ?_
        rintro e w3 ⟨rfl, hb⟩
        have A3 := Lib.hid (down A2.out hb)
        clear hb A2
        go_wp2_with fail
        refine (HN.out _ (ht.out.below A3.out)).mono ?_
        rintro e w4 ⟨rfl, hb⟩
        have A4 := Lib.hid (down A3.out hb)
        clear hb A3
        go_wp2_with fail
        refine (HB.out _ (ht.out.below A4.out)).mono ?_
        rintro e w5 ⟨rfl, hb⟩
        have A5 := Lib.hid (down A4.out hb)
        clear hb A4
        go_wp2_with fail
        refine (HN.out _ (ht.out.below A5.out)).mono ?_
        rintro e w6 ⟨rfl, hb⟩
        have A6 := Lib.hid (down A5.out hb)
        clear hb A5
        go_wp2_with fail
        refine (RN.out _).mono ?_
        rintro e w7 ⟨rfl, hb⟩
        have A7 := Lib.hid (down A6.out hb)
        clear hb A6
        go_wp2
        go_ret
        exact ⟨rfl, by first | exact A7.out | exact grow A7.out _ | exact below_drewN A7.out _ | exact grow (grow A7.out _) _ | exact grow (grow (grow A7.out _) _) _⟩
      · have k0 : decide (0 ≤ r) = false := decide_eq_false y
        clear z
        replace HN := Lib.hid HN
        replace RN := Lib.hid RN
        replace HB := Lib.hid HB
        go_enter Tryd.func6, Tryd.ntmps6
        go_wp2_with fail
        refine (AW.out _ (ht.out.below (here w))).mono ?_
        rintro e w1 ⟨rfl, hb⟩
        have A1 := Lib.hid (down (here w) hb)
        clear hb
        go_wp2_with fail
        refine (HP.out _ (ht.out.below A1.out)).mono ?_
        rintro e w2 ⟨rfl, hb⟩
        have A2 := Lib.hid (down A1.out hb)
        clear hb A1
        go_wp2_with fail
        refine (RP.out _).mono ?_
        rintro e w3 ⟨rfl, hb⟩
        have A3 := Lib.hid (down A2.out hb)
        clear hb A2
        go_wp2_with fail
        refine (HN.out _ (ht.out.below A3.out)).mono ?_
        rintro e w4 ⟨rfl, hb⟩
        have A4 := Lib.hid (down A3.out hb)
        clear hb A3
        go_wp2_with fail
        refine (HB.out _ (ht.out.below A4.out)).mono ?_
        rintro e w5 ⟨rfl, hb⟩
        have A5 := Lib.hid (down A4.out hb)
        clear hb A4
        go_wp2_with fail
        refine (HN.out _ (ht.out.below A5.out)).mono ?_
        rintro e w6 ⟨rfl, hb⟩
        have A6 := Lib.hid (down A5.out hb)
        clear hb A5
        go_wp2_with fail
        refine (RN.out _).mono ?_
        rintro e w7 ⟨rfl, hb⟩
        have A7 := Lib.hid (down A6.out hb)
        clear hb A6
        go_wp2
        go_ret
        exact ⟨rfl, by first | exact A7.out | exact grow A7.out _ | exact below_drewN A7.out _ | exact grow (grow A7.out _) _ | exact grow (grow (grow A7.out _) _) _⟩
end Go.Proofs.YtknlhhjooamfhaaDoor

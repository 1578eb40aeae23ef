/- The walk of AllenConvex. -/
import Derived.Test.YtiaidmjhgfaobaaDoorAlAwakec
import Derived.Test.YtiaidmjhgfaobaaDoorAlCv
import Derived.BigQuiet
import Derived.Deep.QuietTactic
import Derived.Deep.RegionHeld3
import Derived.Deep.Cut
import Derived.Outline
namespace Go.Proofs.YtiaidmjhgfaobaaDoor
open Go.RowKit
set_option linter.unusedVariables false

set_option maxRecDepth 100000 in
set_option maxHeartbeats 4000000 in
theorem AllenConvex.walk (a b : Int) (ha : (Lit.int .i64 a).wf = true) (hb : (Lit.int .i64 b).wf = true) (w : World) (ht : Tabs w) :
    Calls Tryd.prog 6 #[.int .i64 a, .int .i64 b] w fun e w' => e = .returned (.bool true) ∧ Below w.heap.size w w' := by
  replace ha := i64_wf ha
  replace hb := i64_wf hb
  have HA := fun w ht => uaconvex a ha w ht
  have HB := fun w ht => uaconvex b hb w ht
  have RA := fun w => raconvex a ha w
  have RB := fun w => raconvex b hb w
  have AW := Lib.hid (fun w ht => awake_all w ht)
  replace ht := Lib.hid ht
  cases va : cvB a
  · rw [va] at HA RA
    generalize cvB b = T at *
    clear ha hb va
    cases T
    all_goals
      replace HA := Lib.hid HA
      replace HB := Lib.hid HB
      replace RA := Lib.hid RA
      replace RB := Lib.hid RB
      go_enter Tryd.func6, Tryd.ntmps6
      go_wp2_with fail
      refine (AW.out _ (ht.out.below (here w))).mono ?_
      rintro e w1 ⟨rfl, hb⟩
      have A1 := Lib.hid (down (here w) hb)
      clear hb
      go_wp2_with fail
      refine (HA.out _ (ht.out.below A1.out)).mono ?_
      rintro e w2 ⟨rfl, hb⟩
      have A2 := Lib.hid (down A1.out hb)
      clear hb A1
      go_wp2_with fail
      refine (RA.out _).mono ?_
      rintro e w3 ⟨rfl, hb⟩
      have A3 := Lib.hid (down A2.out hb)
      clear hb A2
      go_wp2_with fail
      refine (HB.out _ (ht.out.below A3.out)).mono ?_
      rintro e w4 ⟨rfl, hb⟩
      have A4 := Lib.hid (down A3.out hb)
      clear hb A3
      go_wp2_with fail
      refine (RB.out _).mono ?_
      rintro e w5 ⟨rfl, hb⟩
      have A5 := Lib.hid (down A4.out hb)
      clear hb A4
      go_wp2_with fail
      refine (RA.out _).mono ?_
      rintro e w6 ⟨rfl, hb⟩
      have A6 := Lib.hid (down A5.out hb)
      clear hb A5
      go_wp2
      go_ret
      exact ⟨rfl, by first | exact A6.out | exact grow A6.out _ | exact below_drewN A6.out _ | exact grow (grow A6.out _) _ | exact grow (grow (grow A6.out _) _) _⟩
  · rw [va] at HA RA
    cases vb : cvB b
    · rw [vb] at HB RB
      clear ha hb va vb
      replace HA := Lib.hid HA
      replace HB := Lib.hid HB
      replace RA := Lib.hid RA
      replace RB := Lib.hid RB
      go_enter Tryd.func6, Tryd.ntmps6
      go_wp2_with fail
      refine (AW.out _ (ht.out.below (here w))).mono ?_
      rintro e w1 ⟨rfl, hb⟩
      have A1 := Lib.hid (down (here w) hb)
      clear hb
      go_wp2_with fail
      refine (HA.out _ (ht.out.below A1.out)).mono ?_
      rintro e w2 ⟨rfl, hb⟩
      have A2 := Lib.hid (down A1.out hb)
      clear hb A1
      go_wp2_with fail
      refine (RA.out _).mono ?_
      rintro e w3 ⟨rfl, hb⟩
      have A3 := Lib.hid (down A2.out hb)
      clear hb A2
      go_wp2_with fail
      refine (HB.out _ (ht.out.below A3.out)).mono ?_
      rintro e w4 ⟨rfl, hb⟩
      have A4 := Lib.hid (down A3.out hb)
      clear hb A3
      go_wp2_with fail
      refine (RB.out _).mono ?_
      rintro e w5 ⟨rfl, hb⟩
      have A5 := Lib.hid (down A4.out hb)
      clear hb A4
      go_wp2_with fail
      refine (RA.out _).mono ?_
      rintro e w6 ⟨rfl, hb⟩
      have A6 := Lib.hid (down A5.out hb)
      clear hb A5
      go_wp2_with fail
      refine (RB.out _).mono ?_
      rintro e w7 ⟨rfl, hb⟩
      have A7 := Lib.hid (down A6.out hb)
      clear hb A6
      go_wp2
      go_ret
      exact ⟨rfl, by first | exact A7.out | exact grow A7.out _ | exact below_drewN A7.out _ | exact grow (grow A7.out _) _ | exact grow (grow (grow A7.out _) _) _⟩
    · rw [vb] at HB RB
      unfold cvB at va vb
      rw [Bool.and_eq_true] at va vb
      obtain ⟨ia, ca⟩ := va
      obtain ⟨ib, cb⟩ := vb
      have ia2 := isS_iff.1 ia
      have ib2 := isS_iff.1 ib
      obtain ⟨A, rfl⟩ : ∃ A : Nat, a = A := ⟨a.toNat, by omega⟩
      obtain ⟨B, rfl⟩ : ∃ B : Nat, b = B := ⟨b.toNat, by omega⟩
      have hA : A < 8192 := by omega
      have hB : B < 8192 := by omega
      have cl := cv_closed hA hB ca cb
      have is (n : Nat) (h : n < 8192) : isS (n : Int) = true := isS_iff.2 (by omega)
      have l1 : A &&& B < 8192 := Nat.lt_of_le_of_lt Nat.and_le_left hA
      have l2 := ivK_lt A 13
      have l3 : cmI A B 15 < 8192 := cmI_lt A B 15 (Nat.le_refl _)
      have cv (n : Nat) (h : n < 8192) (c : cvN n = true) : cvB (n : Int) = true := by unfold cvB; rw [is n h]; exact c
      have HI := fun w ht => uainv A ha w ht
      rw [show ivS (A : Int) = (ivK A 13 : Int) by unfold ivS; rw [ia]; rfl] at HI
      have HC := fun w ht => uacomp A B ha hb w ht
      rw [show cmS (A : Int) (B : Int) = (cmI A B 15 : Int) by unfold cmS; rw [ia, ib]; rfl] at HC
      have H1 := fun w ht => uaconvex (A &&& B : Nat) ⟨by omega, by omega⟩ w ht
      have H2 := fun w ht => uaconvex (ivK A 13 : Nat) ⟨by omega, by omega⟩ w ht
      have H3 := fun w ht => uaconvex (cmI A B 15 : Nat) ⟨by omega, by omega⟩ w ht
      rw [cv _ l1 cl.1] at H1
      rw [cv _ l2 cl.2.1] at H2
      rw [cv _ l3 cl.2.2] at H3
      have ea := and_i64 A B (by omega) (by omega)
      generalize A &&& B = M at *
      generalize ivK A 13 = N at *
      generalize cmI A B 15 = K at *
      clear cl is cv ca cb ia ib ia2 ib2 ha hb
      replace HA := Lib.hid HA
      replace HB := Lib.hid HB
      replace RA := Lib.hid RA
      replace RB := Lib.hid RB
      replace HI := Lib.hid HI
      replace HC := Lib.hid HC
      replace H1 := Lib.hid H1
      replace H2 := Lib.hid H2
      replace H3 := Lib.hid H3
      go_enter Tryd.func6, Tryd.ntmps6
      go_wp2_with fail
      refine (AW.out _ (ht.out.below (here w))).mono ?_
      rintro e w1 ⟨rfl, hb⟩
      have A1 := Lib.hid (down (here w) hb)
      clear hb
      go_wp2_with fail
      refine (HA.out _ (ht.out.below A1.out)).mono ?_
      rintro e w2 ⟨rfl, hb⟩
      have A2 := Lib.hid (down A1.out hb)
      clear hb A1
      go_wp2_with fail
      refine (RA.out _).mono ?_
      rintro e w3 ⟨rfl, hb⟩
      have A3 := Lib.hid (down A2.out hb)
      clear hb A2
      go_wp2_with fail
      refine (HB.out _ (ht.out.below A3.out)).mono ?_
      rintro e w4 ⟨rfl, hb⟩
      have A4 := Lib.hid (down A3.out hb)
      clear hb A3
      go_wp2_with fail
      refine (RB.out _).mono ?_
      rintro e w5 ⟨rfl, hb⟩
      have A5 := Lib.hid (down A4.out hb)
      clear hb A4
      go_wp2_with fail
      refine (RA.out _).mono ?_
      rintro e w6 ⟨rfl, hb⟩
      have A6 := Lib.hid (down A5.out hb)
      clear hb A5
      go_wp2_with fail
      refine (RB.out _).mono ?_
      rintro e w7 ⟨rfl, hb⟩
      have A7 := Lib.hid (down A6.out hb)
      clear hb A6
      go_wp2_with fail
      refine (H1.out _ (ht.out.below A7.out)).mono ?_
      rintro e w8 ⟨rfl, hb⟩
      have A8 := Lib.hid (down A7.out hb)
      clear hb A7
      go_wp2_with fail
      refine (HI.out _ (ht.out.below A8.out)).mono ?_
      rintro e w9 ⟨rfl, hb⟩
      have A9 := Lib.hid (down A8.out hb)
      clear hb A8
      go_wp2_with fail
      refine (H2.out _ (ht.out.below A9.out)).mono ?_
      rintro e w10 ⟨rfl, hb⟩
      have A10 := Lib.hid (down A9.out hb)
      clear hb A9
      go_wp2_with fail
      refine (HC.out _ (ht.out.below A10.out)).mono ?_
      rintro e w11 ⟨rfl, hb⟩
      have A11 := Lib.hid (down A10.out hb)
      clear hb A10
      go_wp2_with fail
      refine (H3.out _ (ht.out.below A11.out)).mono ?_
      rintro e w12 ⟨rfl, hb⟩
      have A12 := Lib.hid (down A11.out hb)
      clear hb A11
      go_wp2
      go_ret
      exact ⟨rfl, by first | exact A12.out | exact grow A12.out _ | exact below_drewN A12.out _ | exact grow (grow A12.out _) _ | exact grow (grow (grow A12.out _) _) _⟩
end Go.Proofs.YtiaidmjhgfaobaaDoor

/- The walks of FeastJulian, FeastMoves, FeastFinds: the Go text returns true, at every input. -/
import Derived.Test.YtljpjchcmiohpaaDoorFeAwake
import Derived.Test.YtljpjchcmiohpaaDoorLJuA
import Derived.BigQuiet
import Derived.Deep.QuietTactic
import Derived.Deep.Cut
namespace Go.Proofs.YtljpjchcmiohpaaDoor
open Go.RowKit
set_option linter.unusedVariables false

namespace FeastJulian
set_option maxRecDepth 100000 in
set_option maxHeartbeats 2000000 in
theorem late3 (y d D : Int) (y0 : 1 ≤ y) (y1 : y ≤ 9999) (k : decide (9467 < y) = true) (q : decide (D < 22) = false)
    (HE : ∀ w, Tabs w → Calls Tryd.prog 18 #[.int .i64 y] w fun e w' => e = .returned (.tuple #[.int .i64 d, .int .i64 0]) ∧ Below w.heap.size w w')
    (HD : ∀ w, Calls Tryd.prog 23 #[.int .i64 d] w fun e w' => e = .returned (.tuple #[.agg #[.int .i64 y, .int .i64 3, .int .i64 D], .int .i64 0]) ∧ Below w.heap.size w w')
    (HW : ∀ w, Calls Tryd.prog 22 #[.int .i64 d] w fun e w' => e = .returned (.int .i64 7) ∧ Below w.heap.size w w')
    (w : World) (ht : Tabs w) :
    Calls Tryd.prog 6 #[.int .i64 y] w fun e w' => e = .returned (.bool true) ∧ Below w.heap.size w w' := by
  replace HE := Lib.hid HE
  replace HD := Lib.hid HD
  replace HW := Lib.hid HW
  have AW := Lib.hid (fun w ht => awake_all w ht)
  replace ht := Lib.hid ht
  go_enter Tryd.func6, Tryd.ntmps6
  go_wp2_with fail
  refine (AW.out _ (ht.out.below (here w))).mono ?_
  rintro e w1 ⟨rfl, hb⟩
  have A1 := Lib.hid (down (here w) hb)
  clear hb
  go_wp2_with fail
  refine (HE.out _ (ht.out.below A1.out)).mono ?_
  rintro e w2 ⟨rfl, hb⟩
  have A2 := Lib.hid (down A1.out hb)
  clear hb A1
  go_wp2_with fail
  refine (HD.out _).mono ?_
  rintro e w3 ⟨rfl, hb⟩
  have A3 := Lib.hid (down A2.out hb)
  clear hb A2
  go_wp2_with fail
  refine (HW.out _).mono ?_
  rintro e w4 ⟨rfl, hb⟩
  have A4 := Lib.hid (down (grow A3.out _) hb)
  have J4 := Lib.hid (Box.new hb)
  clear hb A3
  obtain ⟨j4_0, j4_1, j4_2, j4_z⟩ := J4.out
  go_wp2
  go_ret
  exact ⟨rfl, by first | exact A4.out | exact grow A4.out _ | exact below_drewN A4.out _ | exact grow (grow A4.out _) _ | exact grow (grow (grow A4.out _) _) _⟩
set_option maxRecDepth 100000 in
set_option maxHeartbeats 2000000 in
theorem soon3 (y d D d2 : Int) (y0 : 1 ≤ y) (y1 : y ≤ 9999) (k : decide (9467 < y) = false) (q : decide (D < 22) = false)
    (HE : ∀ w, Tabs w → Calls Tryd.prog 18 #[.int .i64 y] w fun e w' => e = .returned (.tuple #[.int .i64 d, .int .i64 0]) ∧ Below w.heap.size w w')
    (HD : ∀ w, Calls Tryd.prog 23 #[.int .i64 d] w fun e w' => e = .returned (.tuple #[.agg #[.int .i64 y, .int .i64 3, .int .i64 D], .int .i64 0]) ∧ Below w.heap.size w w')
    (HW : ∀ w, Calls Tryd.prog 22 #[.int .i64 d] w fun e w' => e = .returned (.int .i64 7) ∧ Below w.heap.size w w')
    (HE2 : ∀ w, Tabs w → Calls Tryd.prog 18 #[.int .i64 (y + 532)] w fun e w' => e = .returned (.tuple #[.int .i64 d2, .int .i64 0]) ∧ Below w.heap.size w w')
    (HD2 : ∀ w, Calls Tryd.prog 23 #[.int .i64 d2] w fun e w' => e = .returned (.tuple #[.agg #[.int .i64 (y + 532), .int .i64 3, .int .i64 D], .int .i64 0]) ∧ Below w.heap.size w w')
    (w : World) (ht : Tabs w) :
    Calls Tryd.prog 6 #[.int .i64 y] w fun e w' => e = .returned (.bool true) ∧ Below w.heap.size w w' := by
  replace HE := Lib.hid HE
  replace HD := Lib.hid HD
  replace HW := Lib.hid HW
  replace HE2 := Lib.hid HE2
  replace HD2 := Lib.hid HD2
  have AW := Lib.hid (fun w ht => awake_all w ht)
  replace ht := Lib.hid ht
  go_enter Tryd.func6, Tryd.ntmps6
  go_wp2_with fail
  refine (AW.out _ (ht.out.below (here w))).mono ?_
  rintro e w1 ⟨rfl, hb⟩
  have A1 := Lib.hid (down (here w) hb)
  clear hb
  go_wp2_with fail
  refine (HE.out _ (ht.out.below A1.out)).mono ?_
  rintro e w2 ⟨rfl, hb⟩
  have A2 := Lib.hid (down A1.out hb)
  clear hb A1
  go_wp2_with fail
  refine (HD.out _).mono ?_
  rintro e w3 ⟨rfl, hb⟩
  have A3 := Lib.hid (down A2.out hb)
  clear hb A2
  go_wp2_with fail
  refine (HW.out _).mono ?_
  rintro e w4 ⟨rfl, hb⟩
  have A4 := Lib.hid (down (grow A3.out _) hb)
  have J4 := Lib.hid (Box.new hb)
  clear hb A3
  obtain ⟨j4_0, j4_1, j4_2, j4_z⟩ := J4.out
  go_wp2_with fail
  refine (HE2.out _ (ht.out.below A4.out)).mono ?_
  rintro e w5 ⟨rfl, hb⟩
  have A5 := Lib.hid (down A4.out hb)
  have J5 := Lib.hid (J4.out.keep hb)
  clear hb A4 J4 j4_0 j4_1 j4_2 j4_z
  obtain ⟨j5_0, j5_1, j5_2, j5_z⟩ := J5.out
  go_wp2_with fail
  refine (HD2.out _).mono ?_
  rintro e w6 ⟨rfl, hb⟩
  have A6 := Lib.hid (down A5.out hb)
  have J6 := Lib.hid (J5.out.keep hb)
  clear hb A5 J5 j5_0 j5_1 j5_2 j5_z
  obtain ⟨j6_0, j6_1, j6_2, j6_z⟩ := J6.out
  go_wp2
  go_ret
  exact ⟨rfl, by first | exact A6.out | exact grow A6.out _ | exact below_drewN A6.out _ | exact grow (grow A6.out _) _ | exact grow (grow (grow A6.out _) _) _⟩
set_option maxRecDepth 100000 in
set_option maxHeartbeats 2000000 in
theorem late4 (y d D : Int) (y0 : 1 ≤ y) (y1 : y ≤ 9999) (k : decide (9467 < y) = true) (q : decide (25 < D) = false)
    (HE : ∀ w, Tabs w → Calls Tryd.prog 18 #[.int .i64 y] w fun e w' => e = .returned (.tuple #[.int .i64 d, .int .i64 0]) ∧ Below w.heap.size w w')
    (HD : ∀ w, Calls Tryd.prog 23 #[.int .i64 d] w fun e w' => e = .returned (.tuple #[.agg #[.int .i64 y, .int .i64 4, .int .i64 D], .int .i64 0]) ∧ Below w.heap.size w w')
    (HW : ∀ w, Calls Tryd.prog 22 #[.int .i64 d] w fun e w' => e = .returned (.int .i64 7) ∧ Below w.heap.size w w')
    (w : World) (ht : Tabs w) :
    Calls Tryd.prog 6 #[.int .i64 y] w fun e w' => e = .returned (.bool true) ∧ Below w.heap.size w w' := by
  replace HE := Lib.hid HE
  replace HD := Lib.hid HD
  replace HW := Lib.hid HW
  have AW := Lib.hid (fun w ht => awake_all w ht)
  replace ht := Lib.hid ht
  go_enter Tryd.func6, Tryd.ntmps6
  go_wp2_with fail
  refine (AW.out _ (ht.out.below (here w))).mono ?_
  rintro e w1 ⟨rfl, hb⟩
  have A1 := Lib.hid (down (here w) hb)
  clear hb
  go_wp2_with fail
  refine (HE.out _ (ht.out.below A1.out)).mono ?_
  rintro e w2 ⟨rfl, hb⟩
  have A2 := Lib.hid (down A1.out hb)
  clear hb A1
  go_wp2_with fail
  refine (HD.out _).mono ?_
  rintro e w3 ⟨rfl, hb⟩
  have A3 := Lib.hid (down A2.out hb)
  clear hb A2
  go_wp2_with fail
  refine (HW.out _).mono ?_
  rintro e w4 ⟨rfl, hb⟩
  have A4 := Lib.hid (down (grow A3.out _) hb)
  have J4 := Lib.hid (Box.new hb)
  clear hb A3
  obtain ⟨j4_0, j4_1, j4_2, j4_z⟩ := J4.out
  go_wp2
  go_ret
  exact ⟨rfl, by first | exact A4.out | exact grow A4.out _ | exact below_drewN A4.out _ | exact grow (grow A4.out _) _ | exact grow (grow (grow A4.out _) _) _⟩
set_option maxRecDepth 100000 in
set_option maxHeartbeats 2000000 in
theorem soon4 (y d D d2 : Int) (y0 : 1 ≤ y) (y1 : y ≤ 9999) (k : decide (9467 < y) = false) (q : decide (25 < D) = false)
    (HE : ∀ w, Tabs w → Calls Tryd.prog 18 #[.int .i64 y] w fun e w' => e = .returned (.tuple #[.int .i64 d, .int .i64 0]) ∧ Below w.heap.size w w')
    (HD : ∀ w, Calls Tryd.prog 23 #[.int .i64 d] w fun e w' => e = .returned (.tuple #[.agg #[.int .i64 y, .int .i64 4, .int .i64 D], .int .i64 0]) ∧ Below w.heap.size w w')
    (HW : ∀ w, Calls Tryd.prog 22 #[.int .i64 d] w fun e w' => e = .returned (.int .i64 7) ∧ Below w.heap.size w w')
    (HE2 : ∀ w, Tabs w → Calls Tryd.prog 18 #[.int .i64 (y + 532)] w fun e w' => e = .returned (.tuple #[.int .i64 d2, .int .i64 0]) ∧ Below w.heap.size w w')
    (HD2 : ∀ w, Calls Tryd.prog 23 #[.int .i64 d2] w fun e w' => e = .returned (.tuple #[.agg #[.int .i64 (y + 532), .int .i64 4, .int .i64 D], .int .i64 0]) ∧ Below w.heap.size w w')
    (w : World) (ht : Tabs w) :
    Calls Tryd.prog 6 #[.int .i64 y] w fun e w' => e = .returned (.bool true) ∧ Below w.heap.size w w' := by
  replace HE := Lib.hid HE
  replace HD := Lib.hid HD
  replace HW := Lib.hid HW
  replace HE2 := Lib.hid HE2
  replace HD2 := Lib.hid HD2
  have AW := Lib.hid (fun w ht => awake_all w ht)
  replace ht := Lib.hid ht
  go_enter Tryd.func6, Tryd.ntmps6
  go_wp2_with fail
  refine (AW.out _ (ht.out.below (here w))).mono ?_
  rintro e w1 ⟨rfl, hb⟩
  have A1 := Lib.hid (down (here w) hb)
  clear hb
  go_wp2_with fail
  refine (HE.out _ (ht.out.below A1.out)).mono ?_
  rintro e w2 ⟨rfl, hb⟩
  have A2 := Lib.hid (down A1.out hb)
  clear hb A1
  go_wp2_with fail
  refine (HD.out _).mono ?_
  rintro e w3 ⟨rfl, hb⟩
  have A3 := Lib.hid (down A2.out hb)
  clear hb A2
  go_wp2_with fail
  refine (HW.out _).mono ?_
  rintro e w4 ⟨rfl, hb⟩
  have A4 := Lib.hid (down (grow A3.out _) hb)
  have J4 := Lib.hid (Box.new hb)
  clear hb A3
  obtain ⟨j4_0, j4_1, j4_2, j4_z⟩ := J4.out
  go_wp2_with fail
  refine (HE2.out _ (ht.out.below A4.out)).mono ?_
  rintro e w5 ⟨rfl, hb⟩
  have A5 := Lib.hid (down A4.out hb)
  have J5 := Lib.hid (J4.out.keep hb)
  clear hb A4 J4 j4_0 j4_1 j4_2 j4_z
  obtain ⟨j5_0, j5_1, j5_2, j5_z⟩ := J5.out
  go_wp2_with fail
  refine (HD2.out _).mono ?_
  rintro e w6 ⟨rfl, hb⟩
  have A6 := Lib.hid (down A5.out hb)
  have J6 := Lib.hid (J5.out.keep hb)
  clear hb A5 J5 j5_0 j5_1 j5_2 j5_z
  obtain ⟨j6_0, j6_1, j6_2, j6_z⟩ := J6.out
  go_wp2
  go_ret
  exact ⟨rfl, by first | exact A6.out | exact grow A6.out _ | exact below_drewN A6.out _ | exact grow (grow A6.out _) _ | exact grow (grow (grow A6.out _) _) _⟩
set_option maxRecDepth 100000 in
set_option maxHeartbeats 2000000 in
theorem walk (y : Int) (hy : (Lit.int .i64 y).wf = true) (w : World) (ht : Tabs w) :
    Calls Tryd.prog 6 #[.int .i64 y] w fun e w' => e = .returned (.bool true) ∧ Below w.heap.size w w' := by
  replace hy := i64_wf hy
  have HE := fun w ht => ujulian y hy w ht
  rcases yr_cases y with ⟨a, -, -, -, e2, e3⟩ | ⟨a, y0, y1, -, -, -, e2, e3⟩
  · have HY := fun w => rfyr y hy w
    rw [e2, e3] at HE
    rw [a] at HY
    replace HE := Lib.hid HE
    replace HY := Lib.hid HY
    clear a e2 e3
    have AW := Lib.hid (fun w ht => awake_all w ht)
    replace ht := Lib.hid ht
    go_enter Tryd.func6, Tryd.ntmps6
    go_wp2_with fail
    refine (AW.out _ (ht.out.below (here w))).mono ?_
    rintro e w1 ⟨rfl, hb⟩
    have A1 := Lib.hid (down (here w) hb)
    clear hb
    go_wp2_with fail
    refine (HE.out _ (ht.out.below A1.out)).mono ?_
    rintro e w2 ⟨rfl, hb⟩
    have A2 := Lib.hid (down A1.out hb)
    clear hb A1
    go_wp2_with fail
    refine (HY.out _).mono ?_
    rintro e x1 ⟨rfl, rfl⟩
    go_wp2
    go_ret
    exact ⟨rfl, by first | exact A2.out | exact grow A2.out _ | exact below_drewN A2.out _ | exact grow (grow A2.out _) _ | exact grow (grow (grow A2.out _) _) _⟩
  · rw [e2, e3] at HE
    have fi := fjN_in y0 y1
    have fd := fj_date y0 y1
    have HD := fun w => ujdate_yes (fjN y) y (fjM y) (fjD y) fd.1 fd.2.1 fi.2.2.2.1 fi.2.2.2.2 w
    have HW := fun w => cwd (fjN y) ⟨by omega, by omega⟩ w
    rw [show wkd (fjN y) = 7 by unfold wkd; rw [if_neg (by omega)]; omega] at HW
    by_cases l : 9467 < y
    · rcases fd.2.2 with ⟨q, q2, -⟩ | ⟨q, -, q2⟩
      · rw [q] at HD
        exact late3 y _ _ y0 y1 (decide_eq_true l) (decide_eq_false (by omega)) HE HD HW w ht
      · rw [q] at HD
        exact late4 y _ _ y0 y1 (decide_eq_true l) (decide_eq_false (by omega)) HE HD HW w ht
    · have y2 : y + 532 ≤ 9999 := by omega
      have HE2 := fun w ht => ujulian (y + 532) ⟨by omega, by omega⟩ w ht
      rcases yr_cases (y + 532) with ⟨a', -⟩ | ⟨a', -, -, -, -, -, e2', e3'⟩
      · exfalso
        rw [yrB_iff.2 (by omega)] at a'; cases a'
      · rw [e2', e3'] at HE2
        have fi2 := fjN_in (y := y + 532) (by omega) y2
        have fd2 := fj_date (y := y + 532) (by omega) y2
        have fl := fj_later y0 y2
        have HD2 := fun w => ujdate_yes (fjN (y + 532)) (y + 532) (fjM (y + 532)) (fjD (y + 532)) fd2.1 fd2.2.1 fi2.2.2.2.1 fi2.2.2.2.2 w
        rw [fl.1, fl.2] at HD2
        rcases fd.2.2 with ⟨q, q2, -⟩ | ⟨q, -, q2⟩
        · rw [q] at HD HD2
          exact soon3 y _ _ _ y0 y1 (decide_eq_false l) (decide_eq_false (by omega)) HE HD HW HE2 HD2 w ht
        · rw [q] at HD HD2
          exact soon4 y _ _ _ y0 y1 (decide_eq_false l) (decide_eq_false (by omega)) HE HD HW HE2 HD2 w ht
end FeastJulian
namespace FeastMoves
set_option maxRecDepth 100000 in
set_option maxHeartbeats 2000000 in
theorem same (y o n Y M D k : Int) (q : (Y != y) = false) (q2 : (k == o) = true)
    (HM : ∀ w, Tabs w → Calls Tryd.prog 24 #[.int .i64 y, .int .i64 o] w fun e w' => e = .returned (.tuple #[.int .i64 n, .int .i64 0]) ∧ Below w.heap.size w w')
    (RM : ∀ w, Calls Tryd.prog 25 #[.int .i64 y, .int .i64 o] w fun e w' => e = .returned (.tuple #[.int .i64 n, .bool true]) ∧ Below w.heap.size w w')
    (HC : ∀ w, Calls Tryd.prog 26 #[.int .i64 n] w fun e w' => e = .returned (.tuple #[.agg #[.int .i64 Y, .int .i64 M, .int .i64 D], .int .i64 0]) ∧ Below w.heap.size w w')
    (HF : ∀ w, Tabs w → Calls Tryd.prog 27 #[.int .i64 n] w fun e w' => e = .returned (.tuple #[.int .i64 Y, .int .i64 k, .int .i64 0]) ∧ Below w.heap.size w w') (w : World) (ht : Tabs w) :
    Calls Tryd.prog 7 #[.int .i64 y, .int .i64 o] w fun e w' => e = .returned (.bool true) ∧ Below w.heap.size w w' := by
  replace HM := Lib.hid HM
  replace RM := Lib.hid RM
  replace HC := Lib.hid HC
  replace HF := Lib.hid HF
  have AW := Lib.hid (fun w ht => awake_all w ht)
  replace ht := Lib.hid ht
  go_enter Tryd.func7, Tryd.ntmps7
  go_wp2_with fail
  refine (AW.out _ (ht.out.below (here w))).mono ?_
  rintro e w1 ⟨rfl, hb⟩
  have A1 := Lib.hid (down (here w) hb)
  clear hb
  go_wp2_with fail
  refine (HM.out _ (ht.out.below A1.out)).mono ?_
  rintro e w2 ⟨rfl, hb⟩
  have A2 := Lib.hid (down A1.out hb)
  clear hb A1
  go_wp2_with fail
  refine (RM.out _).mono ?_
  rintro e w3 ⟨rfl, hb⟩
  have A3 := Lib.hid (down A2.out hb)
  clear hb A2
  go_wp2_with fail
  refine (HC.out _).mono ?_
  rintro e w4 ⟨rfl, hb⟩
  have A4 := Lib.hid (down A3.out hb)
  clear hb A3
  go_wp2_with fail
  refine (HF.out _ (ht.out.below (grow A4.out _))).mono ?_
  rintro e w5 ⟨rfl, hb⟩
  have A5 := Lib.hid (down (grow A4.out _) hb)
  have X5 := Lib.hid (Box.new hb)
  clear hb A4
  obtain ⟨x5_0, x5_1, x5_2, x5_z⟩ := X5.out
  go_wp2
  go_ret
  exact ⟨rfl, by first | exact A5.out | exact grow A5.out _ | exact below_drewN A5.out _ | exact grow (grow A5.out _) _ | exact grow (grow (grow A5.out _) _) _⟩
set_option maxRecDepth 100000 in
set_option maxHeartbeats 2000000 in
theorem other (y o n Y M D k : Int) (q : (Y != y) = true) 
    (HM : ∀ w, Tabs w → Calls Tryd.prog 24 #[.int .i64 y, .int .i64 o] w fun e w' => e = .returned (.tuple #[.int .i64 n, .int .i64 0]) ∧ Below w.heap.size w w')
    (RM : ∀ w, Calls Tryd.prog 25 #[.int .i64 y, .int .i64 o] w fun e w' => e = .returned (.tuple #[.int .i64 n, .bool true]) ∧ Below w.heap.size w w')
    (HC : ∀ w, Calls Tryd.prog 26 #[.int .i64 n] w fun e w' => e = .returned (.tuple #[.agg #[.int .i64 Y, .int .i64 M, .int .i64 D], .int .i64 0]) ∧ Below w.heap.size w w')
    (HF : ∀ w, Tabs w → Calls Tryd.prog 27 #[.int .i64 n] w fun e w' => e = .returned (.tuple #[.int .i64 Y, .int .i64 k, .int .i64 0]) ∧ Below w.heap.size w w') (w : World) (ht : Tabs w) :
    Calls Tryd.prog 7 #[.int .i64 y, .int .i64 o] w fun e w' => e = .returned (.bool true) ∧ Below w.heap.size w w' := by
  replace HM := Lib.hid HM
  replace RM := Lib.hid RM
  replace HC := Lib.hid HC
  replace HF := Lib.hid HF
  have AW := Lib.hid (fun w ht => awake_all w ht)
  replace ht := Lib.hid ht
  go_enter Tryd.func7, Tryd.ntmps7
  go_wp2_with fail
  refine (AW.out _ (ht.out.below (here w))).mono ?_
  rintro e w1 ⟨rfl, hb⟩
  have A1 := Lib.hid (down (here w) hb)
  clear hb
  go_wp2_with fail
  refine (HM.out _ (ht.out.below A1.out)).mono ?_
  rintro e w2 ⟨rfl, hb⟩
  have A2 := Lib.hid (down A1.out hb)
  clear hb A1
  go_wp2_with fail
  refine (RM.out _).mono ?_
  rintro e w3 ⟨rfl, hb⟩
  have A3 := Lib.hid (down A2.out hb)
  clear hb A2
  go_wp2_with fail
  refine (HC.out _).mono ?_
  rintro e w4 ⟨rfl, hb⟩
  have A4 := Lib.hid (down A3.out hb)
  clear hb A3
  go_wp2_with fail
  refine (HF.out _ (ht.out.below (grow A4.out _))).mono ?_
  rintro e w5 ⟨rfl, hb⟩
  have A5 := Lib.hid (down (grow A4.out _) hb)
  have X5 := Lib.hid (Box.new hb)
  clear hb A4
  obtain ⟨x5_0, x5_1, x5_2, x5_z⟩ := X5.out
  go_wp2
  go_ret
  exact ⟨rfl, by first | exact A5.out | exact grow A5.out _ | exact below_drewN A5.out _ | exact grow (grow A5.out _) _ | exact grow (grow (grow A5.out _) _) _⟩
set_option maxRecDepth 100000 in
set_option maxHeartbeats 2000000 in
theorem walk (y o : Int) (hy : (Lit.int .i64 y).wf = true) (ho : (Lit.int .i64 o).wf = true) (w : World) (ht : Tabs w) :
    Calls Tryd.prog 7 #[.int .i64 y, .int .i64 o] w fun e w' => e = .returned (.bool true) ∧ Below w.heap.size w w' := by
  replace hy := i64_wf hy
  replace ho := i64_wf ho
  have HM := fun w ht => umove y o hy ho w ht
  have RM := fun w => rfmv y o hy ho w
  unfold fmE at HM
  unfold fmN at HM RM
  cases h : fmB y o
  · rw [h] at HM RM
    simp only [Bool.false_eq_true, if_false] at HM RM
    replace HM := Lib.hid HM
    replace RM := Lib.hid RM
    clear h
    have AW := Lib.hid (fun w ht => awake_all w ht)
    replace ht := Lib.hid ht
    go_enter Tryd.func7, Tryd.ntmps7
    go_wp2_with fail
    refine (AW.out _ (ht.out.below (here w))).mono ?_
    rintro e w1 ⟨rfl, hb⟩
    have A1 := Lib.hid (down (here w) hb)
    clear hb
    go_wp2_with fail
    refine (HM.out _ (ht.out.below A1.out)).mono ?_
    rintro e w2 ⟨rfl, hb⟩
    have A2 := Lib.hid (down A1.out hb)
    clear hb A1
    go_wp2_with fail
    refine (RM.out _).mono ?_
    rintro e w3 ⟨rfl, hb⟩
    have A3 := Lib.hid (down A2.out hb)
    clear hb A2
    go_wp2
    go_ret
    exact ⟨rfl, by first | exact A3.out | exact grow A3.out _ | exact below_drewN A3.out _ | exact grow (grow A3.out _) _ | exact grow (grow (grow A3.out _) _) _⟩
  · rw [h] at HM RM
    simp only [if_true] at HM RM
    have q := fmB_iff.1 h
    have dy : dyB (feN y + o) = true := dyB_iff.2 (by omega)
    have HC := fun w => cdate_all (feN y + o) ⟨by omega, by omega⟩ w
    have HF := fun w ht => ufind (feN y + o) ⟨by omega, by omega⟩ w ht
    unfold cdY cdM cdD cdE at HC
    unfold ffY ffO ffE at HF
    rw [dy] at HC HF
    simp only [if_true] at HC HF
    by_cases z : dtY (feN y + o) = y
    · refine same y o _ _ _ _ _ (by rw [z]; simp) ?_ HM RM HC HF w ht
      rw [z]; simp; omega
    · exact other y o _ _ _ _ _ (by simpa using z) HM RM HC HF w ht
end FeastMoves
namespace FeastFinds
set_option maxRecDepth 100000 in
set_option maxHeartbeats 2000000 in
theorem walk (n : Int) (hn : (Lit.int .i64 n).wf = true) (w : World) (ht : Tabs w) :
    Calls Tryd.prog 8 #[.int .i64 n] w fun e w' => e = .returned (.bool true) ∧ Below w.heap.size w w' := by
  replace hn := i64_wf hn
  have HF := fun w ht => ufind n hn w ht
  have HC := fun w => cdate_all n hn w
  unfold cdY cdM cdD cdE at HC
  unfold ffY ffO ffE at HF
  cases h : dyB n
  · rw [h] at HC HF
    simp only [Bool.false_eq_true, if_false] at HC HF
    replace HF := Lib.hid HF
    replace HC := Lib.hid HC
    clear h
    have AW := Lib.hid (fun w ht => awake_all w ht)
    replace ht := Lib.hid ht
    go_enter Tryd.func8, Tryd.ntmps8
    go_wp2_with fail
    refine (AW.out _ (ht.out.below (here w))).mono ?_
    rintro e w1 ⟨rfl, hb⟩
    have A1 := Lib.hid (down (here w) hb)
    clear hb
    go_wp2_with fail
    refine (HF.out _ (ht.out.below A1.out)).mono ?_
    rintro e w2 ⟨rfl, hb⟩
    have A2 := Lib.hid (down A1.out hb)
    clear hb A1
    go_wp2_with fail
    refine (HC.out _).mono ?_
    rintro e w3 ⟨rfl, hb⟩
    have A3 := Lib.hid (down A2.out hb)
    clear hb A2
    go_wp2
    go_ret
    exact ⟨rfl, by first | exact A3.out | exact grow A3.out _ | exact below_drewN A3.out _ | exact grow (grow A3.out _) _ | exact grow (grow (grow A3.out _) _) _⟩
  · rw [h] at HC HF
    simp only [if_true] at HC HF
    obtain ⟨n0, n1⟩ := dyB_iff.1 h
    have dt := dt_of n0 n1
    have vb := vld_bd dt.1
    have RE := fun w => rfeaster (dtY n) vb.1 vb.2.1 w
    have fb := feN_in vb.1 vb.2.1
    obtain ⟨-, -, -, f0, f1⟩ := fb
    generalize feN (dtY n) = F at *
    generalize dtY n = Y at *
    generalize dtM n = M at *
    generalize dtD n = D at *
    replace HF := Lib.hid HF
    replace HC := Lib.hid HC
    replace RE := Lib.hid RE
    clear h dt vb
    have AW := Lib.hid (fun w ht => awake_all w ht)
    replace ht := Lib.hid ht
    go_enter Tryd.func8, Tryd.ntmps8
    go_wp2_with fail
    refine (AW.out _ (ht.out.below (here w))).mono ?_
    rintro e w1 ⟨rfl, hb⟩
    have A1 := Lib.hid (down (here w) hb)
    clear hb
    go_wp2_with fail
    refine (HF.out _ (ht.out.below A1.out)).mono ?_
    rintro e w2 ⟨rfl, hb⟩
    have A2 := Lib.hid (down A1.out hb)
    clear hb A1
    go_wp2_with fail
    refine (HC.out _).mono ?_
    rintro e w3 ⟨rfl, hb⟩
    have A3 := Lib.hid (down A2.out hb)
    clear hb A2
    go_wp2_with fail
    refine (RE.out _).mono ?_
    rintro e w4 ⟨rfl, hb⟩
    have A4 := Lib.hid (down (grow A3.out _) hb)
    have X4 := Lib.hid (Box.new hb)
    clear hb A3
    obtain ⟨x4_0, x4_1, x4_2, x4_z⟩ := X4.out
    go_wp2
    go_ret
    exact ⟨rfl, by first | exact A4.out | exact grow A4.out _ | exact below_drewN A4.out _ | exact grow (grow A4.out _) _ | exact grow (grow (grow A4.out _) _) _⟩
end FeastFinds
end Go.Proofs.YtljpjchcmiohpaaDoor

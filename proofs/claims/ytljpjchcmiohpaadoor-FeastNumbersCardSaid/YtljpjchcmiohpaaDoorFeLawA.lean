/- The walks of FeastNumbers, FeastDays, FeastSundays: the Go text returns true, at every input. -/
import Derived.Test.YtljpjchcmiohpaaDoorFeAwake
import Derived.BigQuiet
import Derived.Deep.QuietTactic
import Derived.Deep.Cut
namespace Go.Proofs.YtljpjchcmiohpaaDoor
open Go.RowKit
set_option linter.unusedVariables false

namespace FeastNumbers
set_option maxRecDepth 100000 in
set_option maxHeartbeats 2000000 in
theorem walk (y : Int) (hy : (Lit.int .i64 y).wf = true) (w : World) (ht : Tabs w) :
    Calls Tryd.prog 3 #[.int .i64 y] w fun e w' => e = .returned (.bool true) ∧ Below w.heap.size w w' := by
  replace hy := i64_wf hy
  have HG := fun w ht => ugold y hy w ht
  have HP := fun w ht => uepact y hy w ht
  have HY := fun w => rfyr y hy w
  rcases yr_cases y with ⟨a, e1, e2, -⟩ | ⟨a, y0, y1, e1, e2, -⟩
  · rw [e1] at HG
    rw [e2] at HP
    rw [a] at HY
    replace HG := Lib.hid HG
    replace HP := Lib.hid HP
    replace HY := Lib.hid HY
    clear a e1 e2
    have AW := Lib.hid (fun w ht => awake_all w ht)
    replace ht := Lib.hid ht
    go_enter Tryd.func3, Tryd.ntmps3
    go_wp2_with fail
    refine (AW.out _ (ht.out.below (here w))).mono ?_
    rintro e w1 ⟨rfl, hb⟩
    have A1 := Lib.hid (down (here w) hb)
    clear hb
    go_wp2_with fail
    refine (HG.out _ (ht.out.below A1.out)).mono ?_
    rintro e w2 ⟨rfl, hb⟩
    have A2 := Lib.hid (down A1.out hb)
    clear hb A1
    go_wp2_with fail
    refine (HP.out _ (ht.out.below A2.out)).mono ?_
    rintro e w3 ⟨rfl, hb⟩
    have A3 := Lib.hid (down A2.out hb)
    clear hb A2
    go_wp2_with fail
    refine (HY.out _).mono ?_
    rintro e x1 ⟨rfl, rfl⟩
    go_wp2
    go_ret
    exact ⟨rfl, by first | exact A3.out | exact grow A3.out _ | exact below_drewN A3.out _ | exact grow (grow A3.out _) _ | exact grow (grow (grow A3.out _) _) _⟩
  · rw [e1] at HG
    rw [e2] at HP
    rw [a] at HY
    have RG := fun w => rfgold y y0 y1 w
    have RE := fun w => rfepact y y0 y1 w
    have gb := fG_bd y
    have eb := fE_bd y
    generalize fG y = g at *
    generalize fE y = E at *
    have k1 : decide (1 ≤ g) = true := decide_eq_true gb.1
    have k2 : decide (g ≤ 19) = true := decide_eq_true gb.2
    have k3 : decide (0 ≤ E) = true := decide_eq_true eb.1
    have k4 : decide (E < 30) = true := decide_eq_true eb.2
    replace HG := Lib.hid HG
    replace HP := Lib.hid HP
    replace HY := Lib.hid HY
    replace RG := Lib.hid RG
    replace RE := Lib.hid RE
    clear a e1 e2 gb eb
    have AW := Lib.hid (fun w ht => awake_all w ht)
    replace ht := Lib.hid ht
    go_enter Tryd.func3, Tryd.ntmps3
    go_wp2_with fail
    refine (AW.out _ (ht.out.below (here w))).mono ?_
    rintro e w1 ⟨rfl, hb⟩
    have A1 := Lib.hid (down (here w) hb)
    clear hb
    go_wp2_with fail
    refine (HG.out _ (ht.out.below A1.out)).mono ?_
    rintro e w2 ⟨rfl, hb⟩
    have A2 := Lib.hid (down A1.out hb)
    clear hb A1
    go_wp2_with fail
    refine (HP.out _ (ht.out.below A2.out)).mono ?_
    rintro e w3 ⟨rfl, hb⟩
    have A3 := Lib.hid (down A2.out hb)
    clear hb A2
    go_wp2_with fail
    refine (HY.out _).mono ?_
    rintro e x1 ⟨rfl, rfl⟩
    go_wp2_with fail
    refine (RG.out _).mono ?_
    rintro e x2 ⟨rfl, rfl⟩
    go_wp2_with fail
    refine (RE.out _).mono ?_
    rintro e x3 ⟨rfl, rfl⟩
    go_wp2
    go_ret
    exact ⟨rfl, by first | exact A3.out | exact grow A3.out _ | exact below_drewN A3.out _ | exact grow (grow A3.out _) _ | exact grow (grow (grow A3.out _) _) _⟩
end FeastNumbers
namespace FeastDays
set_option maxRecDepth 100000 in
set_option maxHeartbeats 2000000 in
theorem walk (y : Int) (hy : (Lit.int .i64 y).wf = true) (w : World) (ht : Tabs w) :
    Calls Tryd.prog 4 #[.int .i64 y] w fun e w' => e = .returned (.bool true) ∧ Below w.heap.size w w' := by
  replace hy := i64_wf hy
  have HE := fun w ht => ueaster y hy w ht
  have HJ := fun w ht => ujulian y hy w ht
  have HY := fun w => rfyr y hy w
  rcases yr_cases y with ⟨a, -, -, e1, e2, e3⟩ | ⟨a, y0, y1, -, -, e1, e2, e3⟩
  · rw [e1, e3] at HE
    rw [e2, e3] at HJ
    rw [a] at HY
    replace HE := Lib.hid HE
    replace HJ := Lib.hid HJ
    replace HY := Lib.hid HY
    clear a e1 e2 e3
    have AW := Lib.hid (fun w ht => awake_all w ht)
    replace ht := Lib.hid ht
    go_enter Tryd.func4, Tryd.ntmps4
    go_wp2_with fail
    refine (AW.out _ (ht.out.below (here w))).mono ?_
    rintro e w1 ⟨rfl, hb⟩
    have A1 := Lib.hid (down (here w) hb)
    clear hb
    go_wp2_with fail
    refine (HE.out _ (ht.out.below A1.out)).mono ?_
    rintro e w2 ⟨rfl, hb⟩
    have A2 := Lib.hid (down A1.out hb)
    clear hb A1
    go_wp2_with fail
    refine (HJ.out _ (ht.out.below A2.out)).mono ?_
    rintro e w3 ⟨rfl, hb⟩
    have A3 := Lib.hid (down A2.out hb)
    clear hb A2
    go_wp2_with fail
    refine (HY.out _).mono ?_
    rintro e x1 ⟨rfl, rfl⟩
    go_wp2
    go_ret
    exact ⟨rfl, by first | exact A3.out | exact grow A3.out _ | exact below_drewN A3.out _ | exact grow (grow A3.out _) _ | exact grow (grow (grow A3.out _) _) _⟩
  · rw [e1, e3] at HE
    rw [e2, e3] at HJ
    rw [a] at HY
    have RE := fun w => rfeaster y y0 y1 w
    have RJ := fun w => rfje y y0 y1 w
    generalize feN y = p at *
    generalize fjN y = q at *
    replace HE := Lib.hid HE
    replace HJ := Lib.hid HJ
    replace HY := Lib.hid HY
    replace RE := Lib.hid RE
    replace RJ := Lib.hid RJ
    clear a e1 e2 e3
    by_cases l : y < 1800
    · have k : decide (y < 1800) = true := decide_eq_true l
      have AW := Lib.hid (fun w ht => awake_all w ht)
      replace ht := Lib.hid ht
      go_enter Tryd.func4, Tryd.ntmps4
      go_wp2_with fail
      refine (AW.out _ (ht.out.below (here w))).mono ?_
      rintro e w1 ⟨rfl, hb⟩
      have A1 := Lib.hid (down (here w) hb)
      clear hb
      go_wp2_with fail
      refine (HE.out _ (ht.out.below A1.out)).mono ?_
      rintro e w2 ⟨rfl, hb⟩
      have A2 := Lib.hid (down A1.out hb)
      clear hb A1
      go_wp2_with fail
      refine (HJ.out _ (ht.out.below A2.out)).mono ?_
      rintro e w3 ⟨rfl, hb⟩
      have A3 := Lib.hid (down A2.out hb)
      clear hb A2
      go_wp2_with fail
      refine (HY.out _).mono ?_
      rintro e x1 ⟨rfl, rfl⟩
      go_wp2_with fail
      refine (RE.out _).mono ?_
      rintro e w4 ⟨rfl, hb⟩
      have A4 := Lib.hid (down A3.out hb)
      clear hb A3
      go_wp2
      go_ret
      exact ⟨rfl, by first | exact A4.out | exact grow A4.out _ | exact below_drewN A4.out _ | exact grow (grow A4.out _) _ | exact grow (grow (grow A4.out _) _) _⟩
    · have k : decide (y < 1800) = false := decide_eq_false l
      by_cases r : 2100 < y
      · have k1 : decide (2100 < y) = true := decide_eq_true r
        have AW := Lib.hid (fun w ht => awake_all w ht)
        replace ht := Lib.hid ht
        go_enter Tryd.func4, Tryd.ntmps4
        go_wp2_with fail
        refine (AW.out _ (ht.out.below (here w))).mono ?_
        rintro e w1 ⟨rfl, hb⟩
        have A1 := Lib.hid (down (here w) hb)
        clear hb
        go_wp2_with fail
        refine (HE.out _ (ht.out.below A1.out)).mono ?_
        rintro e w2 ⟨rfl, hb⟩
        have A2 := Lib.hid (down A1.out hb)
        clear hb A1
        go_wp2_with fail
        refine (HJ.out _ (ht.out.below A2.out)).mono ?_
        rintro e w3 ⟨rfl, hb⟩
        have A3 := Lib.hid (down A2.out hb)
        clear hb A2
        go_wp2_with fail
        refine (HY.out _).mono ?_
        rintro e x1 ⟨rfl, rfl⟩
        go_wp2_with fail
        refine (RE.out _).mono ?_
        rintro e w4 ⟨rfl, hb⟩
        have A4 := Lib.hid (down A3.out hb)
        clear hb A3
        go_wp2
        go_ret
        exact ⟨rfl, by first | exact A4.out | exact grow A4.out _ | exact below_drewN A4.out _ | exact grow (grow A4.out _) _ | exact grow (grow (grow A4.out _) _) _⟩
      · have k1 : decide (2100 < y) = false := decide_eq_false r
        have AW := Lib.hid (fun w ht => awake_all w ht)
        replace ht := Lib.hid ht
        go_enter Tryd.func4, Tryd.ntmps4
        go_wp2_with fail
        refine (AW.out _ (ht.out.below (here w))).mono ?_
        rintro e w1 ⟨rfl, hb⟩
        have A1 := Lib.hid (down (here w) hb)
        clear hb
        go_wp2_with fail
        refine (HE.out _ (ht.out.below A1.out)).mono ?_
        rintro e w2 ⟨rfl, hb⟩
        have A2 := Lib.hid (down A1.out hb)
        clear hb A1
        go_wp2_with fail
        refine (HJ.out _ (ht.out.below A2.out)).mono ?_
        rintro e w3 ⟨rfl, hb⟩
        have A3 := Lib.hid (down A2.out hb)
        clear hb A2
        go_wp2_with fail
        refine (HY.out _).mono ?_
        rintro e x1 ⟨rfl, rfl⟩
        go_wp2_with fail
        refine (RE.out _).mono ?_
        rintro e w4 ⟨rfl, hb⟩
        have A4 := Lib.hid (down A3.out hb)
        clear hb A3
        go_wp2_with fail
        refine (RJ.out _).mono ?_
        rintro e w5 ⟨rfl, hb⟩
        have A5 := Lib.hid (down A4.out hb)
        clear hb A4
        go_wp2
        go_ret
        exact ⟨rfl, by first | exact A5.out | exact grow A5.out _ | exact below_drewN A5.out _ | exact grow (grow A5.out _) _ | exact grow (grow (grow A5.out _) _) _⟩
end FeastDays
namespace FeastSundays
set_option maxRecDepth 100000 in
set_option maxHeartbeats 2000000 in
theorem c24 (y d A g E : Int) (hy : I64 y) (a0 : -719162 ≤ A) (a1 : A + 34 < 2932897) (b0 : A ≤ d) (b1 : d ≤ A + 34) (E0 : 0 ≤ E) (E1 : E < 30) (q : E = 24) (n0 : A + 49 - 22 < d) (n1 : d ≤ A + 49 - 22 + 7)
    (HE : ∀ w, Tabs w → Calls Tryd.prog 17 #[.int .i64 y] w fun e w' => e = .returned (.tuple #[.int .i64 d, .int .i64 0]) ∧ Below w.heap.size w w')
    (HG : ∀ w, Tabs w → Calls Tryd.prog 12 #[.int .i64 y] w fun e w' => e = .returned (.int .i64 g) ∧ Below w.heap.size w w')
    (HP : ∀ w, Tabs w → Calls Tryd.prog 13 #[.int .i64 y] w fun e w' => e = .returned (.int .i64 E) ∧ Below w.heap.size w w')
    (HA : ∀ w, Lens w → Calls Tryd.prog 21 #[.agg #[.int .i64 y, .int .i64 3, .int .i64 22]] w fun e w' => e = .returned (.tuple #[.int .i64 A, .int .i64 0]) ∧ Below w.heap.size w w')
    (HB : ∀ w, Lens w → Calls Tryd.prog 21 #[.agg #[.int .i64 y, .int .i64 4, .int .i64 25]] w fun e w' => e = .returned (.tuple #[.int .i64 (A + 34), .int .i64 0]) ∧ Below w.heap.size w w')
    (HW : ∀ w, Calls Tryd.prog 22 #[.int .i64 d] w fun e w' => e = .returned (.int .i64 7) ∧ Below w.heap.size w w') (w : World) (ht : Tabs w) :
    Calls Tryd.prog 5 #[.int .i64 y] w fun e w' => e = .returned (.bool true) ∧ Below w.heap.size w w' := by
  subst q
  have k1 : decide (A ≤ d) = true := decide_eq_true b0
  have k2 : decide (d ≤ A + 34) = true := decide_eq_true b1
  have k3 : decide (A + 49 - 22 < d) = true := decide_eq_true n0
  have k4 : decide (d ≤ A + 49 - 22 + 7) = true := decide_eq_true n1
  replace HE := Lib.hid HE
  replace HG := Lib.hid HG
  replace HP := Lib.hid HP
  replace HA := Lib.hid HA
  replace HB := Lib.hid HB
  replace HW := Lib.hid HW
  have a2 : A < 2932890 := by omega
  obtain ⟨L, hL⟩ : ∃ L, A + 34 = L := ⟨_, rfl⟩
  rw [hL] at HB k2 a1
  clear hL
  have AW := Lib.hid (fun w ht => awake_all w ht)
  replace ht := Lib.hid ht
  go_enter Tryd.func5, Tryd.ntmps5
  go_wp2_with fail
  refine (AW.out _ (ht.out.below (here w))).mono ?_
  rintro e w1 ⟨rfl, hb⟩
  have A1 := Lib.hid (down (here w) hb)
  clear hb
  go_wp2_with fail
  refine (HE.out _ (ht.out.below A1.out)).mono ?_
  rintro e w2 ⟨rfl, hb⟩
  have A2 := Lib.hid (down A1.out hb)
  clear hb A1
  go_wp2_with fail
  refine (HA.out _ (ht.out.below A2.out).cl).mono ?_
  rintro e w3 ⟨rfl, hb⟩
  have A3 := Lib.hid (down A2.out hb)
  clear hb A2
  go_wp2_with fail
  refine (HB.out _ (ht.out.below A3.out).cl).mono ?_
  rintro e w4 ⟨rfl, hb⟩
  have A4 := Lib.hid (down A3.out hb)
  clear hb A3
  go_wp2_with fail
  refine (HP.out _ (ht.out.below A4.out)).mono ?_
  rintro e w5 ⟨rfl, hb⟩
  have A5 := Lib.hid (down A4.out hb)
  clear hb A4
  go_wp2_with fail
  refine (HW.out _).mono ?_
  rintro e w6 ⟨rfl, hb⟩
  have A6 := Lib.hid (down A5.out hb)
  clear hb A5
  go_wp2
  go_ret
  exact ⟨rfl, by first | exact A6.out | exact grow A6.out _ | exact below_drewN A6.out _ | exact grow (grow A6.out _) _ | exact grow (grow (grow A6.out _) _) _⟩
set_option maxRecDepth 100000 in
set_option maxHeartbeats 2000000 in
theorem c25a (y d A g E : Int) (hy : I64 y) (a0 : -719162 ≤ A) (a1 : A + 34 < 2932897) (b0 : A ≤ d) (b1 : d ≤ A + 34) (E0 : 0 ≤ E) (E1 : E < 30) (q : E = 25) (q2 : 11 < g) (n0 : A + 48 - 22 < d) (n1 : d ≤ A + 48 - 22 + 7)
    (HE : ∀ w, Tabs w → Calls Tryd.prog 17 #[.int .i64 y] w fun e w' => e = .returned (.tuple #[.int .i64 d, .int .i64 0]) ∧ Below w.heap.size w w')
    (HG : ∀ w, Tabs w → Calls Tryd.prog 12 #[.int .i64 y] w fun e w' => e = .returned (.int .i64 g) ∧ Below w.heap.size w w')
    (HP : ∀ w, Tabs w → Calls Tryd.prog 13 #[.int .i64 y] w fun e w' => e = .returned (.int .i64 E) ∧ Below w.heap.size w w')
    (HA : ∀ w, Lens w → Calls Tryd.prog 21 #[.agg #[.int .i64 y, .int .i64 3, .int .i64 22]] w fun e w' => e = .returned (.tuple #[.int .i64 A, .int .i64 0]) ∧ Below w.heap.size w w')
    (HB : ∀ w, Lens w → Calls Tryd.prog 21 #[.agg #[.int .i64 y, .int .i64 4, .int .i64 25]] w fun e w' => e = .returned (.tuple #[.int .i64 (A + 34), .int .i64 0]) ∧ Below w.heap.size w w')
    (HW : ∀ w, Calls Tryd.prog 22 #[.int .i64 d] w fun e w' => e = .returned (.int .i64 7) ∧ Below w.heap.size w w') (w : World) (ht : Tabs w) :
    Calls Tryd.prog 5 #[.int .i64 y] w fun e w' => e = .returned (.bool true) ∧ Below w.heap.size w w' := by
  subst q
  have k0 : decide (11 < g) = true := decide_eq_true q2
  have k1 : decide (A ≤ d) = true := decide_eq_true b0
  have k2 : decide (d ≤ A + 34) = true := decide_eq_true b1
  have k3 : decide (A + 48 - 22 < d) = true := decide_eq_true n0
  have k4 : decide (d ≤ A + 48 - 22 + 7) = true := decide_eq_true n1
  replace HE := Lib.hid HE
  replace HG := Lib.hid HG
  replace HP := Lib.hid HP
  replace HA := Lib.hid HA
  replace HB := Lib.hid HB
  replace HW := Lib.hid HW
  have a2 : A < 2932890 := by omega
  obtain ⟨L, hL⟩ : ∃ L, A + 34 = L := ⟨_, rfl⟩
  rw [hL] at HB k2 a1
  clear hL
  have AW := Lib.hid (fun w ht => awake_all w ht)
  replace ht := Lib.hid ht
  go_enter Tryd.func5, Tryd.ntmps5
  go_wp2_with fail
  refine (AW.out _ (ht.out.below (here w))).mono ?_
  rintro e w1 ⟨rfl, hb⟩
  have A1 := Lib.hid (down (here w) hb)
  clear hb
  go_wp2_with fail
  refine (HE.out _ (ht.out.below A1.out)).mono ?_
  rintro e w2 ⟨rfl, hb⟩
  have A2 := Lib.hid (down A1.out hb)
  clear hb A1
  go_wp2_with fail
  refine (HA.out _ (ht.out.below A2.out).cl).mono ?_
  rintro e w3 ⟨rfl, hb⟩
  have A3 := Lib.hid (down A2.out hb)
  clear hb A2
  go_wp2_with fail
  refine (HB.out _ (ht.out.below A3.out).cl).mono ?_
  rintro e w4 ⟨rfl, hb⟩
  have A4 := Lib.hid (down A3.out hb)
  clear hb A3
  go_wp2_with fail
  refine (HP.out _ (ht.out.below A4.out)).mono ?_
  rintro e w5 ⟨rfl, hb⟩
  have A5 := Lib.hid (down A4.out hb)
  clear hb A4
  go_wp2_with fail
  refine (HG.out _ (ht.out.below A5.out)).mono ?_
  rintro e w6 ⟨rfl, hb⟩
  have A6 := Lib.hid (down A5.out hb)
  clear hb A5
  go_wp2_with fail
  refine (HW.out _).mono ?_
  rintro e w7 ⟨rfl, hb⟩
  have A7 := Lib.hid (down A6.out hb)
  clear hb A6
  go_wp2
  go_ret
  exact ⟨rfl, by first | exact A7.out | exact grow A7.out _ | exact below_drewN A7.out _ | exact grow (grow A7.out _) _ | exact grow (grow (grow A7.out _) _) _⟩
set_option maxRecDepth 100000 in
set_option maxHeartbeats 2000000 in
theorem c25b (y d A g E : Int) (hy : I64 y) (a0 : -719162 ≤ A) (a1 : A + 34 < 2932897) (b0 : A ≤ d) (b1 : d ≤ A + 34) (E0 : 0 ≤ E) (E1 : E < 30) (q : E = 25) (q2 : ¬ 11 < g) (n0 : A + 49 - 22 < d) (n1 : d ≤ A + 49 - 22 + 7)
    (HE : ∀ w, Tabs w → Calls Tryd.prog 17 #[.int .i64 y] w fun e w' => e = .returned (.tuple #[.int .i64 d, .int .i64 0]) ∧ Below w.heap.size w w')
    (HG : ∀ w, Tabs w → Calls Tryd.prog 12 #[.int .i64 y] w fun e w' => e = .returned (.int .i64 g) ∧ Below w.heap.size w w')
    (HP : ∀ w, Tabs w → Calls Tryd.prog 13 #[.int .i64 y] w fun e w' => e = .returned (.int .i64 E) ∧ Below w.heap.size w w')
    (HA : ∀ w, Lens w → Calls Tryd.prog 21 #[.agg #[.int .i64 y, .int .i64 3, .int .i64 22]] w fun e w' => e = .returned (.tuple #[.int .i64 A, .int .i64 0]) ∧ Below w.heap.size w w')
    (HB : ∀ w, Lens w → Calls Tryd.prog 21 #[.agg #[.int .i64 y, .int .i64 4, .int .i64 25]] w fun e w' => e = .returned (.tuple #[.int .i64 (A + 34), .int .i64 0]) ∧ Below w.heap.size w w')
    (HW : ∀ w, Calls Tryd.prog 22 #[.int .i64 d] w fun e w' => e = .returned (.int .i64 7) ∧ Below w.heap.size w w') (w : World) (ht : Tabs w) :
    Calls Tryd.prog 5 #[.int .i64 y] w fun e w' => e = .returned (.bool true) ∧ Below w.heap.size w w' := by
  subst q
  have k0 : decide (11 < g) = false := decide_eq_false q2
  have k1 : decide (A ≤ d) = true := decide_eq_true b0
  have k2 : decide (d ≤ A + 34) = true := decide_eq_true b1
  have k3 : decide (A + 49 - 22 < d) = true := decide_eq_true n0
  have k4 : decide (d ≤ A + 49 - 22 + 7) = true := decide_eq_true n1
  replace HE := Lib.hid HE
  replace HG := Lib.hid HG
  replace HP := Lib.hid HP
  replace HA := Lib.hid HA
  replace HB := Lib.hid HB
  replace HW := Lib.hid HW
  have a2 : A < 2932890 := by omega
  obtain ⟨L, hL⟩ : ∃ L, A + 34 = L := ⟨_, rfl⟩
  rw [hL] at HB k2 a1
  clear hL
  have AW := Lib.hid (fun w ht => awake_all w ht)
  replace ht := Lib.hid ht
  go_enter Tryd.func5, Tryd.ntmps5
  go_wp2_with fail
  refine (AW.out _ (ht.out.below (here w))).mono ?_
  rintro e w1 ⟨rfl, hb⟩
  have A1 := Lib.hid (down (here w) hb)
  clear hb
  go_wp2_with fail
  refine (HE.out _ (ht.out.below A1.out)).mono ?_
  rintro e w2 ⟨rfl, hb⟩
  have A2 := Lib.hid (down A1.out hb)
  clear hb A1
  go_wp2_with fail
  refine (HA.out _ (ht.out.below A2.out).cl).mono ?_
  rintro e w3 ⟨rfl, hb⟩
  have A3 := Lib.hid (down A2.out hb)
  clear hb A2
  go_wp2_with fail
  refine (HB.out _ (ht.out.below A3.out).cl).mono ?_
  rintro e w4 ⟨rfl, hb⟩
  have A4 := Lib.hid (down A3.out hb)
  clear hb A3
  go_wp2_with fail
  refine (HP.out _ (ht.out.below A4.out)).mono ?_
  rintro e w5 ⟨rfl, hb⟩
  have A5 := Lib.hid (down A4.out hb)
  clear hb A4
  go_wp2_with fail
  refine (HG.out _ (ht.out.below A5.out)).mono ?_
  rintro e w6 ⟨rfl, hb⟩
  have A6 := Lib.hid (down A5.out hb)
  clear hb A5
  go_wp2_with fail
  refine (HW.out _).mono ?_
  rintro e w7 ⟨rfl, hb⟩
  have A7 := Lib.hid (down A6.out hb)
  clear hb A6
  go_wp2
  go_ret
  exact ⟨rfl, by first | exact A7.out | exact grow A7.out _ | exact below_drewN A7.out _ | exact grow (grow A7.out _) _ | exact grow (grow (grow A7.out _) _) _⟩
set_option maxRecDepth 100000 in
set_option maxHeartbeats 2000000 in
theorem low (y d A g E : Int) (hy : I64 y) (a0 : -719162 ≤ A) (a1 : A + 34 < 2932897) (b0 : A ≤ d) (b1 : d ≤ A + 34) (E0 : 0 ≤ E) (E1 : E < 30) (q : E < 24) (n0 : A + (44 - E) - 22 < d) (n1 : d ≤ A + (44 - E) - 22 + 7)
    (HE : ∀ w, Tabs w → Calls Tryd.prog 17 #[.int .i64 y] w fun e w' => e = .returned (.tuple #[.int .i64 d, .int .i64 0]) ∧ Below w.heap.size w w')
    (HG : ∀ w, Tabs w → Calls Tryd.prog 12 #[.int .i64 y] w fun e w' => e = .returned (.int .i64 g) ∧ Below w.heap.size w w')
    (HP : ∀ w, Tabs w → Calls Tryd.prog 13 #[.int .i64 y] w fun e w' => e = .returned (.int .i64 E) ∧ Below w.heap.size w w')
    (HA : ∀ w, Lens w → Calls Tryd.prog 21 #[.agg #[.int .i64 y, .int .i64 3, .int .i64 22]] w fun e w' => e = .returned (.tuple #[.int .i64 A, .int .i64 0]) ∧ Below w.heap.size w w')
    (HB : ∀ w, Lens w → Calls Tryd.prog 21 #[.agg #[.int .i64 y, .int .i64 4, .int .i64 25]] w fun e w' => e = .returned (.tuple #[.int .i64 (A + 34), .int .i64 0]) ∧ Below w.heap.size w w')
    (HW : ∀ w, Calls Tryd.prog 22 #[.int .i64 d] w fun e w' => e = .returned (.int .i64 7) ∧ Below w.heap.size w w') (w : World) (ht : Tabs w) :
    Calls Tryd.prog 5 #[.int .i64 y] w fun e w' => e = .returned (.bool true) ∧ Below w.heap.size w w' := by
  have k0 : (E == 24) = false := by simp; omega
  have k00 : (E == 25) = false := by simp; omega
  have k01 : decide (44 - E < 21) = false := decide_eq_false (by omega)
  have k1 : decide (A ≤ d) = true := decide_eq_true b0
  have k2 : decide (d ≤ A + 34) = true := decide_eq_true b1
  have k3 : decide (A + (44 - E) - 22 < d) = true := decide_eq_true n0
  have k4 : decide (d ≤ A + (44 - E) - 22 + 7) = true := decide_eq_true n1
  replace HE := Lib.hid HE
  replace HG := Lib.hid HG
  replace HP := Lib.hid HP
  replace HA := Lib.hid HA
  replace HB := Lib.hid HB
  replace HW := Lib.hid HW
  have a2 : A < 2932890 := by omega
  obtain ⟨L, hL⟩ : ∃ L, A + 34 = L := ⟨_, rfl⟩
  rw [hL] at HB k2 a1
  clear hL
  have AW := Lib.hid (fun w ht => awake_all w ht)
  replace ht := Lib.hid ht
  go_enter Tryd.func5, Tryd.ntmps5
  go_wp2_with fail
  refine (AW.out _ (ht.out.below (here w))).mono ?_
  rintro e w1 ⟨rfl, hb⟩
  have A1 := Lib.hid (down (here w) hb)
  clear hb
  go_wp2_with fail
  refine (HE.out _ (ht.out.below A1.out)).mono ?_
  rintro e w2 ⟨rfl, hb⟩
  have A2 := Lib.hid (down A1.out hb)
  clear hb A1
  go_wp2_with fail
  refine (HA.out _ (ht.out.below A2.out).cl).mono ?_
  rintro e w3 ⟨rfl, hb⟩
  have A3 := Lib.hid (down A2.out hb)
  clear hb A2
  go_wp2_with fail
  refine (HB.out _ (ht.out.below A3.out).cl).mono ?_
  rintro e w4 ⟨rfl, hb⟩
  have A4 := Lib.hid (down A3.out hb)
  clear hb A3
  go_wp2_with fail
  refine (HP.out _ (ht.out.below A4.out)).mono ?_
  rintro e w5 ⟨rfl, hb⟩
  have A5 := Lib.hid (down A4.out hb)
  clear hb A4
  go_wp2_with fail
  refine (HW.out _).mono ?_
  rintro e w6 ⟨rfl, hb⟩
  have A6 := Lib.hid (down A5.out hb)
  clear hb A5
  go_wp2
  go_ret
  exact ⟨rfl, by first | exact A6.out | exact grow A6.out _ | exact below_drewN A6.out _ | exact grow (grow A6.out _) _ | exact grow (grow (grow A6.out _) _) _⟩
set_option maxRecDepth 100000 in
set_option maxHeartbeats 2000000 in
theorem high (y d A g E : Int) (hy : I64 y) (a0 : -719162 ≤ A) (a1 : A + 34 < 2932897) (b0 : A ≤ d) (b1 : d ≤ A + 34) (E0 : 0 ≤ E) (E1 : E < 30) (q : 25 < E) (n0 : A + (44 - E + 30) - 22 < d) (n1 : d ≤ A + (44 - E + 30) - 22 + 7)
    (HE : ∀ w, Tabs w → Calls Tryd.prog 17 #[.int .i64 y] w fun e w' => e = .returned (.tuple #[.int .i64 d, .int .i64 0]) ∧ Below w.heap.size w w')
    (HG : ∀ w, Tabs w → Calls Tryd.prog 12 #[.int .i64 y] w fun e w' => e = .returned (.int .i64 g) ∧ Below w.heap.size w w')
    (HP : ∀ w, Tabs w → Calls Tryd.prog 13 #[.int .i64 y] w fun e w' => e = .returned (.int .i64 E) ∧ Below w.heap.size w w')
    (HA : ∀ w, Lens w → Calls Tryd.prog 21 #[.agg #[.int .i64 y, .int .i64 3, .int .i64 22]] w fun e w' => e = .returned (.tuple #[.int .i64 A, .int .i64 0]) ∧ Below w.heap.size w w')
    (HB : ∀ w, Lens w → Calls Tryd.prog 21 #[.agg #[.int .i64 y, .int .i64 4, .int .i64 25]] w fun e w' => e = .returned (.tuple #[.int .i64 (A + 34), .int .i64 0]) ∧ Below w.heap.size w w')
    (HW : ∀ w, Calls Tryd.prog 22 #[.int .i64 d] w fun e w' => e = .returned (.int .i64 7) ∧ Below w.heap.size w w') (w : World) (ht : Tabs w) :
    Calls Tryd.prog 5 #[.int .i64 y] w fun e w' => e = .returned (.bool true) ∧ Below w.heap.size w w' := by
  have k0 : (E == 24) = false := by simp; omega
  have k00 : (E == 25) = false := by simp; omega
  have k01 : decide (44 - E < 21) = true := decide_eq_true (by omega)
  have k1 : decide (A ≤ d) = true := decide_eq_true b0
  have k2 : decide (d ≤ A + 34) = true := decide_eq_true b1
  have k3 : decide (A + (44 - E + 30) - 22 < d) = true := decide_eq_true n0
  have k4 : decide (d ≤ A + (44 - E + 30) - 22 + 7) = true := decide_eq_true n1
  replace HE := Lib.hid HE
  replace HG := Lib.hid HG
  replace HP := Lib.hid HP
  replace HA := Lib.hid HA
  replace HB := Lib.hid HB
  replace HW := Lib.hid HW
  have a2 : A < 2932890 := by omega
  obtain ⟨L, hL⟩ : ∃ L, A + 34 = L := ⟨_, rfl⟩
  rw [hL] at HB k2 a1
  clear hL
  have AW := Lib.hid (fun w ht => awake_all w ht)
  replace ht := Lib.hid ht
  go_enter Tryd.func5, Tryd.ntmps5
  go_wp2_with fail
  refine (AW.out _ (ht.out.below (here w))).mono ?_
  rintro e w1 ⟨rfl, hb⟩
  have A1 := Lib.hid (down (here w) hb)
  clear hb
  go_wp2_with fail
  refine (HE.out _ (ht.out.below A1.out)).mono ?_
  rintro e w2 ⟨rfl, hb⟩
  have A2 := Lib.hid (down A1.out hb)
  clear hb A1
  go_wp2_with fail
  refine (HA.out _ (ht.out.below A2.out).cl).mono ?_
  rintro e w3 ⟨rfl, hb⟩
  have A3 := Lib.hid (down A2.out hb)
  clear hb A2
  go_wp2_with fail
  refine (HB.out _ (ht.out.below A3.out).cl).mono ?_
  rintro e w4 ⟨rfl, hb⟩
  have A4 := Lib.hid (down A3.out hb)
  clear hb A3
  go_wp2_with fail
  refine (HP.out _ (ht.out.below A4.out)).mono ?_
  rintro e w5 ⟨rfl, hb⟩
  have A5 := Lib.hid (down A4.out hb)
  clear hb A4
  go_wp2_with fail
  refine (HW.out _).mono ?_
  rintro e w6 ⟨rfl, hb⟩
  have A6 := Lib.hid (down A5.out hb)
  clear hb A5
  go_wp2
  go_ret
  exact ⟨rfl, by first | exact A6.out | exact grow A6.out _ | exact below_drewN A6.out _ | exact grow (grow A6.out _) _ | exact grow (grow (grow A6.out _) _) _⟩
set_option maxRecDepth 100000 in
set_option maxHeartbeats 2000000 in
theorem walk (y : Int) (hy : (Lit.int .i64 y).wf = true) (w : World) (ht : Tabs w) :
    Calls Tryd.prog 5 #[.int .i64 y] w fun e w' => e = .returned (.bool true) ∧ Below w.heap.size w w' := by
  replace hy := i64_wf hy
  have HE := fun w ht => ueaster y hy w ht
  have HG := fun w ht => ugold y hy w ht
  have HP := fun w ht => uepact y hy w ht
  rcases yr_cases y with ⟨a, -, -, e1, -, e3⟩ | ⟨a, y0, y1, e4, e5, e1, -, e3⟩
  · have HY := fun w => rfyr y hy w
    rw [e1, e3] at HE
    rw [a] at HY
    replace HE := Lib.hid HE
    replace HY := Lib.hid HY
    clear a e1 e3 HG HP
    have AW := Lib.hid (fun w ht => awake_all w ht)
    replace ht := Lib.hid ht
    go_enter Tryd.func5, Tryd.ntmps5
    go_wp2_with fail
    refine (AW.out _ (ht.out.below (here w))).mono ?_
    rintro e w1 ⟨rfl, hb⟩
    have A1 := Lib.hid (down (here w) hb)
    clear hb
    go_wp2_with fail
    refine (HE.out _ (ht.out.below A1.out)).mono ?_
    rintro e w2 ⟨rfl, hb⟩
    have A2 := Lib.hid (down A1.out hb)
    clear hb A1
    go_wp2_with fail
    refine (HY.out _).mono ?_
    rintro e x1 ⟨rfl, rfl⟩
    go_wp2
    go_ret
    exact ⟨rfl, by first | exact A2.out | exact grow A2.out _ | exact below_drewN A2.out _ | exact grow (grow A2.out _) _ | exact grow (grow (grow A2.out _) _) _⟩
  · rw [e1, e3] at HE
    rw [e4] at HG
    rw [e5] at HP
    have sp := spring y0 y1
    have fi := feN_in y0 y1
    have ra := day_range sp.2.2.1
    have rb := day_range sp.2.2.2.1
    have HA := fun w ht => cday_yes y 3 22 sp.2.2.1 w ht
    have HB := fun w ht => cday_yes y 4 25 sp.2.2.2.1 w ht
    have HW := fun w => cwd (feN y) ⟨by omega, by omega⟩ w
    rw [show wkd (feN y) = 7 by unfold wkd; rw [if_neg (by omega)]; omega] at HW
    have fs := fS_in (dayN y 3 1 + fF y - 1)
    rw [show fS (dayN y 3 1 + fF y - 1) = feN y from rfl] at fs
    rw [show dayN y 4 25 = dayN y 3 22 + 34 by omega] at HB
    have eb := fE_bd y
    have fx : fF y = if 44 - fX y < 21 then 74 - fX y else 44 - fX y := rfl
    have fx2 : fX y = if fE y = 24 ∨ fE y = 25 ∧ 11 < fG y then fE y + 1 else fE y := rfl
    rcases (show fE y = 24 ∨ fE y = 25 ∧ 11 < fG y ∨ fE y = 25 ∧ ¬ 11 < fG y ∨ fE y < 24 ∨ 25 < fE y by omega) with q | ⟨q, q2⟩ | ⟨q, q2⟩ | q | q
    · rw [if_pos (.inl q)] at fx2
      rw [if_pos (by omega)] at fx
      exact c24 y _ _ _ _ hy (by omega) (by omega) fi.1 (by omega) eb.1 eb.2 q (by omega) (by omega) HE HG HP HA HB HW w ht
    · rw [if_pos (.inr ⟨q, q2⟩)] at fx2
      rw [if_pos (by omega)] at fx
      exact c25a y _ _ _ _ hy (by omega) (by omega) fi.1 (by omega) eb.1 eb.2 q q2 (by omega) (by omega) HE HG HP HA HB HW w ht
    · rw [if_neg (by omega)] at fx2
      rw [if_pos (by omega)] at fx
      exact c25b y _ _ _ _ hy (by omega) (by omega) fi.1 (by omega) eb.1 eb.2 q q2 (by omega) (by omega) HE HG HP HA HB HW w ht
    · rw [if_neg (by omega)] at fx2
      rw [if_neg (by omega)] at fx
      exact low y _ _ _ _ hy (by omega) (by omega) fi.1 (by omega) eb.1 eb.2 q (by omega) (by omega) HE HG HP HA HB HW w ht
    · rw [if_neg (by omega)] at fx2
      rw [if_pos (by omega)] at fx
      exact high y _ _ _ _ hy (by omega) (by omega) fi.1 (by omega) eb.1 eb.2 q (by omega) (by omega) HE HG HP HA HB HW w ht
end FeastSundays
end Go.Proofs.YtljpjchcmiohpaaDoor

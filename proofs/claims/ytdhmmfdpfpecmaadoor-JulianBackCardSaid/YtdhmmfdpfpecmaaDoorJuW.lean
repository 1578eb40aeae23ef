/- Contracts of civiltimeref05: MixedDay, path by path. -/
import Derived.Test.YtdhmmfdpfpecmaaDoorJuU
namespace Go.Proofs.YtdhmmfdpfpecmaaDoor
open Go.RowKit
set_option linter.unusedVariables false

set_option maxHeartbeats 400000 in
theorem rjmix_bad1 (f y m d N J : Int) (f0 : I64 f) (n0 : -800000 ≤ N ∧ N ≤ 3000000) (j0 : -800000 ≤ J ∧ J ≤ 3000000) (g : Bool) (kf : decide (f < -719162) = true) (HG : Hid (∀ w, Calls Tryd.prog 49 #[.agg #[.int .i64 y, .int .i64 m, .int .i64 d]] w fun e w' => e = .returned (.tuple #[.int .i64 N, .bool g]) ∧ Below w.heap.size w w')) (w : World) :
    Calls Tryd.prog 29 #[.agg #[.int .i64 f], .agg #[.int .i64 y, .int .i64 m, .int .i64 d]] w fun e w' => e = .returned (.tuple #[.int .i64 0, .int .i64 1]) ∧ Below w.heap.size w w' := by
  obtain ⟨f0, f1⟩ := f0
  obtain ⟨n0, n1⟩ := n0
  obtain ⟨j0, j1⟩ := j0
  go_enter Tryd.func29, Tryd.ntmps29
  go_wp2_with fail
  refine (HG.out _).mono ?_
  rintro e w1 ⟨rfl, hb⟩
  have A1 := Lib.hid (down (grow (grow (here w) _) _) hb)
  have O1 := Lib.hid (One.fst hb)
  have B1 := Lib.hid (Box.snd hb)
  clear hb
  obtain ⟨o0, oz⟩ := O1.out
  obtain ⟨c0, c1, c2, zz⟩ := B1.out
  go_wp2
  go_ret2
  exact ⟨rfl, A1.out⟩
set_option maxHeartbeats 400000 in
theorem rjmix_bad2 (f y m d N J : Int) (f0 : I64 f) (n0 : -800000 ≤ N ∧ N ≤ 3000000) (j0 : -800000 ≤ J ∧ J ≤ 3000000) (g : Bool) (kf : decide (f < -719162) = false) (kg : decide (2932897 < f) = true) (HG : Hid (∀ w, Calls Tryd.prog 49 #[.agg #[.int .i64 y, .int .i64 m, .int .i64 d]] w fun e w' => e = .returned (.tuple #[.int .i64 N, .bool g]) ∧ Below w.heap.size w w')) (w : World) :
    Calls Tryd.prog 29 #[.agg #[.int .i64 f], .agg #[.int .i64 y, .int .i64 m, .int .i64 d]] w fun e w' => e = .returned (.tuple #[.int .i64 0, .int .i64 1]) ∧ Below w.heap.size w w' := by
  obtain ⟨f0, f1⟩ := f0
  obtain ⟨n0, n1⟩ := n0
  obtain ⟨j0, j1⟩ := j0
  go_enter Tryd.func29, Tryd.ntmps29
  go_wp2_with fail
  refine (HG.out _).mono ?_
  rintro e w1 ⟨rfl, hb⟩
  have A1 := Lib.hid (down (grow (grow (here w) _) _) hb)
  have O1 := Lib.hid (One.fst hb)
  have B1 := Lib.hid (Box.snd hb)
  clear hb
  obtain ⟨o0, oz⟩ := O1.out
  obtain ⟨c0, c1, c2, zz⟩ := B1.out
  go_wp2
  go_ret2
  exact ⟨rfl, A1.out⟩
set_option maxHeartbeats 400000 in
theorem rjmix_arg (f y m d N J : Int) (f0 : I64 f) (n0 : -800000 ≤ N ∧ N ≤ 3000000) (j0 : -800000 ≤ J ∧ J ≤ 3000000) (kf : decide (f < -719162) = false) (kg : decide (2932897 < f) = false) (HG : Hid (∀ w, Calls Tryd.prog 49 #[.agg #[.int .i64 y, .int .i64 m, .int .i64 d]] w fun e w' => e = .returned (.tuple #[.int .i64 N, .bool false]) ∧ Below w.heap.size w w')) (HV : Hid (∀ w, Calls Tryd.prog 38 #[.agg #[.int .i64 y, .int .i64 m, .int .i64 d]] w fun e w' => e = .returned (.bool false) ∧ Below w.heap.size w w')) (w : World) :
    Calls Tryd.prog 29 #[.agg #[.int .i64 f], .agg #[.int .i64 y, .int .i64 m, .int .i64 d]] w fun e w' => e = .returned (.tuple #[.int .i64 0, .int .i64 1]) ∧ Below w.heap.size w w' := by
  obtain ⟨f0, f1⟩ := f0
  obtain ⟨n0, n1⟩ := n0
  obtain ⟨j0, j1⟩ := j0
  go_enter Tryd.func29, Tryd.ntmps29
  go_wp2_with fail
  refine (HG.out _).mono ?_
  rintro e w1 ⟨rfl, hb⟩
  have A1 := Lib.hid (down (grow (grow (here w) _) _) hb)
  have O1 := Lib.hid (One.fst hb)
  have B1 := Lib.hid (Box.snd hb)
  clear hb
  obtain ⟨o0, oz⟩ := O1.out
  obtain ⟨c0, c1, c2, zz⟩ := B1.out
  go_wp2_with fail
  refine (HV.out _).mono ?_
  rintro e w2 ⟨rfl, hb⟩
  have A2 := Lib.hid (down A1.out hb)
  have O2 := Lib.hid (O1.out.keep hb)
  have B2 := Lib.hid (B1.out.keep hb)
  clear hb o0 oz c0 c1 c2 zz A1 O1 B1
  obtain ⟨o0, oz⟩ := O2.out
  obtain ⟨c0, c1, c2, zz⟩ := B2.out
  go_wp2
  go_ret2
  exact ⟨rfl, A2.out⟩
set_option maxHeartbeats 400000 in
theorem rjmix_julF (f y m d N J : Int) (f0 : I64 f) (n0 : -800000 ≤ N ∧ N ≤ 3000000) (j0 : -800000 ≤ J ∧ J ≤ 3000000) (kf : decide (f < -719162) = false) (kg : decide (2932897 < f) = false) (kj : decide (J < f) = true) (HG : Hid (∀ w, Calls Tryd.prog 49 #[.agg #[.int .i64 y, .int .i64 m, .int .i64 d]] w fun e w' => e = .returned (.tuple #[.int .i64 N, .bool false]) ∧ Below w.heap.size w w')) (HV : Hid (∀ w, Calls Tryd.prog 38 #[.agg #[.int .i64 y, .int .i64 m, .int .i64 d]] w fun e w' => e = .returned (.bool true) ∧ Below w.heap.size w w')) (HC : Hid (∀ w, Calls Tryd.prog 39 #[.agg #[.int .i64 y, .int .i64 m, .int .i64 d]] w fun e w' => e = .returned (.int .i64 J) ∧ Below w.heap.size w w')) (HR : Hid (∀ w, Calls Tryd.prog 22 #[.int .i64 J] w fun e w' => e = .returned (.bool true) ∧ w = w')) (w : World) :
    Calls Tryd.prog 29 #[.agg #[.int .i64 f], .agg #[.int .i64 y, .int .i64 m, .int .i64 d]] w fun e w' => e = .returned (.tuple #[.int .i64 J, .int .i64 0]) ∧ Below w.heap.size w w' := by
  obtain ⟨f0, f1⟩ := f0
  obtain ⟨n0, n1⟩ := n0
  obtain ⟨j0, j1⟩ := j0
  go_enter Tryd.func29, Tryd.ntmps29
  go_wp2_with fail
  refine (HG.out _).mono ?_
  rintro e w1 ⟨rfl, hb⟩
  have A1 := Lib.hid (down (grow (grow (here w) _) _) hb)
  have O1 := Lib.hid (One.fst hb)
  have B1 := Lib.hid (Box.snd hb)
  clear hb
  obtain ⟨o0, oz⟩ := O1.out
  obtain ⟨c0, c1, c2, zz⟩ := B1.out
  go_wp2_with fail
  refine (HV.out _).mono ?_
  rintro e w2 ⟨rfl, hb⟩
  have A2 := Lib.hid (down A1.out hb)
  have O2 := Lib.hid (O1.out.keep hb)
  have B2 := Lib.hid (B1.out.keep hb)
  clear hb o0 oz c0 c1 c2 zz A1 O1 B1
  obtain ⟨o0, oz⟩ := O2.out
  obtain ⟨c0, c1, c2, zz⟩ := B2.out
  go_wp2_with fail
  refine (HV.out _).mono ?_
  rintro e w3 ⟨rfl, hb⟩
  have A3 := Lib.hid (down A2.out hb)
  have O3 := Lib.hid (O2.out.keep hb)
  have B3 := Lib.hid (B2.out.keep hb)
  clear hb o0 oz c0 c1 c2 zz A2 O2 B2
  obtain ⟨o0, oz⟩ := O3.out
  obtain ⟨c0, c1, c2, zz⟩ := B3.out
  go_wp2_with fail
  refine (HC.out _).mono ?_
  rintro e w4 ⟨rfl, hb⟩
  have A4 := Lib.hid (down A3.out hb)
  have O4 := Lib.hid (O3.out.keep hb)
  have B4 := Lib.hid (B3.out.keep hb)
  clear hb o0 oz c0 c1 c2 zz A3 O3 B3
  obtain ⟨o0, oz⟩ := O4.out
  obtain ⟨c0, c1, c2, zz⟩ := B4.out
  go_wp2_with fail
  refine (HR.out _).mono ?_
  rintro e x ⟨rfl, rfl⟩
  go_wp2
  go_ret2
  exact ⟨rfl, A4.out⟩
set_option maxHeartbeats 400000 in
theorem rjmix_julT (f y m d N J : Int) (f0 : I64 f) (n0 : -800000 ≤ N ∧ N ≤ 3000000) (j0 : -800000 ≤ J ∧ J ≤ 3000000) (kf : decide (f < -719162) = false) (kg : decide (2932897 < f) = false) (kj : decide (J < f) = true) (HG : Hid (∀ w, Calls Tryd.prog 49 #[.agg #[.int .i64 y, .int .i64 m, .int .i64 d]] w fun e w' => e = .returned (.tuple #[.int .i64 N, .bool true]) ∧ Below w.heap.size w w')) (HV : Hid (∀ w, Calls Tryd.prog 38 #[.agg #[.int .i64 y, .int .i64 m, .int .i64 d]] w fun e w' => e = .returned (.bool true) ∧ Below w.heap.size w w')) (HC : Hid (∀ w, Calls Tryd.prog 39 #[.agg #[.int .i64 y, .int .i64 m, .int .i64 d]] w fun e w' => e = .returned (.int .i64 J) ∧ Below w.heap.size w w')) (HR : Hid (∀ w, Calls Tryd.prog 22 #[.int .i64 J] w fun e w' => e = .returned (.bool true) ∧ w = w')) (w : World) :
    Calls Tryd.prog 29 #[.agg #[.int .i64 f], .agg #[.int .i64 y, .int .i64 m, .int .i64 d]] w fun e w' => e = .returned (.tuple #[.int .i64 J, .int .i64 0]) ∧ Below w.heap.size w w' := by
  obtain ⟨f0, f1⟩ := f0
  obtain ⟨n0, n1⟩ := n0
  obtain ⟨j0, j1⟩ := j0
  go_enter Tryd.func29, Tryd.ntmps29
  go_wp2_with fail
  refine (HG.out _).mono ?_
  rintro e w1 ⟨rfl, hb⟩
  have A1 := Lib.hid (down (grow (grow (here w) _) _) hb)
  have O1 := Lib.hid (One.fst hb)
  have B1 := Lib.hid (Box.snd hb)
  clear hb
  obtain ⟨o0, oz⟩ := O1.out
  obtain ⟨c0, c1, c2, zz⟩ := B1.out
  go_wp2_with fail
  refine (HV.out _).mono ?_
  rintro e w2 ⟨rfl, hb⟩
  have A2 := Lib.hid (down A1.out hb)
  have O2 := Lib.hid (O1.out.keep hb)
  have B2 := Lib.hid (B1.out.keep hb)
  clear hb o0 oz c0 c1 c2 zz A1 O1 B1
  obtain ⟨o0, oz⟩ := O2.out
  obtain ⟨c0, c1, c2, zz⟩ := B2.out
  go_wp2_with fail
  refine (HC.out _).mono ?_
  rintro e w3 ⟨rfl, hb⟩
  have A3 := Lib.hid (down A2.out hb)
  have O3 := Lib.hid (O2.out.keep hb)
  have B3 := Lib.hid (B2.out.keep hb)
  clear hb o0 oz c0 c1 c2 zz A2 O2 B2
  obtain ⟨o0, oz⟩ := O3.out
  obtain ⟨c0, c1, c2, zz⟩ := B3.out
  go_wp2_with fail
  refine (HR.out _).mono ?_
  rintro e x ⟨rfl, rfl⟩
  go_wp2
  go_ret2
  exact ⟨rfl, A3.out⟩
set_option maxHeartbeats 400000 in
theorem rjmix_outF_true (f y m d N J : Int) (f0 : I64 f) (n0 : -800000 ≤ N ∧ N ≤ 3000000) (j0 : -800000 ≤ J ∧ J ≤ 3000000) (kf : decide (f < -719162) = false) (kg : decide (2932897 < f) = false) (kj : decide (J < f) = false) (HG : Hid (∀ w, Calls Tryd.prog 49 #[.agg #[.int .i64 y, .int .i64 m, .int .i64 d]] w fun e w' => e = .returned (.tuple #[.int .i64 N, .bool false]) ∧ Below w.heap.size w w')) (HV : Hid (∀ w, Calls Tryd.prog 38 #[.agg #[.int .i64 y, .int .i64 m, .int .i64 d]] w fun e w' => e = .returned (.bool true) ∧ Below w.heap.size w w')) (HC : Hid (∀ w, Calls Tryd.prog 39 #[.agg #[.int .i64 y, .int .i64 m, .int .i64 d]] w fun e w' => e = .returned (.int .i64 J) ∧ Below w.heap.size w w')) (HR : Hid (∀ w, Calls Tryd.prog 22 #[.int .i64 J] w fun e w' => e = .returned (.bool true) ∧ w = w')) (w : World) :
    Calls Tryd.prog 29 #[.agg #[.int .i64 f], .agg #[.int .i64 y, .int .i64 m, .int .i64 d]] w fun e w' => e = .returned (.tuple #[.int .i64 0, .int .i64 7]) ∧ Below w.heap.size w w' := by
  obtain ⟨f0, f1⟩ := f0
  obtain ⟨n0, n1⟩ := n0
  obtain ⟨j0, j1⟩ := j0
  go_enter Tryd.func29, Tryd.ntmps29
  go_wp2_with fail
  refine (HG.out _).mono ?_
  rintro e w1 ⟨rfl, hb⟩
  have A1 := Lib.hid (down (grow (grow (here w) _) _) hb)
  have O1 := Lib.hid (One.fst hb)
  have B1 := Lib.hid (Box.snd hb)
  clear hb
  obtain ⟨o0, oz⟩ := O1.out
  obtain ⟨c0, c1, c2, zz⟩ := B1.out
  go_wp2_with fail
  refine (HV.out _).mono ?_
  rintro e w2 ⟨rfl, hb⟩
  have A2 := Lib.hid (down A1.out hb)
  have O2 := Lib.hid (O1.out.keep hb)
  have B2 := Lib.hid (B1.out.keep hb)
  clear hb o0 oz c0 c1 c2 zz A1 O1 B1
  obtain ⟨o0, oz⟩ := O2.out
  obtain ⟨c0, c1, c2, zz⟩ := B2.out
  go_wp2_with fail
  refine (HV.out _).mono ?_
  rintro e w3 ⟨rfl, hb⟩
  have A3 := Lib.hid (down A2.out hb)
  have O3 := Lib.hid (O2.out.keep hb)
  have B3 := Lib.hid (B2.out.keep hb)
  clear hb o0 oz c0 c1 c2 zz A2 O2 B2
  obtain ⟨o0, oz⟩ := O3.out
  obtain ⟨c0, c1, c2, zz⟩ := B3.out
  go_wp2_with fail
  refine (HC.out _).mono ?_
  rintro e w4 ⟨rfl, hb⟩
  have A4 := Lib.hid (down A3.out hb)
  have O4 := Lib.hid (O3.out.keep hb)
  have B4 := Lib.hid (B3.out.keep hb)
  clear hb o0 oz c0 c1 c2 zz A3 O3 B3
  obtain ⟨o0, oz⟩ := O4.out
  obtain ⟨c0, c1, c2, zz⟩ := B4.out
  go_wp2_with fail
  refine (HR.out _).mono ?_
  rintro e x ⟨rfl, rfl⟩
  go_wp2
  go_ret2
  exact ⟨rfl, A4.out⟩
set_option maxHeartbeats 400000 in
theorem rjmix_outT_true_true (f y m d N J : Int) (f0 : I64 f) (n0 : -800000 ≤ N ∧ N ≤ 3000000) (j0 : -800000 ≤ J ∧ J ≤ 3000000) (kf : decide (f < -719162) = false) (kg : decide (2932897 < f) = false) (kj : decide (J < f) = false) (kn : decide (f ≤ N) = true) (HG : Hid (∀ w, Calls Tryd.prog 49 #[.agg #[.int .i64 y, .int .i64 m, .int .i64 d]] w fun e w' => e = .returned (.tuple #[.int .i64 N, .bool true]) ∧ Below w.heap.size w w')) (HV : Hid (∀ w, Calls Tryd.prog 38 #[.agg #[.int .i64 y, .int .i64 m, .int .i64 d]] w fun e w' => e = .returned (.bool true) ∧ Below w.heap.size w w')) (HC : Hid (∀ w, Calls Tryd.prog 39 #[.agg #[.int .i64 y, .int .i64 m, .int .i64 d]] w fun e w' => e = .returned (.int .i64 J) ∧ Below w.heap.size w w')) (HR : Hid (∀ w, Calls Tryd.prog 22 #[.int .i64 J] w fun e w' => e = .returned (.bool true) ∧ w = w')) (HS : Hid (∀ w, Calls Tryd.prog 22 #[.int .i64 N] w fun e w' => e = .returned (.bool true) ∧ w = w')) (w : World) :
    Calls Tryd.prog 29 #[.agg #[.int .i64 f], .agg #[.int .i64 y, .int .i64 m, .int .i64 d]] w fun e w' => e = .returned (.tuple #[.int .i64 N, .int .i64 0]) ∧ Below w.heap.size w w' := by
  obtain ⟨f0, f1⟩ := f0
  obtain ⟨n0, n1⟩ := n0
  obtain ⟨j0, j1⟩ := j0
  go_enter Tryd.func29, Tryd.ntmps29
  go_wp2_with fail
  refine (HG.out _).mono ?_
  rintro e w1 ⟨rfl, hb⟩
  have A1 := Lib.hid (down (grow (grow (here w) _) _) hb)
  have O1 := Lib.hid (One.fst hb)
  have B1 := Lib.hid (Box.snd hb)
  clear hb
  obtain ⟨o0, oz⟩ := O1.out
  obtain ⟨c0, c1, c2, zz⟩ := B1.out
  go_wp2_with fail
  refine (HV.out _).mono ?_
  rintro e w2 ⟨rfl, hb⟩
  have A2 := Lib.hid (down A1.out hb)
  have O2 := Lib.hid (O1.out.keep hb)
  have B2 := Lib.hid (B1.out.keep hb)
  clear hb o0 oz c0 c1 c2 zz A1 O1 B1
  obtain ⟨o0, oz⟩ := O2.out
  obtain ⟨c0, c1, c2, zz⟩ := B2.out
  go_wp2_with fail
  refine (HC.out _).mono ?_
  rintro e w3 ⟨rfl, hb⟩
  have A3 := Lib.hid (down A2.out hb)
  have O3 := Lib.hid (O2.out.keep hb)
  have B3 := Lib.hid (B2.out.keep hb)
  clear hb o0 oz c0 c1 c2 zz A2 O2 B2
  obtain ⟨o0, oz⟩ := O3.out
  obtain ⟨c0, c1, c2, zz⟩ := B3.out
  go_wp2_with fail
  refine (HR.out _).mono ?_
  rintro e x ⟨rfl, rfl⟩
  go_wp2_with fail
  refine (HS.out _).mono ?_
  rintro e x ⟨rfl, rfl⟩
  go_wp2
  go_ret2
  exact ⟨rfl, A3.out⟩
set_option maxHeartbeats 400000 in
theorem rjmix_outT_true_false (f y m d N J : Int) (f0 : I64 f) (n0 : -800000 ≤ N ∧ N ≤ 3000000) (j0 : -800000 ≤ J ∧ J ≤ 3000000) (kf : decide (f < -719162) = false) (kg : decide (2932897 < f) = false) (kj : decide (J < f) = false) (kn : decide (f ≤ N) = false) (HG : Hid (∀ w, Calls Tryd.prog 49 #[.agg #[.int .i64 y, .int .i64 m, .int .i64 d]] w fun e w' => e = .returned (.tuple #[.int .i64 N, .bool true]) ∧ Below w.heap.size w w')) (HV : Hid (∀ w, Calls Tryd.prog 38 #[.agg #[.int .i64 y, .int .i64 m, .int .i64 d]] w fun e w' => e = .returned (.bool true) ∧ Below w.heap.size w w')) (HC : Hid (∀ w, Calls Tryd.prog 39 #[.agg #[.int .i64 y, .int .i64 m, .int .i64 d]] w fun e w' => e = .returned (.int .i64 J) ∧ Below w.heap.size w w')) (HR : Hid (∀ w, Calls Tryd.prog 22 #[.int .i64 J] w fun e w' => e = .returned (.bool true) ∧ w = w')) (HS : Hid (∀ w, Calls Tryd.prog 22 #[.int .i64 N] w fun e w' => e = .returned (.bool true) ∧ w = w')) (w : World) :
    Calls Tryd.prog 29 #[.agg #[.int .i64 f], .agg #[.int .i64 y, .int .i64 m, .int .i64 d]] w fun e w' => e = .returned (.tuple #[.int .i64 0, .int .i64 7]) ∧ Below w.heap.size w w' := by
  obtain ⟨f0, f1⟩ := f0
  obtain ⟨n0, n1⟩ := n0
  obtain ⟨j0, j1⟩ := j0
  go_enter Tryd.func29, Tryd.ntmps29
  go_wp2_with fail
  refine (HG.out _).mono ?_
  rintro e w1 ⟨rfl, hb⟩
  have A1 := Lib.hid (down (grow (grow (here w) _) _) hb)
  have O1 := Lib.hid (One.fst hb)
  have B1 := Lib.hid (Box.snd hb)
  clear hb
  obtain ⟨o0, oz⟩ := O1.out
  obtain ⟨c0, c1, c2, zz⟩ := B1.out
  go_wp2_with fail
  refine (HV.out _).mono ?_
  rintro e w2 ⟨rfl, hb⟩
  have A2 := Lib.hid (down A1.out hb)
  have O2 := Lib.hid (O1.out.keep hb)
  have B2 := Lib.hid (B1.out.keep hb)
  clear hb o0 oz c0 c1 c2 zz A1 O1 B1
  obtain ⟨o0, oz⟩ := O2.out
  obtain ⟨c0, c1, c2, zz⟩ := B2.out
  go_wp2_with fail
  refine (HC.out _).mono ?_
  rintro e w3 ⟨rfl, hb⟩
  have A3 := Lib.hid (down A2.out hb)
  have O3 := Lib.hid (O2.out.keep hb)
  have B3 := Lib.hid (B2.out.keep hb)
  clear hb o0 oz c0 c1 c2 zz A2 O2 B2
  obtain ⟨o0, oz⟩ := O3.out
  obtain ⟨c0, c1, c2, zz⟩ := B3.out
  go_wp2_with fail
  refine (HR.out _).mono ?_
  rintro e x ⟨rfl, rfl⟩
  go_wp2_with fail
  refine (HS.out _).mono ?_
  rintro e x ⟨rfl, rfl⟩
  go_wp2
  go_ret2
  exact ⟨rfl, A3.out⟩
set_option maxHeartbeats 400000 in
theorem rjmix_outF_false (f y m d N J : Int) (f0 : I64 f) (n0 : -800000 ≤ N ∧ N ≤ 3000000) (j0 : -800000 ≤ J ∧ J ≤ 3000000) (kf : decide (f < -719162) = false) (kg : decide (2932897 < f) = false) (HG : Hid (∀ w, Calls Tryd.prog 49 #[.agg #[.int .i64 y, .int .i64 m, .int .i64 d]] w fun e w' => e = .returned (.tuple #[.int .i64 N, .bool false]) ∧ Below w.heap.size w w')) (HV : Hid (∀ w, Calls Tryd.prog 38 #[.agg #[.int .i64 y, .int .i64 m, .int .i64 d]] w fun e w' => e = .returned (.bool true) ∧ Below w.heap.size w w')) (HC : Hid (∀ w, Calls Tryd.prog 39 #[.agg #[.int .i64 y, .int .i64 m, .int .i64 d]] w fun e w' => e = .returned (.int .i64 J) ∧ Below w.heap.size w w')) (HR : Hid (∀ w, Calls Tryd.prog 22 #[.int .i64 J] w fun e w' => e = .returned (.bool false) ∧ w = w')) (w : World) :
    Calls Tryd.prog 29 #[.agg #[.int .i64 f], .agg #[.int .i64 y, .int .i64 m, .int .i64 d]] w fun e w' => e = .returned (.tuple #[.int .i64 0, .int .i64 7]) ∧ Below w.heap.size w w' := by
  obtain ⟨f0, f1⟩ := f0
  obtain ⟨n0, n1⟩ := n0
  obtain ⟨j0, j1⟩ := j0
  go_enter Tryd.func29, Tryd.ntmps29
  go_wp2_with fail
  refine (HG.out _).mono ?_
  rintro e w1 ⟨rfl, hb⟩
  have A1 := Lib.hid (down (grow (grow (here w) _) _) hb)
  have O1 := Lib.hid (One.fst hb)
  have B1 := Lib.hid (Box.snd hb)
  clear hb
  obtain ⟨o0, oz⟩ := O1.out
  obtain ⟨c0, c1, c2, zz⟩ := B1.out
  go_wp2_with fail
  refine (HV.out _).mono ?_
  rintro e w2 ⟨rfl, hb⟩
  have A2 := Lib.hid (down A1.out hb)
  have O2 := Lib.hid (O1.out.keep hb)
  have B2 := Lib.hid (B1.out.keep hb)
  clear hb o0 oz c0 c1 c2 zz A1 O1 B1
  obtain ⟨o0, oz⟩ := O2.out
  obtain ⟨c0, c1, c2, zz⟩ := B2.out
  go_wp2_with fail
  refine (HV.out _).mono ?_
  rintro e w3 ⟨rfl, hb⟩
  have A3 := Lib.hid (down A2.out hb)
  have O3 := Lib.hid (O2.out.keep hb)
  have B3 := Lib.hid (B2.out.keep hb)
  clear hb o0 oz c0 c1 c2 zz A2 O2 B2
  obtain ⟨o0, oz⟩ := O3.out
  obtain ⟨c0, c1, c2, zz⟩ := B3.out
  go_wp2_with fail
  refine (HC.out _).mono ?_
  rintro e w4 ⟨rfl, hb⟩
  have A4 := Lib.hid (down A3.out hb)
  have O4 := Lib.hid (O3.out.keep hb)
  have B4 := Lib.hid (B3.out.keep hb)
  clear hb o0 oz c0 c1 c2 zz A3 O3 B3
  obtain ⟨o0, oz⟩ := O4.out
  obtain ⟨c0, c1, c2, zz⟩ := B4.out
  go_wp2_with fail
  refine (HR.out _).mono ?_
  rintro e x ⟨rfl, rfl⟩
  go_wp2
  go_ret2
  exact ⟨rfl, A4.out⟩
set_option maxHeartbeats 400000 in
theorem rjmix_outT_false_true (f y m d N J : Int) (f0 : I64 f) (n0 : -800000 ≤ N ∧ N ≤ 3000000) (j0 : -800000 ≤ J ∧ J ≤ 3000000) (kf : decide (f < -719162) = false) (kg : decide (2932897 < f) = false) (kn : decide (f ≤ N) = true) (HG : Hid (∀ w, Calls Tryd.prog 49 #[.agg #[.int .i64 y, .int .i64 m, .int .i64 d]] w fun e w' => e = .returned (.tuple #[.int .i64 N, .bool true]) ∧ Below w.heap.size w w')) (HV : Hid (∀ w, Calls Tryd.prog 38 #[.agg #[.int .i64 y, .int .i64 m, .int .i64 d]] w fun e w' => e = .returned (.bool true) ∧ Below w.heap.size w w')) (HC : Hid (∀ w, Calls Tryd.prog 39 #[.agg #[.int .i64 y, .int .i64 m, .int .i64 d]] w fun e w' => e = .returned (.int .i64 J) ∧ Below w.heap.size w w')) (HR : Hid (∀ w, Calls Tryd.prog 22 #[.int .i64 J] w fun e w' => e = .returned (.bool false) ∧ w = w')) (HS : Hid (∀ w, Calls Tryd.prog 22 #[.int .i64 N] w fun e w' => e = .returned (.bool true) ∧ w = w')) (w : World) :
    Calls Tryd.prog 29 #[.agg #[.int .i64 f], .agg #[.int .i64 y, .int .i64 m, .int .i64 d]] w fun e w' => e = .returned (.tuple #[.int .i64 N, .int .i64 0]) ∧ Below w.heap.size w w' := by
  obtain ⟨f0, f1⟩ := f0
  obtain ⟨n0, n1⟩ := n0
  obtain ⟨j0, j1⟩ := j0
  go_enter Tryd.func29, Tryd.ntmps29
  go_wp2_with fail
  refine (HG.out _).mono ?_
  rintro e w1 ⟨rfl, hb⟩
  have A1 := Lib.hid (down (grow (grow (here w) _) _) hb)
  have O1 := Lib.hid (One.fst hb)
  have B1 := Lib.hid (Box.snd hb)
  clear hb
  obtain ⟨o0, oz⟩ := O1.out
  obtain ⟨c0, c1, c2, zz⟩ := B1.out
  go_wp2_with fail
  refine (HV.out _).mono ?_
  rintro e w2 ⟨rfl, hb⟩
  have A2 := Lib.hid (down A1.out hb)
  have O2 := Lib.hid (O1.out.keep hb)
  have B2 := Lib.hid (B1.out.keep hb)
  clear hb o0 oz c0 c1 c2 zz A1 O1 B1
  obtain ⟨o0, oz⟩ := O2.out
  obtain ⟨c0, c1, c2, zz⟩ := B2.out
  go_wp2_with fail
  refine (HC.out _).mono ?_
  rintro e w3 ⟨rfl, hb⟩
  have A3 := Lib.hid (down A2.out hb)
  have O3 := Lib.hid (O2.out.keep hb)
  have B3 := Lib.hid (B2.out.keep hb)
  clear hb o0 oz c0 c1 c2 zz A2 O2 B2
  obtain ⟨o0, oz⟩ := O3.out
  obtain ⟨c0, c1, c2, zz⟩ := B3.out
  go_wp2_with fail
  refine (HR.out _).mono ?_
  rintro e x ⟨rfl, rfl⟩
  go_wp2_with fail
  refine (HS.out _).mono ?_
  rintro e x ⟨rfl, rfl⟩
  go_wp2
  go_ret2
  exact ⟨rfl, A3.out⟩
set_option maxHeartbeats 400000 in
theorem rjmix_outT_false_false (f y m d N J : Int) (f0 : I64 f) (n0 : -800000 ≤ N ∧ N ≤ 3000000) (j0 : -800000 ≤ J ∧ J ≤ 3000000) (kf : decide (f < -719162) = false) (kg : decide (2932897 < f) = false) (kn : decide (f ≤ N) = false) (HG : Hid (∀ w, Calls Tryd.prog 49 #[.agg #[.int .i64 y, .int .i64 m, .int .i64 d]] w fun e w' => e = .returned (.tuple #[.int .i64 N, .bool true]) ∧ Below w.heap.size w w')) (HV : Hid (∀ w, Calls Tryd.prog 38 #[.agg #[.int .i64 y, .int .i64 m, .int .i64 d]] w fun e w' => e = .returned (.bool true) ∧ Below w.heap.size w w')) (HC : Hid (∀ w, Calls Tryd.prog 39 #[.agg #[.int .i64 y, .int .i64 m, .int .i64 d]] w fun e w' => e = .returned (.int .i64 J) ∧ Below w.heap.size w w')) (HR : Hid (∀ w, Calls Tryd.prog 22 #[.int .i64 J] w fun e w' => e = .returned (.bool false) ∧ w = w')) (HS : Hid (∀ w, Calls Tryd.prog 22 #[.int .i64 N] w fun e w' => e = .returned (.bool true) ∧ w = w')) (w : World) :
    Calls Tryd.prog 29 #[.agg #[.int .i64 f], .agg #[.int .i64 y, .int .i64 m, .int .i64 d]] w fun e w' => e = .returned (.tuple #[.int .i64 0, .int .i64 7]) ∧ Below w.heap.size w w' := by
  obtain ⟨f0, f1⟩ := f0
  obtain ⟨n0, n1⟩ := n0
  obtain ⟨j0, j1⟩ := j0
  go_enter Tryd.func29, Tryd.ntmps29
  go_wp2_with fail
  refine (HG.out _).mono ?_
  rintro e w1 ⟨rfl, hb⟩
  have A1 := Lib.hid (down (grow (grow (here w) _) _) hb)
  have O1 := Lib.hid (One.fst hb)
  have B1 := Lib.hid (Box.snd hb)
  clear hb
  obtain ⟨o0, oz⟩ := O1.out
  obtain ⟨c0, c1, c2, zz⟩ := B1.out
  go_wp2_with fail
  refine (HV.out _).mono ?_
  rintro e w2 ⟨rfl, hb⟩
  have A2 := Lib.hid (down A1.out hb)
  have O2 := Lib.hid (O1.out.keep hb)
  have B2 := Lib.hid (B1.out.keep hb)
  clear hb o0 oz c0 c1 c2 zz A1 O1 B1
  obtain ⟨o0, oz⟩ := O2.out
  obtain ⟨c0, c1, c2, zz⟩ := B2.out
  go_wp2_with fail
  refine (HC.out _).mono ?_
  rintro e w3 ⟨rfl, hb⟩
  have A3 := Lib.hid (down A2.out hb)
  have O3 := Lib.hid (O2.out.keep hb)
  have B3 := Lib.hid (B2.out.keep hb)
  clear hb o0 oz c0 c1 c2 zz A2 O2 B2
  obtain ⟨o0, oz⟩ := O3.out
  obtain ⟨c0, c1, c2, zz⟩ := B3.out
  go_wp2_with fail
  refine (HR.out _).mono ?_
  rintro e x ⟨rfl, rfl⟩
  go_wp2_with fail
  refine (HS.out _).mono ?_
  rintro e x ⟨rfl, rfl⟩
  go_wp2
  go_ret2
  exact ⟨rfl, A3.out⟩
end Go.Proofs.YtdhmmfdpfpecmaaDoor

/- Contracts of package week: rules, starts of week-years. -/
import Derived.Test.YtimpaaimdjlhjaaDoorLCivA
import Derived.Test.YtimpaaimdjlhjaaDoorWkGen
import Derived.Test.YtimpaaimdjlhjaaDoorWkMath
namespace Go.Proofs.YtimpaaimdjlhjaaDoor
open Go.RowKit
set_option linter.unusedVariables false

theorem kwday (d : Int) (hd : I64 d) (w : World) :
    Calls Tryd.prog 42 #[.int .i64 d] w fun e w' => e = .returned (.bool (decide (1 ≤ d) && decide (d ≤ 7))) ∧ w = w' := by
  obtain ⟨h0, h1⟩ := hd
  obtain ⟨a, ha⟩ : ∃ a, decide (1 ≤ d) = a := ⟨_, rfl⟩
  obtain ⟨b, hb⟩ : ∃ a, decide (d ≤ 7) = a := ⟨_, rfl⟩
  rw [ha, hb]
  cases a <;> cases b
  all_goals
    go_enter Tryd.func42, Tryd.ntmps42
    go_wp2
    go_ret
    exact ⟨rfl, rfl⟩
theorem kyear (y : Int) (hy : I64 y) (w : World) :
    Calls Tryd.prog 37 #[.int .i64 y] w fun e w' => e = .returned (.bool (yrB y)) ∧ w = w' := by
  obtain ⟨h0, h1⟩ := hy
  rw [yrB_eq]
  obtain ⟨a, ha⟩ : ∃ a, decide (1 ≤ y) = a := ⟨_, rfl⟩
  obtain ⟨b, hb⟩ : ∃ a, decide (y ≤ 9999) = a := ⟨_, rfl⟩
  rw [ha, hb]
  cases a <;> cases b
  all_goals
    go_enter Tryd.func37, Tryd.ntmps37
    go_wp2
    go_ret
    exact ⟨rfl, rfl⟩
theorem kiso (w : World) : Calls Tryd.prog 17 #[] w fun e w' => e = .returned (.agg #[.int .i64 1, .int .i64 4]) ∧ Below w.heap.size w w' := by
  go_enter Tryd.func17, Tryd.ntmps17
  go_wp2
  exact bodyPost_ret (v := .agg #[.int .i64 1, .int .i64 4]) (by simp [results, Tryd.results17, go_sem]) rfl ⟨rfl, by first | exact grow (here _) _ | exact (grow (here _) _).setCell (Nat.le_refl _) _⟩
theorem kvalid (F M : Int) (hF : I64 F) (hM : I64 M) (w : World) :
    Calls Tryd.prog 15 #[.agg #[.int .i64 F, .int .i64 M]] w fun e w' => e = .returned (.bool (rulB F M)) ∧ Below w.heap.size w w' := by
  have HV := fun w => kwday F hF w
  obtain ⟨h0, h1⟩ := hM
  unfold rulB
  generalize (decide (1 ≤ F) && decide (F ≤ 7)) = f at *
  obtain ⟨a, ha⟩ : ∃ a, decide (1 ≤ M) = a := ⟨_, rfl⟩
  obtain ⟨b, hb⟩ : ∃ a, decide (M ≤ 7) = a := ⟨_, rfl⟩
  rw [ha, hb]
  replace HV := Lib.hid HV
  cases f <;> cases a <;> cases b
  all_goals
    go_enter Tryd.func15, Tryd.ntmps15
    go_wp2_with fail
    refine (HV.out _).mono ?_
    rintro e w' ⟨rfl, rfl⟩
    go_wp2
    go_ret
    exact ⟨rfl, grow (here _) _⟩
theorem knew (y : Int) (y0 : 1 ≤ y) (y1 : y ≤ 10000) (w : World) (ht : Lens w) :
    Calls Tryd.prog 50 #[.int .i64 y] w fun e w' => e = .returned (.int .i64 (first y)) ∧ Below w.heap.size w w' := by
  by_cases z : 9999 < y
  · obtain rfl : y = 10000 := by omega
    rw [first_last]
    clear y0 y1 z
    go_enter Tryd.func50, Tryd.ntmps50
    go_wp2
    go_ret
    exact ⟨rfl, here _⟩
  · obtain ⟨hv, hd⟩ := day_first y0 (show y ≤ 9999 by omega)
    have HD := fun w ht => cday_yes y 1 1 hv w ht
    rw [hd] at HD
    replace HD := Lib.hid HD
    replace ht := Lib.hid ht
    clear hv hd
    generalize first y = f at *
    have k : decide (9999 < y) = false := decide_eq_false z
    go_enter Tryd.func50, Tryd.ntmps50
    go_wp2_with fail
    refine (HD.out _ ht.out).mono ?_
    rintro e w1 ⟨rfl, hb⟩
    go_wp2
    go_ret
    exact ⟨rfl, hb⟩
theorem first_bd {y : Int} (y0 : 1 ≤ y) (y1 : y ≤ 10000) : -719162 ≤ first y ∧ first y ≤ 2932897 := by
  have f := first_le (y := 1) (z := y) (by omega) y0 y1
  have g := first_le (y := y) (z := 10000) (by omega) y1 (by omega)
  rw [first_one] at f
  rw [first_last] at g
  omega
theorem kstart (F M y : Int) (f0 : 1 ≤ F) (f1 : F ≤ 7) (m0 : 1 ≤ M) (m1 : M ≤ 7) (y0 : 1 ≤ y) (y1 : y ≤ 10000) (w : World) (ht : Lens w) :
    Calls Tryd.prog 36 #[.agg #[.int .i64 F, .int .i64 M], .int .i64 y] w fun e w' => e = .returned (.int .i64 (wkS F M y)) ∧ Below w.heap.size w w' := by
  obtain ⟨b0, b1⟩ := first_bd y0 y1
  obtain ⟨o0, o1⟩ := wkO_bd F y
  have HN := Lib.hid (fun w ht => knew y y0 y1 w ht)
  have HM := fun w => cmod7 (first y - 4 - (F - 1)) ⟨by omega, by omega⟩ w
  rw [show (first y - 4 - (F - 1)) % 7 = wkO F y from rfl] at HM
  replace HM := Lib.hid HM
  unfold wkS
  replace ht := Lib.hid ht
  generalize first y = f at *
  generalize wkO F y = o at *
  by_cases k : M ≤ 7 - o
  · rw [if_pos k]
    go_enter Tryd.func36, Tryd.ntmps36
    go_wp2_with fail
    refine (HN.out _ (lens_alloc ht.out _)).mono ?_
    rintro e w1 ⟨rfl, hb⟩
    have A1 := Lib.hid (down (grow (here w) _) hb)
    have B1 := Lib.hid (Two.new hb)
    clear hb
    obtain ⟨c0, c1, z⟩ := B1.out
    go_wp2_with fail
    refine (HM.out _).mono ?_
    rintro e w2 ⟨rfl, n, rfl⟩
    go_wp2
    go_ret
    exact ⟨rfl, below_drewN A1.out _⟩
  · rw [if_neg k]
    go_enter Tryd.func36, Tryd.ntmps36
    go_wp2_with fail
    refine (HN.out _ (lens_alloc ht.out _)).mono ?_
    rintro e w1 ⟨rfl, hb⟩
    have A1 := Lib.hid (down (grow (here w) _) hb)
    have B1 := Lib.hid (Two.new hb)
    clear hb
    obtain ⟨c0, c1, z⟩ := B1.out
    go_wp2_with fail
    refine (HM.out _).mono ?_
    rintro e w2 ⟨rfl, n, rfl⟩
    go_wp2
    go_ret
    exact ⟨rfl, below_drewN A1.out _⟩
theorem kStart_arg (F M y : Int) (hF : I64 F) (hM : I64 M) (h : rulB F M = false) (w : World) :
    Calls Tryd.prog 20 #[.agg #[.int .i64 F, .int .i64 M], .int .i64 y] w fun e w' => e = .returned (.tuple #[.int .i64 0, .int .i64 1]) ∧ Below w.heap.size w w' := by
  have HV := fun w => kvalid F M hF hM w
  rw [h] at HV
  replace HV := Lib.hid HV
  clear h
  go_enter Tryd.func20, Tryd.ntmps20
  go_wp2_with fail
  refine (HV.out _).mono ?_
  rintro e w1 ⟨rfl, hb⟩
  have A1 := Lib.hid (down (grow (here w) _) hb)
  clear hb
  go_wp2
  go_ret2
  exact ⟨rfl, A1.out⟩
theorem kStart_range (F M y : Int) (h : rulB F M = true) (hy : I64 y) (k : yrB y = false) (w : World) :
    Calls Tryd.prog 20 #[.agg #[.int .i64 F, .int .i64 M], .int .i64 y] w fun e w' => e = .returned (.tuple #[.int .i64 0, .int .i64 2]) ∧ Below w.heap.size w w' := by
  obtain ⟨f0, f1, m0, m1⟩ := rulB_iff.1 h
  have HV := fun w => kvalid F M ⟨by omega, by omega⟩ ⟨by omega, by omega⟩ w
  have HY := fun w => kyear y hy w
  rw [h] at HV
  rw [k] at HY
  replace HV := Lib.hid HV
  replace HY := Lib.hid HY
  clear h k
  go_enter Tryd.func20, Tryd.ntmps20
  go_wp2_with fail
  refine (HV.out _).mono ?_
  rintro e w1 ⟨rfl, hb⟩
  have A1 := Lib.hid (down (grow (here w) _) hb)
  clear hb
  go_wp2_with fail
  refine (HY.out _).mono ?_
  rintro e w2 ⟨rfl, rfl⟩
  go_wp2
  go_ret2
  exact ⟨rfl, A1.out⟩
theorem kStart_yes (F M y : Int) (h : rulB F M = true) (y0 : 1 ≤ y) (y1 : y ≤ 9999) (w : World) (ht : Lens w) :
    Calls Tryd.prog 20 #[.agg #[.int .i64 F, .int .i64 M], .int .i64 y] w fun e w' => e = .returned (.tuple #[.int .i64 (wkS F M y), .int .i64 0]) ∧ Below w.heap.size w w' := by
  obtain ⟨f0, f1, m0, m1⟩ := rulB_iff.1 h
  have HV := fun w => kvalid F M ⟨by omega, by omega⟩ ⟨by omega, by omega⟩ w
  have HY := fun w => kyear y ⟨by omega, by omega⟩ w
  have HS := fun w ht => kstart F M y f0 f1 m0 m1 y0 (by omega) w ht
  rw [h] at HV
  rw [yrB_iff.2 ⟨y0, y1⟩] at HY
  generalize wkS F M y = s at *
  replace HV := Lib.hid HV
  replace HY := Lib.hid HY
  replace HS := Lib.hid HS
  replace ht := Lib.hid ht
  clear h
  go_enter Tryd.func20, Tryd.ntmps20
  go_wp2_with fail
  refine (HV.out _).mono ?_
  rintro e w1 ⟨rfl, hb⟩
  have A1 := Lib.hid (down (grow (here w) _) hb)
  have B1 := Lib.hid (Two.new hb)
  clear hb
  obtain ⟨c0, c1, z⟩ := B1.out
  go_wp2_with fail
  refine (HY.out _).mono ?_
  rintro e w2 ⟨rfl, rfl⟩
  go_wp2_with fail
  refine (HS.out _ (lens_below ht.out A1.out)).mono ?_
  rintro e w3 ⟨rfl, hb⟩
  have A3 := Lib.hid (down A1.out hb)
  clear hb
  go_wp2
  go_ret2
  exact ⟨rfl, A3.out⟩
theorem kWeeks_no (F M y E : Int) (e0 : 1 ≤ E) (e1 : E ≤ 2) (H : ∀ w, Calls Tryd.prog 20 #[.agg #[.int .i64 F, .int .i64 M], .int .i64 y] w fun e w' => e = .returned (.tuple #[.int .i64 0, .int .i64 E]) ∧ Below w.heap.size w w') (w : World) :
    Calls Tryd.prog 21 #[.agg #[.int .i64 F, .int .i64 M], .int .i64 y] w fun e w' => e = .returned (.tuple #[.int .i64 0, .int .i64 E]) ∧ Below w.heap.size w w' := by
  replace H := Lib.hid H
  have k : (E != 0) = true := by simp; omega
  clear e0 e1
  go_enter Tryd.func21, Tryd.ntmps21
  go_wp2_with fail
  refine (H.out _).mono ?_
  rintro e w1 ⟨rfl, hb⟩
  have A1 := Lib.hid (down (grow (here w) _) hb)
  clear hb
  go_wp2
  go_ret2
  exact ⟨rfl, A1.out⟩
theorem floor7 (a : Int) (ha : I64 a) (w : World) :
    Calls Tryd.prog 38 #[.int .i64 a, .int .i64 7] w fun e w' => e = .returned (.int .i64 (a / 7)) ∧ ∃ n, w' = w.drewN n := by
  have h := floor_all a 7 ha.1 ha.2 (by omega) (by omega) w
  rw [dQ_pos (by omega)] at h
  exact h
theorem kWeeks_yes (F M y : Int) (h : rulB F M = true) (y0 : 1 ≤ y) (y1 : y ≤ 9999) (w : World) (ht : Lens w) :
    Calls Tryd.prog 21 #[.agg #[.int .i64 F, .int .i64 M], .int .i64 y] w fun e w' => e = .returned (.tuple #[.int .i64 (wkN F M y), .int .i64 0]) ∧ Below w.heap.size w w' := by
  obtain ⟨f0, f1, m0, m1⟩ := rulB_iff.1 h
  have HS := Lib.hid (fun w ht => kStart_yes F M y h y0 y1 w ht)
  have HT := Lib.hid (fun w ht => kstart F M (y + 1) f0 f1 m0 m1 (by omega) (by omega) w ht)
  have s0 := wkS_bd (F := F) m0 m1 y0 (show y ≤ 10000 by omega)
  have s1 := wkS_bd (F := F) m0 m1 (show 1 ≤ y + 1 by omega) (show y + 1 ≤ 10000 by omega)
  unfold wkN
  generalize wkS F M y = s at *
  generalize wkS F M (y + 1) = t at *
  have HF := Lib.hid (fun w => floor7 (t - s) ⟨by omega, by omega⟩ w)
  replace ht := Lib.hid ht
  clear h
  obtain ⟨s00, s01⟩ := s0
  obtain ⟨s10, s11⟩ := s1
  go_enter Tryd.func21, Tryd.ntmps21
  go_wp2_with fail
  refine (HS.out _ (lens_alloc ht.out _)).mono ?_
  rintro e w1 ⟨rfl, hb⟩
  have A1 := Lib.hid (down (grow (here w) _) hb)
  have B1 := Lib.hid (Two.new hb)
  clear hb
  obtain ⟨c0, c1, z⟩ := B1.out
  go_wp2_with fail
  refine (HT.out _ (lens_below ht.out A1.out)).mono ?_
  rintro e w2 ⟨rfl, hb⟩
  have A2 := Lib.hid (down A1.out hb)
  clear hb
  go_wp2_with fail
  refine (HF.out _).mono ?_
  rintro e w3 ⟨rfl, n, rfl⟩
  go_wp2
  go_ret2
  exact ⟨rfl, below_drewN A2.out _⟩
end Go.Proofs.YtimpaaimdjlhjaaDoor

/- The walks of WeekDates, WeekDays, WeekYears, WeekOrdinals: the Go text returns true, at every input. -/
import Derived.Test.YtimpaaimdjlhjaaDoorAwakeW
namespace Go.Proofs.YtimpaaimdjlhjaaDoor
open Go.RowKit
set_option linter.unusedVariables false

namespace WeekDates
set_option maxRecDepth 100000 in
set_option maxHeartbeats 2000000 in
theorem walk (F M n : Int) (hF : (Lit.int .i64 F).wf = true) (hM : (Lit.int .i64 M).wf = true) (hn : (Lit.int .i64 n).wf = true) (w : World) (ht : Lens w) :
    Calls Tryd.prog 3 #[.agg #[.int .i64 F, .int .i64 M], .int .i64 n] w fun e w' => e = .returned (.bool true) ∧ Below w.heap.size w w' := by
  obtain ⟨a, b, c, E, HX, RX⟩ := both_of F M n (i64_wf hF) (i64_wf hM) (i64_wf hn)
  have HV := Lib.hid (fun w => kvalid F M (i64_wf hF) (i64_wf hM) w)
  have RV := Lib.hid (fun w => rvalid F M (i64_wf hF) (i64_wf hM) w)
  generalize rulB F M = V at *
  replace HX := Lib.hid HX
  replace RX := Lib.hid RX
  clear hF hM hn
  replace ht := Lib.hid ht
  go_enter Tryd.func3, Tryd.ntmps3
  go_wp2_with fail
  refine (awake_all _ (lens_alloc ht.out _)).mono ?_
  rintro e w1 ⟨rfl, hb⟩
  have A1 := Lib.hid (down (grow (here w) _) hb)
  have R1 := Lib.hid (Two.new hb)
  clear hb
  obtain ⟨c0, c1, z⟩ := R1.out
  go_wp2_with fail
  refine (HX.out _ (lens_below ht.out A1.out)).mono ?_
  rintro e w2 ⟨rfl, hb⟩
  have A2 := Lib.hid (down A1.out hb)
  have R2 := Lib.hid (R1.out.keep hb)
  clear hb A1 R1 c0 c1 z
  obtain ⟨c0, c1, z⟩ := R2.out
  go_wp2_with fail
  refine (RX.out _).mono ?_
  rintro e w3 ⟨rfl, hb⟩
  have A3 := Lib.hid (down (grow A2.out _) hb)
  have R3 := Lib.hid ((R2.out.old _).keep hb)
  have B3 := Lib.hid (Box.new hb)
  clear hb A2 R2 c0 c1 z
  obtain ⟨w4, hw4⟩ : ∃ w4 : World, w3.alloc (.cells #[.int .i64 a, .int .i64 b, .int .i64 c] 26) = w4 := ⟨_, rfl⟩
  have A4 : Hid (Below w.heap.size w w4) := by rw [← hw4]; exact grow A3.out _
  have R4 : Hid (Two w4 w.heap.size (.int .i64 F) (.int .i64 M)) := by rw [← hw4]; exact R3.out.old _
  have B4 : Hid (Box w4 w2.heap.size (.int .i64 a) (.int .i64 b) (.int .i64 c)) := by rw [← hw4]; exact B3.out.old _
  have C4 : Hid (Box w4 w3.heap.size (.int .i64 a) (.int .i64 b) (.int .i64 c)) := by rw [← hw4]; exact Box.new (here _)
  have p0 : ∀ x : Kept w4, x.wd.cell? ⟨w.heap.size, 0, none⟩ = some (.int .i64 F) := fun x => (R4.out.keep x.ok).c0
  have p1 : ∀ x : Kept w4, x.wd.cell? ⟨w.heap.size, 1, none⟩ = some (.int .i64 M) := fun x => (R4.out.keep x.ok).c1
  have k0 : ∀ x : Kept w4, x.wd.cell? ⟨w2.heap.size, 0, none⟩ = some (.int .i64 a) := fun x => (B4.out.keep x.ok).c0
  have k1 : ∀ x : Kept w4, x.wd.cell? ⟨w2.heap.size, 1, none⟩ = some (.int .i64 b) := fun x => (B4.out.keep x.ok).c1
  have k2 : ∀ x : Kept w4, x.wd.cell? ⟨w2.heap.size, 2, none⟩ = some (.int .i64 c) := fun x => (B4.out.keep x.ok).c2
  have l0 : ∀ x : Kept w4, x.wd.cell? ⟨w3.heap.size, 0, none⟩ = some (.int .i64 a) := fun x => (C4.out.keep x.ok).c0
  have l1 : ∀ x : Kept w4, x.wd.cell? ⟨w3.heap.size, 1, none⟩ = some (.int .i64 b) := fun x => (C4.out.keep x.ok).c1
  have l2 : ∀ x : Kept w4, x.wd.cell? ⟨w3.heap.size, 2, none⟩ = some (.int .i64 c) := fun x => (C4.out.keep x.ok).c2
  go_wp2
  clear hw4
  refine wp_region_kept (by kernel_rfl) (by kernel_rfl) ?_
  repeat (go_big_quiet_step (first
    | (go_at_call 15; exact kept_call _ (HV.out _))
    | (go_at_call 16; exact kept_call _ (RV.out _))
    | (go_at_call 17; exact kept_call _ (kiso _))))
  refine wpQuiet_nil ?_
  intro _ hx
  obtain ⟨⟨w5, hb5⟩, hw⟩ := hx
  subst hw
  go_wp2
  go_ret
  exact ⟨rfl, down A4.out hb5⟩
end WeekDates
namespace WeekDays
set_option maxRecDepth 100000 in
set_option maxHeartbeats 2000000 in
theorem walk (F M Y W D : Int) (hF : (Lit.int .i64 F).wf = true) (hM : (Lit.int .i64 M).wf = true) (hY : (Lit.int .i64 Y).wf = true) (hW : (Lit.int .i64 W).wf = true) (hD : (Lit.int .i64 D).wf = true) (w : World) (ht : Lens w) :
    Calls Tryd.prog 4 #[.agg #[.int .i64 F, .int .i64 M], .agg #[.int .i64 Y, .int .i64 W, .int .i64 D]] w fun e w' => e = .returned (.bool true) ∧ Below w.heap.size w w' := by
  obtain ⟨V, E, HX, RX⟩ := both_day F M Y W D (i64_wf hF) (i64_wf hM) (i64_wf hY) (i64_wf hW) (i64_wf hD)
  replace HX := Lib.hid HX
  replace RX := Lib.hid RX
  clear hF hM hY hW hD
  replace ht := Lib.hid ht
  go_enter Tryd.func4, Tryd.ntmps4
  go_wp2_with fail
  refine (awake_all _ (lens_alloc (lens_alloc ht.out _) _)).mono ?_
  rintro e w1 ⟨rfl, hb⟩
  have A1 := Lib.hid (down (grow (grow (here w) _) _) hb)
  have R1 := Lib.hid (Two.fst hb)
  have B1 := Lib.hid (Box.snd hb)
  clear hb
  obtain ⟨c0, c1, z⟩ := R1.out
  obtain ⟨d0, d1, d2, y⟩ := B1.out
  go_wp2_with fail
  refine (HX.out _ (lens_below ht.out A1.out)).mono ?_
  rintro e w2 ⟨rfl, hb⟩
  have A2 := Lib.hid (down A1.out hb)
  have R2 := Lib.hid (R1.out.keep hb)
  have B2 := Lib.hid (B1.out.keep hb)
  clear hb A1 R1 B1 c0 c1 z d0 d1 d2 y
  obtain ⟨c0, c1, z⟩ := R2.out
  obtain ⟨d0, d1, d2, y⟩ := B2.out
  go_wp2_with fail
  refine (RX.out _).mono ?_
  rintro e w3 ⟨rfl, hb⟩
  have A3 := Lib.hid (down A2.out hb)
  clear hb A2 R2 B2 c0 c1 z d0 d1 d2 y
  go_wp2
  go_ret
  exact ⟨rfl, A3.out⟩
end WeekDays
namespace WeekYears
set_option maxRecDepth 100000 in
set_option maxHeartbeats 2000000 in
theorem bad (F M y E : Int) (V : Bool) (HV : ∀ w, Calls Tryd.prog 16 #[.agg #[.int .i64 F, .int .i64 M]] w fun e w' => e = .returned (.bool V) ∧ Below w.heap.size w w') (hy : I64 y)
    (HS : ∀ w, Calls Tryd.prog 20 #[.agg #[.int .i64 F, .int .i64 M], .int .i64 y] w fun e w' => e = .returned (.tuple #[.int .i64 0, .int .i64 E]) ∧ Below w.heap.size w w')
    (HN : ∀ w, Calls Tryd.prog 21 #[.agg #[.int .i64 F, .int .i64 M], .int .i64 y] w fun e w' => e = .returned (.tuple #[.int .i64 0, .int .i64 E]) ∧ Below w.heap.size w w')
    (h : V = false ∧ E = 1 ∨ V = true ∧ E = 2 ∧ (y < 1 ∨ 9999 < y)) (w : World) (ht : Lens w) :
    Calls Tryd.prog 5 #[.agg #[.int .i64 F, .int .i64 M], .int .i64 y] w fun e w' => e = .returned (.bool true) ∧ Below w.heap.size w w' := by
  replace HV := Lib.hid HV
  replace HS := Lib.hid HS
  replace HN := Lib.hid HN
  replace ht := Lib.hid ht
  obtain ⟨hy0, hy1⟩ := hy
  go_enter Tryd.func5, Tryd.ntmps5
  go_wp2_with fail
  refine (awake_all _ (lens_alloc ht.out _)).mono ?_
  rintro e w1 ⟨rfl, hb⟩
  have A1 := Lib.hid (down (grow (here w) _) hb)
  have R1 := Lib.hid (Two.new hb)
  clear hb
  obtain ⟨c0, c1, z⟩ := R1.out
  go_wp2_with fail
  refine (HS.out _).mono ?_
  rintro e w2 ⟨rfl, hb⟩
  have A2 := Lib.hid (down A1.out hb)
  have R2 := Lib.hid (R1.out.keep hb)
  clear hb A1 R1 c0 c1 z
  obtain ⟨c0, c1, z⟩ := R2.out
  go_wp2_with fail
  refine (HN.out _).mono ?_
  rintro e w3 ⟨rfl, hb⟩
  have A3 := Lib.hid (down A2.out hb)
  have R3 := Lib.hid (R2.out.keep hb)
  clear hb A2 R2 c0 c1 z
  obtain ⟨c0, c1, z⟩ := R3.out
  go_wp2_with fail
  refine (HV.out _).mono ?_
  rintro e w4 ⟨rfl, hb⟩
  have A4 := Lib.hid (down A3.out hb)
  clear hb A3 R3 c0 c1 z
  rcases h with ⟨rfl, rfl⟩ | ⟨rfl, rfl, k | k⟩
  · go_wp2
    go_ret
    exact ⟨rfl, A4.out⟩
  · have k1 : decide (y < 1) = true := decide_eq_true k
    go_wp2
    go_ret
    exact ⟨rfl, A4.out⟩
  · have k1 : decide (y < 1) = false := decide_eq_false (by omega)
    have k2 : decide (9999 < y) = true := decide_eq_true k
    go_wp2
    go_ret
    exact ⟨rfl, A4.out⟩
set_option maxRecDepth 100000 in
set_option maxHeartbeats 2000000 in
theorem good (F M y : Int) (h : rulB F M = true) (y0 : 1 ≤ y) (y1 : y ≤ 9999) (w : World) (ht : Lens w) :
    Calls Tryd.prog 5 #[.agg #[.int .i64 F, .int .i64 M], .int .i64 y] w fun e w' => e = .returned (.bool true) ∧ Below w.heap.size w w' := by
  obtain ⟨f0, f1, m0, m1⟩ := rulB_iff.1 h
  have HV := fun w => rvalid F M ⟨by omega, by omega⟩ ⟨by omega, by omega⟩ w
  rw [h] at HV
  replace HV := Lib.hid HV
  have HS := Lib.hid (fun w ht => kStart_yes F M y h y0 y1 w ht)
  have HN := Lib.hid (fun w ht => kWeeks_yes F M y h y0 y1 w ht)
  have RS := Lib.hid (fun w => rstart F M y f0 f1 m0 m1 y0 (by omega) w)
  have RN := Lib.hid (fun w => rweeks F M y f0 f1 m0 m1 y0 y1 w)
  generalize wkS F M y = s at *
  generalize wkN F M y = k at *
  clear h f0 f1 m0 m1
  replace ht := Lib.hid ht
  have k1 : decide (y < 1) = false := decide_eq_false (by omega)
  have k2 : decide (9999 < y) = false := decide_eq_false (by omega)
  go_enter Tryd.func5, Tryd.ntmps5
  go_wp2_with fail
  refine (awake_all _ (lens_alloc ht.out _)).mono ?_
  rintro e w1 ⟨rfl, hb⟩
  have A1 := Lib.hid (down (grow (here w) _) hb)
  have R1 := Lib.hid (Two.new hb)
  clear hb
  obtain ⟨c0, c1, z⟩ := R1.out
  go_wp2_with fail
  refine (HS.out _ (lens_below ht.out A1.out)).mono ?_
  rintro e w2 ⟨rfl, hb⟩
  have A2 := Lib.hid (down A1.out hb)
  have R2 := Lib.hid (R1.out.keep hb)
  clear hb A1 R1 c0 c1 z
  obtain ⟨c0, c1, z⟩ := R2.out
  go_wp2_with fail
  refine (HN.out _ (lens_below ht.out A2.out)).mono ?_
  rintro e w3 ⟨rfl, hb⟩
  have A3 := Lib.hid (down A2.out hb)
  have R3 := Lib.hid (R2.out.keep hb)
  clear hb A2 R2 c0 c1 z
  obtain ⟨c0, c1, z⟩ := R3.out
  go_wp2_with fail
  refine (HV.out _).mono ?_
  rintro e w4 ⟨rfl, hb⟩
  have A4 := Lib.hid (down A3.out hb)
  have R4 := Lib.hid (R3.out.keep hb)
  clear hb A3 R3 c0 c1 z
  obtain ⟨c0, c1, z⟩ := R4.out
  go_wp2_with fail
  refine (RS.out _).mono ?_
  rintro e w5 ⟨rfl, hb⟩
  have A5 := Lib.hid (down A4.out hb)
  have R5 := Lib.hid (R4.out.keep hb)
  clear hb A4 R4 c0 c1 z
  obtain ⟨c0, c1, z⟩ := R5.out
  go_wp2_with fail
  refine (RN.out _).mono ?_
  rintro e w6 ⟨rfl, hb⟩
  have A6 := Lib.hid (down A5.out hb)
  clear hb A5 R5 c0 c1 z
  go_wp2
  go_ret
  exact ⟨rfl, A6.out⟩
theorem walk (F M y : Int) (hF : (Lit.int .i64 F).wf = true) (hM : (Lit.int .i64 M).wf = true) (hy : (Lit.int .i64 y).wf = true) (w : World) (ht : Lens w) :
    Calls Tryd.prog 5 #[.agg #[.int .i64 F, .int .i64 M], .int .i64 y] w fun e w' => e = .returned (.bool true) ∧ Below w.heap.size w w' := by
  replace hF := i64_wf hF
  replace hM := i64_wf hM
  replace hy := i64_wf hy
  by_cases h : rulB F M = true
  · by_cases k : yrB y = true
    · obtain ⟨y0, y1⟩ := yrB_iff.1 k
      exact good F M y h y0 y1 w ht
    · have k' : ¬ (1 ≤ y ∧ y ≤ 9999) := fun x => k (yrB_iff.2 x)
      rw [Bool.not_eq_true] at k
      exact bad F M y 2 true (fun w => by rw [← h]; exact rvalid F M hF hM w) hy (fun w => kStart_range F M y h hy k w) (fun w => kWeeks_no F M y 2 (by omega) (by omega) (fun w => kStart_range F M y h hy k w) w) (.inr ⟨rfl, rfl, by omega⟩) w ht
  · rw [Bool.not_eq_true] at h
    exact bad F M y 1 false (fun w => by rw [← h]; exact rvalid F M hF hM w) hy (fun w => kStart_arg F M y hF hM h w) (fun w => kWeeks_no F M y 1 (by omega) (by omega) (fun w => kStart_arg F M y hF hM h w) w) (.inl ⟨rfl, rfl⟩) w ht
end WeekYears
namespace WeekOrdinals
set_option maxRecDepth 100000 in
set_option maxHeartbeats 2000000 in
theorem walk (d y n : Int) (hd : (Lit.int .i64 d).wf = true) (hy : (Lit.int .i64 y).wf = true) (hn : (Lit.int .i64 n).wf = true) (w : World) (ht : Lens w) :
    Calls Tryd.prog 7 #[.int .i64 d, .int .i64 y, .int .i64 n] w fun e w' => e = .returned (.bool true) ∧ Below w.heap.size w w' := by
  obtain ⟨a, b, E, HX, RX⟩ := both_ord d (i64_wf hd)
  obtain ⟨V, G, HY, RY⟩ := both_from y n (i64_wf hy) (i64_wf hn)
  replace HX := Lib.hid HX
  replace RX := Lib.hid RX
  replace HY := Lib.hid HY
  replace RY := Lib.hid RY
  clear hd hy hn
  replace ht := Lib.hid ht
  go_enter Tryd.func7, Tryd.ntmps7
  go_wp2_with fail
  refine (awake_all _ ht.out).mono ?_
  rintro e w1 ⟨rfl, A1⟩
  replace A1 := Lib.hid A1
  go_wp2_with fail
  refine (HX.out _ (lens_below ht.out A1.out)).mono ?_
  rintro e w2 ⟨rfl, hb⟩
  have A2 := Lib.hid (down A1.out hb)
  clear hb A1
  go_wp2_with fail
  refine (RX.out _).mono ?_
  rintro e w3 ⟨rfl, rfl⟩
  go_wp2_with fail
  refine (HY.out _ (lens_below ht.out A2.out)).mono ?_
  rintro e w3 ⟨rfl, hb⟩
  have A3 := Lib.hid (down A2.out hb)
  clear hb A2
  go_wp2_with fail
  refine (RY.out _).mono ?_
  rintro e w4 ⟨rfl, rfl⟩
  go_wp2
  go_ret
  exact ⟨rfl, A3.out⟩
end WeekOrdinals
end Go.Proofs.YtimpaaimdjlhjaaDoor

/- The walk of JulianSteps: the Go text returns true, at every input. -/
import Derived.Test.YtdhmmfdpfpecmaaDoorJuAwake
namespace Go.Proofs.YtdhmmfdpfpecmaaDoor
open Go.RowKit
set_option linter.unusedVariables false

namespace JulianSteps
set_option maxRecDepth 100000 in
set_option maxHeartbeats 2000000 in
theorem low (n : Int) (hn : I64 n) (h : n < -719162) (w : World) (ht : Tabs w) :
    Calls Tryd.prog 6 #[.int .i64 n] w fun e w' => e = .returned (.bool true) ∧ Below w.heap.size w w' := by
  have k1 : decide (n < -719162) = true := decide_eq_true h
  have AW := Lib.hid (fun w ht => awake_all w ht)
  replace ht := Lib.hid ht
  go_enter Tryd.func6, Tryd.ntmps6
  go_wp2_with fail
  refine (AW.out _ (ht.out.below (here w))).mono ?_
  rintro e w1 ⟨rfl, hb⟩
  have A1 := Lib.hid (down (here w) hb)
  clear hb
  go_wp2_with fail
  refine (AW.out _ (ht.out.below A1.out)).mono ?_
  rintro e w2 ⟨rfl, hb⟩
  have A2 := Lib.hid (down A1.out hb)
  clear hb A1
  go_wp2
  go_ret
  exact ⟨rfl, by first | exact A2.out | exact grow A2.out _ | exact below_drewN A2.out _ | exact grow (grow A2.out _) _ | exact grow (grow (grow A2.out _) _) _⟩
set_option maxRecDepth 100000 in
set_option maxHeartbeats 2000000 in
theorem high (n : Int) (hn : I64 n) (h : 2932896 ≤ n) (w : World) (ht : Tabs w) :
    Calls Tryd.prog 6 #[.int .i64 n] w fun e w' => e = .returned (.bool true) ∧ Below w.heap.size w w' := by
  have k1 : decide (n < -719162) = false := decide_eq_false (by omega)
  have k2 : decide (2932896 ≤ n) = true := decide_eq_true h
  have AW := Lib.hid (fun w ht => awake_all w ht)
  replace ht := Lib.hid ht
  go_enter Tryd.func6, Tryd.ntmps6
  go_wp2_with fail
  refine (AW.out _ (ht.out.below (here w))).mono ?_
  rintro e w1 ⟨rfl, hb⟩
  have A1 := Lib.hid (down (here w) hb)
  clear hb
  go_wp2_with fail
  refine (AW.out _ (ht.out.below A1.out)).mono ?_
  rintro e w2 ⟨rfl, hb⟩
  have A2 := Lib.hid (down A1.out hb)
  clear hb A1
  go_wp2
  go_ret
  exact ⟨rfl, by first | exact A2.out | exact grow A2.out _ | exact below_drewN A2.out _ | exact grow (grow A2.out _) _ | exact grow (grow (grow A2.out _) _) _⟩
set_option maxRecDepth 100000 in
set_option maxHeartbeats 2000000 in
theorem inner (n y m d : Int) (h : jvld y m d = true) (he : jdayN y m d = n) (r0 : -719162 ≤ n) (r1 : n < 2932896) (hx : jvld y m (d + 1) = true) (hz : jdayN y m (d + 1) = n + 1) (kd : decide (d < jlenM y m) = true) (w : World) (ht : Tabs w) :
    Calls Tryd.prog 6 #[.int .i64 n] w fun e w' => e = .returned (.bool true) ∧ Below w.heap.size w w' := by
  obtain ⟨y0, y1, m0, m1, d0, d1⟩ := jvld_bd h
  have k1 : decide (n < -719162) = false := decide_eq_false (by omega)
  have k2 : decide (2932896 ≤ n) = false := decide_eq_false (by omega)
  have HX := Lib.hid (fun w => ujdate_yes n y m d h he r0 (by omega) w)
  have HY := Lib.hid (fun w => ujdate_yes (n + 1) y m (d + 1) hx hz (by omega) (by omega) w)
  have HL := fun w ht => ujlen y m ⟨by omega, by omega⟩ ⟨by omega, by omega⟩ w ht
  generalize jlenM y m = x at *
  replace HL := Lib.hid HL
  clear h he hx hz
  have AW := Lib.hid (fun w ht => awake_all w ht)
  replace ht := Lib.hid ht
  go_enter Tryd.func6, Tryd.ntmps6
  go_wp2_with fail
  refine (AW.out _ (ht.out.below (here w))).mono ?_
  rintro e w1 ⟨rfl, hb⟩
  have A1 := Lib.hid (down (here w) hb)
  clear hb
  go_wp2_with fail
  refine (HX.out _).mono ?_
  rintro e w2 ⟨rfl, hb⟩
  have A2 := Lib.hid (down A1.out hb)
  clear hb A1
  go_wp2_with fail
  refine (HY.out _).mono ?_
  rintro e w3 ⟨rfl, hb⟩
  have A3 := Lib.hid (down (grow A2.out _) hb)
  have le_X : Hid (w.heap.size ≤ w2.heap.size) := by show _ ≤ _; have := A2.out.size; omega
  have X3 := Lib.hid (Box.new hb)
  have FX3 := Lib.hid (Free.new hb)
  clear hb A2
  obtain ⟨x3_0, x3_1, x3_2, x3_z⟩ := X3.out
  obtain ⟨x3_f0, x3_f1, x3_f2⟩ := FX3.out
  obtain ⟨w4, hw4⟩ : ∃ w' : World, w3.alloc (.cells #[.int .i64 y, .int .i64 m, .int .i64 (d + 1)] 23) = w' := ⟨_, rfl⟩
  have hb : Below (w3.alloc (.cells #[.int .i64 y, .int .i64 m, .int .i64 (d + 1)] 23)).heap.size (w3.alloc (.cells #[.int .i64 y, .int .i64 m, .int .i64 (d + 1)] 23)) w4 := by rw [hw4]; exact here _
  have A4 := Lib.hid (down (grow A3.out _) hb)
  have ne_X_Y : Hid (w2.heap.size ≠ w3.heap.size) := by show _ ≠ _; have := X3.out.lt; omega
  have X4 := Lib.hid ((X3.out.old _).keep hb)
  have FX4 := Lib.hid ((FX3.out.keep X3.out.lt (grow (here _) _)).keep (X3.out.old _).lt hb)
  have Y4 := Lib.hid (Box.new hb)
  clear hb A3 X3 FX3 x3_0 x3_1 x3_2 x3_z x3_f0 x3_f1 x3_f2
  obtain ⟨x4_0, x4_1, x4_2, x4_z⟩ := X4.out
  obtain ⟨x4_f0, x4_f1, x4_f2⟩ := FX4.out
  obtain ⟨y4_0, y4_1, y4_2, y4_z⟩ := Y4.out
  have HT : Hid (∀ x : Kept w4, JLens x.wd) := fun x => (ht.out.below (down A4.out x.ok)).jl
  go_wp2
  clear hw4
  have kx0 : ∀ x : Kept w4, x.wd.cell? ⟨w2.heap.size, 0, none⟩ = some (.int .i64 (y)) := fun x => (X4.out.keep x.ok).c0
  have kx1 : ∀ x : Kept w4, x.wd.cell? ⟨w2.heap.size, 1, none⟩ = some (.int .i64 (m)) := fun x => (X4.out.keep x.ok).c1
  have kx2 : ∀ x : Kept w4, x.wd.cell? ⟨w2.heap.size, 2, none⟩ = some (.int .i64 (d)) := fun x => (X4.out.keep x.ok).c2
  have ky0 : ∀ x : Kept w4, x.wd.cell? ⟨w3.heap.size, 0, none⟩ = some (.int .i64 (y)) := fun x => (Y4.out.keep x.ok).c0
  have ky1 : ∀ x : Kept w4, x.wd.cell? ⟨w3.heap.size, 1, none⟩ = some (.int .i64 (m)) := fun x => (Y4.out.keep x.ok).c1
  have ky2 : ∀ x : Kept w4, x.wd.cell? ⟨w3.heap.size, 2, none⟩ = some (.int .i64 ((d + 1))) := fun x => (Y4.out.keep x.ok).c2
  go_wp2
  refine wp_region_kept (by kernel_rfl) (by kernel_rfl) ?_
  repeat (go_big_quiet_step (first
    | (go_at_call 17; exact kept_same _ (HL.out _ (HT.out _)))))
  refine wpQuiet_nil ?_
  intro w5 hx
  obtain ⟨⟨xx, hb⟩, hw⟩ := hx
  replace hw : w5 = xx := hw
  subst xx
  clear kx0 kx1 kx2 ky0 ky1 ky2
  have A5 := Lib.hid (down A4.out hb)
  have X5 := Lib.hid (X4.out.keep hb)
  have FX5 := Lib.hid (FX4.out.keep X4.out.lt hb)
  have Y5 := Lib.hid (Y4.out.keep hb)
  clear hb A4 X4 Y4 FX4 x4_0 x4_1 x4_2 x4_z x4_f0 x4_f1 x4_f2 y4_0 y4_1 y4_2 y4_z
  obtain ⟨x5_0, x5_1, x5_2, x5_z⟩ := X5.out
  obtain ⟨x5_f0, x5_f1, x5_f2⟩ := FX5.out
  obtain ⟨y5_0, y5_1, y5_2, y5_z⟩ := Y5.out
  obtain ⟨w6, hw6⟩ : ∃ w' : World, w5.setCell ⟨w2.heap.size, 2, none⟩ (.int .i64 (d + 1)) = w' := ⟨_, rfl⟩
  have A6 : Hid (Below w.heap.size w w6) := by rw [← hw6]; exact A5.out.setCell le_X.out _
  have X6 : Hid (Box w6 (w2.heap.size) (.int .i64 (y)) (.int .i64 (m)) (.int .i64 (d + 1))) := by rw [← hw6]; exact X5.out.put2 _
  have FX6 : Hid (Free w6 (w2.heap.size)) := by rw [← hw6]; exact FX5.out.set _ _
  have Y6 : Hid (Box w6 (w3.heap.size) (.int .i64 (y)) (.int .i64 (m)) (.int .i64 ((d + 1)))) := by rw [← hw6]; exact Y5.out.far (ne_X_Y.out) _ _
  obtain ⟨x6_0, x6_1, x6_2, x6_z⟩ := X6.out
  obtain ⟨x6_f0, x6_f1, x6_f2⟩ := FX6.out
  obtain ⟨y6_0, y6_1, y6_2, y6_z⟩ := Y6.out
  go_wp2
  go_ret
  exact ⟨rfl, by first | exact A6.out | exact grow A6.out _ | exact below_drewN A6.out _ | exact grow (grow A6.out _) _ | exact grow (grow (grow A6.out _) _) _⟩
set_option maxRecDepth 100000 in
set_option maxHeartbeats 2000000 in
theorem month (n y m d : Int) (h : jvld y m d = true) (he : jdayN y m d = n) (r0 : -719162 ≤ n) (r1 : n < 2932896) (hx : jvld y (m + 1) 1 = true) (hz : jdayN y (m + 1) 1 = n + 1) (kd : decide (d < jlenM y m) = false) (km : decide (m < 12) = true) (w : World) (ht : Tabs w) :
    Calls Tryd.prog 6 #[.int .i64 n] w fun e w' => e = .returned (.bool true) ∧ Below w.heap.size w w' := by
  obtain ⟨y0, y1, m0, m1, d0, d1⟩ := jvld_bd h
  have k1 : decide (n < -719162) = false := decide_eq_false (by omega)
  have k2 : decide (2932896 ≤ n) = false := decide_eq_false (by omega)
  have HX := Lib.hid (fun w => ujdate_yes n y m d h he r0 (by omega) w)
  have HY := Lib.hid (fun w => ujdate_yes (n + 1) y (m + 1) 1 hx hz (by omega) (by omega) w)
  have HL := fun w ht => ujlen y m ⟨by omega, by omega⟩ ⟨by omega, by omega⟩ w ht
  generalize jlenM y m = x at *
  replace HL := Lib.hid HL
  clear h he hx hz
  have AW := Lib.hid (fun w ht => awake_all w ht)
  replace ht := Lib.hid ht
  go_enter Tryd.func6, Tryd.ntmps6
  go_wp2_with fail
  refine (AW.out _ (ht.out.below (here w))).mono ?_
  rintro e w1 ⟨rfl, hb⟩
  have A1 := Lib.hid (down (here w) hb)
  clear hb
  go_wp2_with fail
  refine (HX.out _).mono ?_
  rintro e w2 ⟨rfl, hb⟩
  have A2 := Lib.hid (down A1.out hb)
  clear hb A1
  go_wp2_with fail
  refine (HY.out _).mono ?_
  rintro e w3 ⟨rfl, hb⟩
  have A3 := Lib.hid (down (grow A2.out _) hb)
  have le_X : Hid (w.heap.size ≤ w2.heap.size) := by show _ ≤ _; have := A2.out.size; omega
  have X3 := Lib.hid (Box.new hb)
  have FX3 := Lib.hid (Free.new hb)
  clear hb A2
  obtain ⟨x3_0, x3_1, x3_2, x3_z⟩ := X3.out
  obtain ⟨x3_f0, x3_f1, x3_f2⟩ := FX3.out
  obtain ⟨w4, hw4⟩ : ∃ w' : World, w3.alloc (.cells #[.int .i64 y, .int .i64 (m + 1), .int .i64 1] 23) = w' := ⟨_, rfl⟩
  have hb : Below (w3.alloc (.cells #[.int .i64 y, .int .i64 (m + 1), .int .i64 1] 23)).heap.size (w3.alloc (.cells #[.int .i64 y, .int .i64 (m + 1), .int .i64 1] 23)) w4 := by rw [hw4]; exact here _
  have A4 := Lib.hid (down (grow A3.out _) hb)
  have ne_X_Y : Hid (w2.heap.size ≠ w3.heap.size) := by show _ ≠ _; have := X3.out.lt; omega
  have X4 := Lib.hid ((X3.out.old _).keep hb)
  have FX4 := Lib.hid ((FX3.out.keep X3.out.lt (grow (here _) _)).keep (X3.out.old _).lt hb)
  have Y4 := Lib.hid (Box.new hb)
  clear hb A3 X3 FX3 x3_0 x3_1 x3_2 x3_z x3_f0 x3_f1 x3_f2
  obtain ⟨x4_0, x4_1, x4_2, x4_z⟩ := X4.out
  obtain ⟨x4_f0, x4_f1, x4_f2⟩ := FX4.out
  obtain ⟨y4_0, y4_1, y4_2, y4_z⟩ := Y4.out
  have HT : Hid (∀ x : Kept w4, JLens x.wd) := fun x => (ht.out.below (down A4.out x.ok)).jl
  go_wp2
  clear hw4
  have kx0 : ∀ x : Kept w4, x.wd.cell? ⟨w2.heap.size, 0, none⟩ = some (.int .i64 (y)) := fun x => (X4.out.keep x.ok).c0
  have kx1 : ∀ x : Kept w4, x.wd.cell? ⟨w2.heap.size, 1, none⟩ = some (.int .i64 (m)) := fun x => (X4.out.keep x.ok).c1
  have kx2 : ∀ x : Kept w4, x.wd.cell? ⟨w2.heap.size, 2, none⟩ = some (.int .i64 (d)) := fun x => (X4.out.keep x.ok).c2
  have ky0 : ∀ x : Kept w4, x.wd.cell? ⟨w3.heap.size, 0, none⟩ = some (.int .i64 (y)) := fun x => (Y4.out.keep x.ok).c0
  have ky1 : ∀ x : Kept w4, x.wd.cell? ⟨w3.heap.size, 1, none⟩ = some (.int .i64 ((m + 1))) := fun x => (Y4.out.keep x.ok).c1
  have ky2 : ∀ x : Kept w4, x.wd.cell? ⟨w3.heap.size, 2, none⟩ = some (.int .i64 (1)) := fun x => (Y4.out.keep x.ok).c2
  go_wp2
  refine wp_region_kept (by kernel_rfl) (by kernel_rfl) ?_
  repeat (go_big_quiet_step (first
    | (go_at_call 17; exact kept_same _ (HL.out _ (HT.out _)))))
  refine wpQuiet_nil ?_
  intro w5 hx
  obtain ⟨⟨xx, hb⟩, hw⟩ := hx
  replace hw : w5 = xx := hw
  subst xx
  clear kx0 kx1 kx2 ky0 ky1 ky2
  have A5 := Lib.hid (down A4.out hb)
  have X5 := Lib.hid (X4.out.keep hb)
  have FX5 := Lib.hid (FX4.out.keep X4.out.lt hb)
  have Y5 := Lib.hid (Y4.out.keep hb)
  clear hb A4 X4 Y4 FX4 x4_0 x4_1 x4_2 x4_z x4_f0 x4_f1 x4_f2 y4_0 y4_1 y4_2 y4_z
  obtain ⟨x5_0, x5_1, x5_2, x5_z⟩ := X5.out
  obtain ⟨x5_f0, x5_f1, x5_f2⟩ := FX5.out
  obtain ⟨y5_0, y5_1, y5_2, y5_z⟩ := Y5.out
  obtain ⟨w6, hw6⟩ : ∃ w' : World, w5.setCell ⟨w2.heap.size, 0, none⟩ (.int .i64 (y)) = w' := ⟨_, rfl⟩
  have A6 : Hid (Below w.heap.size w w6) := by rw [← hw6]; exact A5.out.setCell le_X.out _
  have X6 : Hid (Box w6 (w2.heap.size) (.int .i64 (y)) (.int .i64 (m)) (.int .i64 (d))) := by rw [← hw6]; exact X5.out.put0 _
  have FX6 : Hid (Free w6 (w2.heap.size)) := by rw [← hw6]; exact FX5.out.set _ _
  have Y6 : Hid (Box w6 (w3.heap.size) (.int .i64 (y)) (.int .i64 ((m + 1))) (.int .i64 (1))) := by rw [← hw6]; exact Y5.out.far (ne_X_Y.out) _ _
  obtain ⟨x6_0, x6_1, x6_2, x6_z⟩ := X6.out
  obtain ⟨x6_f0, x6_f1, x6_f2⟩ := FX6.out
  obtain ⟨y6_0, y6_1, y6_2, y6_z⟩ := Y6.out
  obtain ⟨w7, hw7⟩ : ∃ w' : World, w6.setCell ⟨w2.heap.size, 1, none⟩ (.int .i64 (m + 1)) = w' := ⟨_, rfl⟩
  have A7 : Hid (Below w.heap.size w w7) := by rw [← hw7]; exact A6.out.setCell le_X.out _
  have X7 : Hid (Box w7 (w2.heap.size) (.int .i64 (y)) (.int .i64 (m + 1)) (.int .i64 (d))) := by rw [← hw7]; exact X6.out.put1 _
  have FX7 : Hid (Free w7 (w2.heap.size)) := by rw [← hw7]; exact FX6.out.set _ _
  have Y7 : Hid (Box w7 (w3.heap.size) (.int .i64 (y)) (.int .i64 ((m + 1))) (.int .i64 (1))) := by rw [← hw7]; exact Y6.out.far (ne_X_Y.out) _ _
  obtain ⟨x7_0, x7_1, x7_2, x7_z⟩ := X7.out
  obtain ⟨x7_f0, x7_f1, x7_f2⟩ := FX7.out
  obtain ⟨y7_0, y7_1, y7_2, y7_z⟩ := Y7.out
  obtain ⟨w8, hw8⟩ : ∃ w' : World, w7.setCell ⟨w2.heap.size, 2, none⟩ (.int .i64 (1)) = w' := ⟨_, rfl⟩
  have A8 : Hid (Below w.heap.size w w8) := by rw [← hw8]; exact A7.out.setCell le_X.out _
  have X8 : Hid (Box w8 (w2.heap.size) (.int .i64 (y)) (.int .i64 (m + 1)) (.int .i64 (1))) := by rw [← hw8]; exact X7.out.put2 _
  have FX8 : Hid (Free w8 (w2.heap.size)) := by rw [← hw8]; exact FX7.out.set _ _
  have Y8 : Hid (Box w8 (w3.heap.size) (.int .i64 (y)) (.int .i64 ((m + 1))) (.int .i64 (1))) := by rw [← hw8]; exact Y7.out.far (ne_X_Y.out) _ _
  obtain ⟨x8_0, x8_1, x8_2, x8_z⟩ := X8.out
  obtain ⟨x8_f0, x8_f1, x8_f2⟩ := FX8.out
  obtain ⟨y8_0, y8_1, y8_2, y8_z⟩ := Y8.out
  go_wp2
  go_ret
  exact ⟨rfl, by first | exact A8.out | exact grow A8.out _ | exact below_drewN A8.out _ | exact grow (grow A8.out _) _ | exact grow (grow (grow A8.out _) _) _⟩
set_option maxRecDepth 100000 in
set_option maxHeartbeats 2000000 in
theorem year (n y m d : Int) (h : jvld y m d = true) (he : jdayN y m d = n) (r0 : -719162 ≤ n) (r1 : n < 2932896) (hx : jvld (y + 1) 1 1 = true) (hz : jdayN (y + 1) 1 1 = n + 1) (kd : decide (d < jlenM y m) = false) (km : decide (m < 12) = false) (w : World) (ht : Tabs w) :
    Calls Tryd.prog 6 #[.int .i64 n] w fun e w' => e = .returned (.bool true) ∧ Below w.heap.size w w' := by
  obtain ⟨y0, y1, m0, m1, d0, d1⟩ := jvld_bd h
  have k1 : decide (n < -719162) = false := decide_eq_false (by omega)
  have k2 : decide (2932896 ≤ n) = false := decide_eq_false (by omega)
  have HX := Lib.hid (fun w => ujdate_yes n y m d h he r0 (by omega) w)
  have HY := Lib.hid (fun w => ujdate_yes (n + 1) (y + 1) 1 1 hx hz (by omega) (by omega) w)
  have HL := fun w ht => ujlen y m ⟨by omega, by omega⟩ ⟨by omega, by omega⟩ w ht
  generalize jlenM y m = x at *
  replace HL := Lib.hid HL
  clear h he hx hz
  have AW := Lib.hid (fun w ht => awake_all w ht)
  replace ht := Lib.hid ht
  go_enter Tryd.func6, Tryd.ntmps6
  go_wp2_with fail
  refine (AW.out _ (ht.out.below (here w))).mono ?_
  rintro e w1 ⟨rfl, hb⟩
  have A1 := Lib.hid (down (here w) hb)
  clear hb
  go_wp2_with fail
  refine (HX.out _).mono ?_
  rintro e w2 ⟨rfl, hb⟩
  have A2 := Lib.hid (down A1.out hb)
  clear hb A1
  go_wp2_with fail
  refine (HY.out _).mono ?_
  rintro e w3 ⟨rfl, hb⟩
  have A3 := Lib.hid (down (grow A2.out _) hb)
  have le_X : Hid (w.heap.size ≤ w2.heap.size) := by show _ ≤ _; have := A2.out.size; omega
  have X3 := Lib.hid (Box.new hb)
  have FX3 := Lib.hid (Free.new hb)
  clear hb A2
  obtain ⟨x3_0, x3_1, x3_2, x3_z⟩ := X3.out
  obtain ⟨x3_f0, x3_f1, x3_f2⟩ := FX3.out
  obtain ⟨w4, hw4⟩ : ∃ w' : World, w3.alloc (.cells #[.int .i64 (y + 1), .int .i64 1, .int .i64 1] 23) = w' := ⟨_, rfl⟩
  have hb : Below (w3.alloc (.cells #[.int .i64 (y + 1), .int .i64 1, .int .i64 1] 23)).heap.size (w3.alloc (.cells #[.int .i64 (y + 1), .int .i64 1, .int .i64 1] 23)) w4 := by rw [hw4]; exact here _
  have A4 := Lib.hid (down (grow A3.out _) hb)
  have ne_X_Y : Hid (w2.heap.size ≠ w3.heap.size) := by show _ ≠ _; have := X3.out.lt; omega
  have X4 := Lib.hid ((X3.out.old _).keep hb)
  have FX4 := Lib.hid ((FX3.out.keep X3.out.lt (grow (here _) _)).keep (X3.out.old _).lt hb)
  have Y4 := Lib.hid (Box.new hb)
  clear hb A3 X3 FX3 x3_0 x3_1 x3_2 x3_z x3_f0 x3_f1 x3_f2
  obtain ⟨x4_0, x4_1, x4_2, x4_z⟩ := X4.out
  obtain ⟨x4_f0, x4_f1, x4_f2⟩ := FX4.out
  obtain ⟨y4_0, y4_1, y4_2, y4_z⟩ := Y4.out
  have HT : Hid (∀ x : Kept w4, JLens x.wd) := fun x => (ht.out.below (down A4.out x.ok)).jl
  go_wp2
  clear hw4
  have kx0 : ∀ x : Kept w4, x.wd.cell? ⟨w2.heap.size, 0, none⟩ = some (.int .i64 (y)) := fun x => (X4.out.keep x.ok).c0
  have kx1 : ∀ x : Kept w4, x.wd.cell? ⟨w2.heap.size, 1, none⟩ = some (.int .i64 (m)) := fun x => (X4.out.keep x.ok).c1
  have kx2 : ∀ x : Kept w4, x.wd.cell? ⟨w2.heap.size, 2, none⟩ = some (.int .i64 (d)) := fun x => (X4.out.keep x.ok).c2
  have ky0 : ∀ x : Kept w4, x.wd.cell? ⟨w3.heap.size, 0, none⟩ = some (.int .i64 ((y + 1))) := fun x => (Y4.out.keep x.ok).c0
  have ky1 : ∀ x : Kept w4, x.wd.cell? ⟨w3.heap.size, 1, none⟩ = some (.int .i64 (1)) := fun x => (Y4.out.keep x.ok).c1
  have ky2 : ∀ x : Kept w4, x.wd.cell? ⟨w3.heap.size, 2, none⟩ = some (.int .i64 (1)) := fun x => (Y4.out.keep x.ok).c2
  go_wp2
  refine wp_region_kept (by kernel_rfl) (by kernel_rfl) ?_
  repeat (go_big_quiet_step (first
    | (go_at_call 17; exact kept_same _ (HL.out _ (HT.out _)))))
  refine wpQuiet_nil ?_
  intro w5 hx
  obtain ⟨⟨xx, hb⟩, hw⟩ := hx
  replace hw : w5 = xx := hw
  subst xx
  clear kx0 kx1 kx2 ky0 ky1 ky2
  have A5 := Lib.hid (down A4.out hb)
  have X5 := Lib.hid (X4.out.keep hb)
  have FX5 := Lib.hid (FX4.out.keep X4.out.lt hb)
  have Y5 := Lib.hid (Y4.out.keep hb)
  clear hb A4 X4 Y4 FX4 x4_0 x4_1 x4_2 x4_z x4_f0 x4_f1 x4_f2 y4_0 y4_1 y4_2 y4_z
  obtain ⟨x5_0, x5_1, x5_2, x5_z⟩ := X5.out
  obtain ⟨x5_f0, x5_f1, x5_f2⟩ := FX5.out
  obtain ⟨y5_0, y5_1, y5_2, y5_z⟩ := Y5.out
  obtain ⟨w6, hw6⟩ : ∃ w' : World, w5.setCell ⟨w2.heap.size, 0, none⟩ (.int .i64 (y + 1)) = w' := ⟨_, rfl⟩
  have A6 : Hid (Below w.heap.size w w6) := by rw [← hw6]; exact A5.out.setCell le_X.out _
  have X6 : Hid (Box w6 (w2.heap.size) (.int .i64 (y + 1)) (.int .i64 (m)) (.int .i64 (d))) := by rw [← hw6]; exact X5.out.put0 _
  have FX6 : Hid (Free w6 (w2.heap.size)) := by rw [← hw6]; exact FX5.out.set _ _
  have Y6 : Hid (Box w6 (w3.heap.size) (.int .i64 ((y + 1))) (.int .i64 (1)) (.int .i64 (1))) := by rw [← hw6]; exact Y5.out.far (ne_X_Y.out) _ _
  obtain ⟨x6_0, x6_1, x6_2, x6_z⟩ := X6.out
  obtain ⟨x6_f0, x6_f1, x6_f2⟩ := FX6.out
  obtain ⟨y6_0, y6_1, y6_2, y6_z⟩ := Y6.out
  obtain ⟨w7, hw7⟩ : ∃ w' : World, w6.setCell ⟨w2.heap.size, 1, none⟩ (.int .i64 (1)) = w' := ⟨_, rfl⟩
  have A7 : Hid (Below w.heap.size w w7) := by rw [← hw7]; exact A6.out.setCell le_X.out _
  have X7 : Hid (Box w7 (w2.heap.size) (.int .i64 (y + 1)) (.int .i64 (1)) (.int .i64 (d))) := by rw [← hw7]; exact X6.out.put1 _
  have FX7 : Hid (Free w7 (w2.heap.size)) := by rw [← hw7]; exact FX6.out.set _ _
  have Y7 : Hid (Box w7 (w3.heap.size) (.int .i64 ((y + 1))) (.int .i64 (1)) (.int .i64 (1))) := by rw [← hw7]; exact Y6.out.far (ne_X_Y.out) _ _
  obtain ⟨x7_0, x7_1, x7_2, x7_z⟩ := X7.out
  obtain ⟨x7_f0, x7_f1, x7_f2⟩ := FX7.out
  obtain ⟨y7_0, y7_1, y7_2, y7_z⟩ := Y7.out
  obtain ⟨w8, hw8⟩ : ∃ w' : World, w7.setCell ⟨w2.heap.size, 2, none⟩ (.int .i64 (1)) = w' := ⟨_, rfl⟩
  have A8 : Hid (Below w.heap.size w w8) := by rw [← hw8]; exact A7.out.setCell le_X.out _
  have X8 : Hid (Box w8 (w2.heap.size) (.int .i64 (y + 1)) (.int .i64 (1)) (.int .i64 (1))) := by rw [← hw8]; exact X7.out.put2 _
  have FX8 : Hid (Free w8 (w2.heap.size)) := by rw [← hw8]; exact FX7.out.set _ _
  have Y8 : Hid (Box w8 (w3.heap.size) (.int .i64 ((y + 1))) (.int .i64 (1)) (.int .i64 (1))) := by rw [← hw8]; exact Y7.out.far (ne_X_Y.out) _ _
  obtain ⟨x8_0, x8_1, x8_2, x8_z⟩ := X8.out
  obtain ⟨x8_f0, x8_f1, x8_f2⟩ := FX8.out
  obtain ⟨y8_0, y8_1, y8_2, y8_z⟩ := Y8.out
  go_wp2
  go_ret
  exact ⟨rfl, by first | exact A8.out | exact grow A8.out _ | exact below_drewN A8.out _ | exact grow (grow A8.out _) _ | exact grow (grow (grow A8.out _) _) _⟩
theorem walk (n : Int) (hn : (Lit.int .i64 n).wf = true) (w : World) (ht : Tabs w) :
    Calls Tryd.prog 6 #[.int .i64 n] w fun e w' => e = .returned (.bool true) ∧ Below w.heap.size w w' := by
  replace hn := i64_wf hn
  by_cases h0 : n < -719162
  · exact low n hn h0 w ht
  · by_cases h1 : 2932896 ≤ n
    · exact high n hn h1 w ht
    · obtain ⟨y, m, d, h, he⟩ := jdate_of (n := n) (by omega) (by omega)
      have v := jvld_iff.1 h
      by_cases k : d < jlenM y m
      · have q := jnext_in h k
        exact inner n y m d h he (by omega) (by omega) q.1 (by rw [q.2, he]) (decide_eq_true k) w ht
      · by_cases km : m < 12
        · have q := jnext_month h (by omega) km
          exact month n y m d h he (by omega) (by omega) q.1 (by rw [q.2, he]) (decide_eq_false k) (decide_eq_true km) w ht
        · have b := jvld_bd h
          have yl : y < 9999 := by
            rcases Int.lt_or_le y 9999 with z | z
            · exact z
            · have a := jday_in h
              obtain rfl : y = 9999 := by omega
              obtain rfl : m = 12 := by omega
              have c : jcum 9999 12 = 334 := by decide
              have f : jfirst 9999 = 2932605 := by decide
              have g : jlenM 9999 12 = 31 := by decide
              omega
          have q := jnext_year h (by omega) (by omega) yl
          exact year n y m d h he (by omega) (by omega) q.1 (by rw [q.2, he]) (decide_eq_false k) (decide_eq_false km) w ht
end JulianSteps
end Go.Proofs.YtdhmmfdpfpecmaaDoor

/- The walk of IslamicBack: the Go text returns true, at every input. -/
import Derived.Test.YtobipbmigpkhmaaDoorIsLawB
namespace Go.Proofs.YtobipbmigpkhmaaDoor
open Go.RowKit
set_option linter.unusedVariables false

namespace IslamicBack
set_option maxRecDepth 100000 in
set_option maxHeartbeats 2000000 in
theorem go_no_no (k n y m d : Int) (N E1 : Int) (kE : (E1 == 0) = false) (H1 : ∀ w, Tabs w → Calls Tryd.prog 23 #[.int .i64 k, .agg #[.int .i64 y, .int .i64 m, .int .i64 d]] w fun e w' => e = .returned (.tuple #[.int .i64 N, .int .i64 E1]) ∧ Below w.heap.size w w') (E2 : Int) (kE2 : (E2 != 0) = true) (H3 : ∀ w, Tabs w → Calls Tryd.prog 25 #[.int .i64 k, .int .i64 n] w fun e w' => e = .returned (.tuple #[.agg #[.int .i64 0, .int .i64 0, .int .i64 0], .int .i64 E2]) ∧ Below w.heap.size w w') (w : World) (ht : Tabs w) :
    Calls Tryd.prog 7 #[.int .i64 k, .agg #[.int .i64 y, .int .i64 m, .int .i64 d], .int .i64 n] w fun e w' => e = .returned (.bool true) ∧ Below w.heap.size w w' := by
  have AW := Lib.hid (fun w ht => awake_all w ht)
  replace ht := Lib.hid ht
  replace H1 := Lib.hid H1
  replace H3 := Lib.hid H3
  go_enter Tryd.func7, Tryd.ntmps7
  go_wp2_with fail
  refine (AW.out _ (ht.out.below (grow (here w) _))).mono ?_
  rintro e w1 ⟨rfl, hb⟩
  have A1 := Lib.hid (down (grow (here w) _) hb)
  have D1 := Lib.hid (Box.new hb)
  clear hb
  obtain ⟨d1_0, d1_1, d1_2, d1_z⟩ := D1.out
  go_wp2_with fail
  refine (H1.out _ (ht.out.below A1.out)).mono ?_
  rintro e w2 ⟨rfl, hb⟩
  have A2 := Lib.hid (down A1.out hb)
  have D2 := Lib.hid (D1.out.keep hb)
  clear hb A1 D1 d1_0 d1_1 d1_2 d1_z
  obtain ⟨d2_0, d2_1, d2_2, d2_z⟩ := D2.out
  go_wp2_with fail
  refine (H3.out _ (ht.out.below A2.out)).mono ?_
  rintro e w3 ⟨rfl, hb⟩
  have A3 := Lib.hid (down A2.out hb)
  have D3 := Lib.hid (D2.out.keep hb)
  clear hb A2 D2 d2_0 d2_1 d2_2 d2_z
  obtain ⟨d3_0, d3_1, d3_2, d3_z⟩ := D3.out
  go_wp2
  go_ret
  exact ⟨rfl, by first | exact A3.out | exact grow A3.out _ | exact below_drewN A3.out _ | exact grow (grow A3.out _) _ | exact grow (grow (grow A3.out _) _) _⟩
set_option maxRecDepth 100000 in
set_option maxHeartbeats 2000000 in
theorem go_no_last (k n y m d : Int) (N E1 : Int) (kE : (E1 == 0) = false) (H1 : ∀ w, Tabs w → Calls Tryd.prog 23 #[.int .i64 k, .agg #[.int .i64 y, .int .i64 m, .int .i64 d]] w fun e w' => e = .returned (.tuple #[.int .i64 N, .int .i64 E1]) ∧ Below w.heap.size w w') (L : Int) (c0 : 1 ≤ L) (l1 : L ≤ 30) (n0 : -492148 ≤ n) (n1 : n ≤ 2909771) (H3 : ∀ w, Tabs w → Calls Tryd.prog 25 #[.int .i64 k, .int .i64 n] w fun e w' => e = .returned (.tuple #[.agg #[.int .i64 9600, .int .i64 12, .int .i64 L], .int .i64 0]) ∧ Below w.heap.size w w') (H4 : ∀ w, Tabs w → Calls Tryd.prog 23 #[.int .i64 k, .agg #[.int .i64 9600, .int .i64 12, .int .i64 L]] w fun e w' => e = .returned (.tuple #[.int .i64 n, .int .i64 0]) ∧ Below w.heap.size w w') (H5 : ∀ w, Tabs w → Calls Tryd.prog 17 #[.int .i64 k, .int .i64 9600, .int .i64 12] w fun e w' => e = .returned (.int .i64 L) ∧ Below w.heap.size w w') (E4 : Int) (kE4 : (E4 != 0) = true) (H6 : ∀ w, Tabs w → Calls Tryd.prog 25 #[.int .i64 k, .int .i64 (n + 1)] w fun e w' => e = .returned (.tuple #[.agg #[.int .i64 0, .int .i64 0, .int .i64 0], .int .i64 E4]) ∧ Below w.heap.size w w') (w : World) (ht : Tabs w) :
    Calls Tryd.prog 7 #[.int .i64 k, .agg #[.int .i64 y, .int .i64 m, .int .i64 d], .int .i64 n] w fun e w' => e = .returned (.bool true) ∧ Below w.heap.size w w' := by
  have u3 : decide (L < L) = false := decide_eq_false (by omega)
  have u4 : decide (L < 1) = false := decide_eq_false (by omega)
  have AW := Lib.hid (fun w ht => awake_all w ht)
  replace ht := Lib.hid ht
  replace H1 := Lib.hid H1
  replace H3 := Lib.hid H3
  replace H4 := Lib.hid H4
  replace H5 := Lib.hid H5
  replace H6 := Lib.hid H6
  go_enter Tryd.func7, Tryd.ntmps7
  go_wp2_with fail
  refine (AW.out _ (ht.out.below (grow (here w) _))).mono ?_
  rintro e w1 ⟨rfl, hb⟩
  have A1 := Lib.hid (down (grow (here w) _) hb)
  have D1 := Lib.hid (Box.new hb)
  clear hb
  obtain ⟨d1_0, d1_1, d1_2, d1_z⟩ := D1.out
  go_wp2_with fail
  refine (H1.out _ (ht.out.below A1.out)).mono ?_
  rintro e w2 ⟨rfl, hb⟩
  have A2 := Lib.hid (down A1.out hb)
  have D2 := Lib.hid (D1.out.keep hb)
  clear hb A1 D1 d1_0 d1_1 d1_2 d1_z
  obtain ⟨d2_0, d2_1, d2_2, d2_z⟩ := D2.out
  go_wp2_with fail
  refine (H3.out _ (ht.out.below A2.out)).mono ?_
  rintro e w3 ⟨rfl, hb⟩
  have A3 := Lib.hid (down A2.out hb)
  have D3 := Lib.hid (D2.out.keep hb)
  clear hb A2 D2 d2_0 d2_1 d2_2 d2_z
  obtain ⟨d3_0, d3_1, d3_2, d3_z⟩ := D3.out
  go_wp2_with fail
  refine (H4.out _ (ht.out.below (grow A3.out _))).mono ?_
  rintro e w4 ⟨rfl, hb⟩
  have A4 := Lib.hid (down (grow A3.out _) hb)
  have D4 := Lib.hid ((D3.out.old _).keep hb)
  have Z4 := Lib.hid (Box.new hb)
  clear hb A3 D3 d3_0 d3_1 d3_2 d3_z
  obtain ⟨d4_0, d4_1, d4_2, d4_z⟩ := D4.out
  obtain ⟨z4_0, z4_1, z4_2, z4_z⟩ := Z4.out
  have HT : Hid (∀ x : Kept w4, Tabs x.wd) := fun x => ht.out.below (down A4.out x.ok)
  have kd0 : ∀ x : Kept w4, x.wd.cell? ⟨w.heap.size, 0, none⟩ = some (.int .i64 (y)) := fun x => (D4.out.keep x.ok).c0
  have kd1 : ∀ x : Kept w4, x.wd.cell? ⟨w.heap.size, 1, none⟩ = some (.int .i64 (m)) := fun x => (D4.out.keep x.ok).c1
  have kd2 : ∀ x : Kept w4, x.wd.cell? ⟨w.heap.size, 2, none⟩ = some (.int .i64 (d)) := fun x => (D4.out.keep x.ok).c2
  have kz0 : ∀ x : Kept w4, x.wd.cell? ⟨w3.heap.size, 0, none⟩ = some (.int .i64 (9600)) := fun x => (Z4.out.keep x.ok).c0
  have kz1 : ∀ x : Kept w4, x.wd.cell? ⟨w3.heap.size, 1, none⟩ = some (.int .i64 (12)) := fun x => (Z4.out.keep x.ok).c1
  have kz2 : ∀ x : Kept w4, x.wd.cell? ⟨w3.heap.size, 2, none⟩ = some (.int .i64 (L)) := fun x => (Z4.out.keep x.ok).c2
  go_wp2
  refine wp_region_kept (by kernel_rfl) (by kernel_rfl) ?_
  repeat (go_big_quiet_step (first
    | (go_at_call 17; exact kept_call _ (H5.out _ (HT.out _)))))
  refine wpQuiet_nil ?_
  intro w5 hx
  obtain ⟨⟨xx, hb⟩, hw⟩ := hx
  replace hw : w5 = xx := hw
  subst xx
  clear kd0 kd1 kd2 kz0 kz1 kz2
  have A5 := Lib.hid (down A4.out hb)
  have D5 := Lib.hid (D4.out.keep hb)
  have Z5 := Lib.hid (Z4.out.keep hb)
  clear hb A4 D4 Z4 d4_0 d4_1 d4_2 d4_z z4_0 z4_1 z4_2 z4_z
  obtain ⟨d5_0, d5_1, d5_2, d5_z⟩ := D5.out
  obtain ⟨z5_0, z5_1, z5_2, z5_z⟩ := Z5.out
  clear HT
  go_wp2_with fail
  refine (H6.out _ (ht.out.below A5.out)).mono ?_
  rintro e w6 ⟨rfl, hb⟩
  have A6 := Lib.hid (down A5.out hb)
  have D6 := Lib.hid (D5.out.keep hb)
  have Z6 := Lib.hid (Z5.out.keep hb)
  clear hb A5 D5 Z5 d5_0 d5_1 d5_2 d5_z z5_0 z5_1 z5_2 z5_z
  obtain ⟨d6_0, d6_1, d6_2, d6_z⟩ := D6.out
  obtain ⟨z6_0, z6_1, z6_2, z6_z⟩ := Z6.out
  go_wp2
  obtain ⟨w7, hw7⟩ : ∃ w' : World, (w6.alloc (.cells #[.int .i64 (0), .int .i64 (0), .int .i64 (0)] 29)) = w' := ⟨_, rfl⟩
  rw [hw7]
  have hb : Below (w6.alloc (.cells #[.int .i64 (0), .int .i64 (0), .int .i64 (0)] 29)).heap.size (w6.alloc (.cells #[.int .i64 (0), .int .i64 (0), .int .i64 (0)] 29)) w7 := by rw [hw7]; exact here _
  clear hw7
  have A7 := Lib.hid (down (grow A6.out _) hb)
  have D7 := Lib.hid ((D6.out.old _).keep hb)
  have Z7 := Lib.hid ((Z6.out.old _).keep hb)
  have Q7 := Lib.hid (Box.new hb)
  clear hb A6 D6 Z6 d6_0 d6_1 d6_2 d6_z z6_0 z6_1 z6_2 z6_z
  obtain ⟨d7_0, d7_1, d7_2, d7_z⟩ := D7.out
  obtain ⟨z7_0, z7_1, z7_2, z7_z⟩ := Z7.out
  obtain ⟨q7_0, q7_1, q7_2, q7_z⟩ := Q7.out
  have HT : Hid (∀ x : Kept w7, Tabs x.wd) := fun x => ht.out.below (down A7.out x.ok)
  have kd0 : ∀ x : Kept w7, x.wd.cell? ⟨w.heap.size, 0, none⟩ = some (.int .i64 (y)) := fun x => (D7.out.keep x.ok).c0
  have kd1 : ∀ x : Kept w7, x.wd.cell? ⟨w.heap.size, 1, none⟩ = some (.int .i64 (m)) := fun x => (D7.out.keep x.ok).c1
  have kd2 : ∀ x : Kept w7, x.wd.cell? ⟨w.heap.size, 2, none⟩ = some (.int .i64 (d)) := fun x => (D7.out.keep x.ok).c2
  have kz0 : ∀ x : Kept w7, x.wd.cell? ⟨w3.heap.size, 0, none⟩ = some (.int .i64 (9600)) := fun x => (Z7.out.keep x.ok).c0
  have kz1 : ∀ x : Kept w7, x.wd.cell? ⟨w3.heap.size, 1, none⟩ = some (.int .i64 (12)) := fun x => (Z7.out.keep x.ok).c1
  have kz2 : ∀ x : Kept w7, x.wd.cell? ⟨w3.heap.size, 2, none⟩ = some (.int .i64 (L)) := fun x => (Z7.out.keep x.ok).c2
  have kq0 : ∀ x : Kept w7, x.wd.cell? ⟨w6.heap.size, 0, none⟩ = some (.int .i64 (0)) := fun x => (Q7.out.keep x.ok).c0
  have kq1 : ∀ x : Kept w7, x.wd.cell? ⟨w6.heap.size, 1, none⟩ = some (.int .i64 (0)) := fun x => (Q7.out.keep x.ok).c1
  have kq2 : ∀ x : Kept w7, x.wd.cell? ⟨w6.heap.size, 2, none⟩ = some (.int .i64 (0)) := fun x => (Q7.out.keep x.ok).c2
  refine wp_region_kept (by kernel_rfl) (by kernel_rfl) ?_
  repeat (go_big_quiet_step (first
    | (go_at_call 17; exact kept_call _ (H5.out _ (HT.out _)))))
  refine wpQuiet_nil ?_
  intro w8 hx
  obtain ⟨⟨xx, hb⟩, hw⟩ := hx
  replace hw : w8 = xx := hw
  subst xx
  clear kd0 kd1 kd2 kz0 kz1 kz2 kq0 kq1 kq2
  have A8 := Lib.hid (down A7.out hb)
  have D8 := Lib.hid (D7.out.keep hb)
  have Z8 := Lib.hid (Z7.out.keep hb)
  have Q8 := Lib.hid (Q7.out.keep hb)
  clear hb A7 D7 Z7 Q7 d7_0 d7_1 d7_2 d7_z z7_0 z7_1 z7_2 z7_z q7_0 q7_1 q7_2 q7_z
  obtain ⟨d8_0, d8_1, d8_2, d8_z⟩ := D8.out
  obtain ⟨z8_0, z8_1, z8_2, z8_z⟩ := Z8.out
  obtain ⟨q8_0, q8_1, q8_2, q8_z⟩ := Q8.out
  go_wp2
  go_ret
  exact ⟨rfl, by first | exact A8.out | exact grow A8.out _ | exact below_drewN A8.out _ | exact grow (grow A8.out _) _ | exact grow (grow (grow A8.out _) _) _⟩
set_option maxRecDepth 100000 in
set_option maxHeartbeats 2000000 in
theorem go_no_inner (k n y m d : Int) (N E1 : Int) (kE : (E1 == 0) = false) (H1 : ∀ w, Tabs w → Calls Tryd.prog 23 #[.int .i64 k, .agg #[.int .i64 y, .int .i64 m, .int .i64 d]] w fun e w' => e = .returned (.tuple #[.int .i64 N, .int .i64 E1]) ∧ Below w.heap.size w w') (a b c L : Int) (a0 : 1 ≤ a) (a1 : a ≤ 9600) (b0 : 1 ≤ b) (b1 : b ≤ 12) (c0 : 1 ≤ c) (c1 : c ≤ L) (l1 : L ≤ 30) (n0 : -492148 ≤ n) (n1 : n ≤ 2909771) (H3 : ∀ w, Tabs w → Calls Tryd.prog 25 #[.int .i64 k, .int .i64 n] w fun e w' => e = .returned (.tuple #[.agg #[.int .i64 a, .int .i64 b, .int .i64 c], .int .i64 0]) ∧ Below w.heap.size w w') (H4 : ∀ w, Tabs w → Calls Tryd.prog 23 #[.int .i64 k, .agg #[.int .i64 a, .int .i64 b, .int .i64 c]] w fun e w' => e = .returned (.tuple #[.int .i64 n, .int .i64 0]) ∧ Below w.heap.size w w') (H5 : ∀ w, Tabs w → Calls Tryd.prog 17 #[.int .i64 k, .int .i64 a, .int .i64 b] w fun e w' => e = .returned (.int .i64 L) ∧ Below w.heap.size w w') (u : c + 1 ≤ L) (H6 : ∀ w, Tabs w → Calls Tryd.prog 25 #[.int .i64 k, .int .i64 (n + 1)] w fun e w' => e = .returned (.tuple #[.agg #[.int .i64 a, .int .i64 b, .int .i64 (c + 1)], .int .i64 0]) ∧ Below w.heap.size w w') (w : World) (ht : Tabs w) :
    Calls Tryd.prog 7 #[.int .i64 k, .agg #[.int .i64 y, .int .i64 m, .int .i64 d], .int .i64 n] w fun e w' => e = .returned (.bool true) ∧ Below w.heap.size w w' := by
  have u1 : decide (L < c + 1) = false := decide_eq_false (by omega)
  have u2 : decide (12 < b) = false := decide_eq_false (by omega)
  have u3 : decide (L < c) = false := decide_eq_false (by omega)
  have u4 : decide (c < 1) = false := decide_eq_false (by omega)
  have AW := Lib.hid (fun w ht => awake_all w ht)
  replace ht := Lib.hid ht
  replace H1 := Lib.hid H1
  replace H3 := Lib.hid H3
  replace H4 := Lib.hid H4
  replace H5 := Lib.hid H5
  replace H6 := Lib.hid H6
  go_enter Tryd.func7, Tryd.ntmps7
  go_wp2_with fail
  refine (AW.out _ (ht.out.below (grow (here w) _))).mono ?_
  rintro e w1 ⟨rfl, hb⟩
  have A1 := Lib.hid (down (grow (here w) _) hb)
  have D1 := Lib.hid (Box.new hb)
  clear hb
  obtain ⟨d1_0, d1_1, d1_2, d1_z⟩ := D1.out
  go_wp2_with fail
  refine (H1.out _ (ht.out.below A1.out)).mono ?_
  rintro e w2 ⟨rfl, hb⟩
  have A2 := Lib.hid (down A1.out hb)
  have D2 := Lib.hid (D1.out.keep hb)
  clear hb A1 D1 d1_0 d1_1 d1_2 d1_z
  obtain ⟨d2_0, d2_1, d2_2, d2_z⟩ := D2.out
  go_wp2_with fail
  refine (H3.out _ (ht.out.below A2.out)).mono ?_
  rintro e w3 ⟨rfl, hb⟩
  have A3 := Lib.hid (down A2.out hb)
  have D3 := Lib.hid (D2.out.keep hb)
  clear hb A2 D2 d2_0 d2_1 d2_2 d2_z
  obtain ⟨d3_0, d3_1, d3_2, d3_z⟩ := D3.out
  go_wp2_with fail
  refine (H4.out _ (ht.out.below (grow A3.out _))).mono ?_
  rintro e w4 ⟨rfl, hb⟩
  have A4 := Lib.hid (down (grow A3.out _) hb)
  have D4 := Lib.hid ((D3.out.old _).keep hb)
  have Z4 := Lib.hid (Box.new hb)
  clear hb A3 D3 d3_0 d3_1 d3_2 d3_z
  obtain ⟨d4_0, d4_1, d4_2, d4_z⟩ := D4.out
  obtain ⟨z4_0, z4_1, z4_2, z4_z⟩ := Z4.out
  have HT : Hid (∀ x : Kept w4, Tabs x.wd) := fun x => ht.out.below (down A4.out x.ok)
  have kd0 : ∀ x : Kept w4, x.wd.cell? ⟨w.heap.size, 0, none⟩ = some (.int .i64 (y)) := fun x => (D4.out.keep x.ok).c0
  have kd1 : ∀ x : Kept w4, x.wd.cell? ⟨w.heap.size, 1, none⟩ = some (.int .i64 (m)) := fun x => (D4.out.keep x.ok).c1
  have kd2 : ∀ x : Kept w4, x.wd.cell? ⟨w.heap.size, 2, none⟩ = some (.int .i64 (d)) := fun x => (D4.out.keep x.ok).c2
  have kz0 : ∀ x : Kept w4, x.wd.cell? ⟨w3.heap.size, 0, none⟩ = some (.int .i64 (a)) := fun x => (Z4.out.keep x.ok).c0
  have kz1 : ∀ x : Kept w4, x.wd.cell? ⟨w3.heap.size, 1, none⟩ = some (.int .i64 (b)) := fun x => (Z4.out.keep x.ok).c1
  have kz2 : ∀ x : Kept w4, x.wd.cell? ⟨w3.heap.size, 2, none⟩ = some (.int .i64 (c)) := fun x => (Z4.out.keep x.ok).c2
  go_wp2
  refine wp_region_kept (by kernel_rfl) (by kernel_rfl) ?_
  repeat (go_big_quiet_step (first
    | (go_at_call 17; exact kept_call _ (H5.out _ (HT.out _)))))
  refine wpQuiet_nil ?_
  intro w5 hx
  obtain ⟨⟨xx, hb⟩, hw⟩ := hx
  replace hw : w5 = xx := hw
  subst xx
  clear kd0 kd1 kd2 kz0 kz1 kz2
  have A5 := Lib.hid (down A4.out hb)
  have D5 := Lib.hid (D4.out.keep hb)
  have Z5 := Lib.hid (Z4.out.keep hb)
  clear hb A4 D4 Z4 d4_0 d4_1 d4_2 d4_z z4_0 z4_1 z4_2 z4_z
  obtain ⟨d5_0, d5_1, d5_2, d5_z⟩ := D5.out
  obtain ⟨z5_0, z5_1, z5_2, z5_z⟩ := Z5.out
  clear HT
  go_wp2_with fail
  refine (H6.out _ (ht.out.below A5.out)).mono ?_
  rintro e w6 ⟨rfl, hb⟩
  have A6 := Lib.hid (down A5.out hb)
  have D6 := Lib.hid (D5.out.keep hb)
  have Z6 := Lib.hid (Z5.out.keep hb)
  clear hb A5 D5 Z5 d5_0 d5_1 d5_2 d5_z z5_0 z5_1 z5_2 z5_z
  obtain ⟨d6_0, d6_1, d6_2, d6_z⟩ := D6.out
  obtain ⟨z6_0, z6_1, z6_2, z6_z⟩ := Z6.out
  go_wp2
  obtain ⟨w7, hw7⟩ : ∃ w' : World, ((w6.alloc (.cells #[.int .i64 (a), .int .i64 (b), .int .i64 ((c + 1))] 29)).alloc (.cells #[.int .i64 (a), .int .i64 (b), .int .i64 (c + 1)] 29)) = w' := ⟨_, rfl⟩
  rw [hw7]
  have hb : Below ((w6.alloc (.cells #[.int .i64 (a), .int .i64 (b), .int .i64 ((c + 1))] 29)).alloc (.cells #[.int .i64 (a), .int .i64 (b), .int .i64 (c + 1)] 29)).heap.size ((w6.alloc (.cells #[.int .i64 (a), .int .i64 (b), .int .i64 ((c + 1))] 29)).alloc (.cells #[.int .i64 (a), .int .i64 (b), .int .i64 (c + 1)] 29)) w7 := by rw [hw7]; exact here _
  clear hw7
  have A7 := Lib.hid (down (grow (grow A6.out _) _) hb)
  have le_V : Hid (w.heap.size ≤ w6.heap.size + 1) := by show _ ≤ _; have := A6.out.size; omega
  have ne_Q_V : Hid (w6.heap.size ≠ w6.heap.size + 1) := by show _ ≠ _; omega
  have ne_D_V : Hid (w.heap.size ≠ w6.heap.size + 1) := by show _ ≠ _; have := D6.out.lt; omega
  have D7 := Lib.hid (((D6.out.old _).old _).keep hb)
  have ne_Z_V : Hid (w3.heap.size ≠ w6.heap.size + 1) := by show _ ≠ _; have := Z6.out.lt; omega
  have Z7 := Lib.hid (((Z6.out.old _).old _).keep hb)
  have Q7 := Lib.hid (Box.fst hb)
  have V7 := Lib.hid (Box.snd hb)
  have FV7 := Lib.hid (Free.snd hb)
  clear hb A6 D6 Z6 d6_0 d6_1 d6_2 d6_z z6_0 z6_1 z6_2 z6_z
  obtain ⟨d7_0, d7_1, d7_2, d7_z⟩ := D7.out
  obtain ⟨z7_0, z7_1, z7_2, z7_z⟩ := Z7.out
  obtain ⟨q7_0, q7_1, q7_2, q7_z⟩ := Q7.out
  obtain ⟨v7_0, v7_1, v7_2, v7_z⟩ := V7.out
  obtain ⟨v7_f0, v7_f1, v7_f2⟩ := FV7.out
  have HT : Hid (∀ x : Kept w7, Tabs x.wd) := fun x => ht.out.below (down A7.out x.ok)
  have kd0 : ∀ x : Kept w7, x.wd.cell? ⟨w.heap.size, 0, none⟩ = some (.int .i64 (y)) := fun x => (D7.out.keep x.ok).c0
  have kd1 : ∀ x : Kept w7, x.wd.cell? ⟨w.heap.size, 1, none⟩ = some (.int .i64 (m)) := fun x => (D7.out.keep x.ok).c1
  have kd2 : ∀ x : Kept w7, x.wd.cell? ⟨w.heap.size, 2, none⟩ = some (.int .i64 (d)) := fun x => (D7.out.keep x.ok).c2
  have kz0 : ∀ x : Kept w7, x.wd.cell? ⟨w3.heap.size, 0, none⟩ = some (.int .i64 (a)) := fun x => (Z7.out.keep x.ok).c0
  have kz1 : ∀ x : Kept w7, x.wd.cell? ⟨w3.heap.size, 1, none⟩ = some (.int .i64 (b)) := fun x => (Z7.out.keep x.ok).c1
  have kz2 : ∀ x : Kept w7, x.wd.cell? ⟨w3.heap.size, 2, none⟩ = some (.int .i64 (c)) := fun x => (Z7.out.keep x.ok).c2
  have kq0 : ∀ x : Kept w7, x.wd.cell? ⟨w6.heap.size, 0, none⟩ = some (.int .i64 (a)) := fun x => (Q7.out.keep x.ok).c0
  have kq1 : ∀ x : Kept w7, x.wd.cell? ⟨w6.heap.size, 1, none⟩ = some (.int .i64 (b)) := fun x => (Q7.out.keep x.ok).c1
  have kq2 : ∀ x : Kept w7, x.wd.cell? ⟨w6.heap.size, 2, none⟩ = some (.int .i64 ((c + 1))) := fun x => (Q7.out.keep x.ok).c2
  have kv0 : ∀ x : Kept w7, x.wd.cell? ⟨w6.heap.size + 1, 0, none⟩ = some (.int .i64 (a)) := fun x => (V7.out.keep x.ok).c0
  have kv1 : ∀ x : Kept w7, x.wd.cell? ⟨w6.heap.size + 1, 1, none⟩ = some (.int .i64 (b)) := fun x => (V7.out.keep x.ok).c1
  have kv2 : ∀ x : Kept w7, x.wd.cell? ⟨w6.heap.size + 1, 2, none⟩ = some (.int .i64 (c + 1)) := fun x => (V7.out.keep x.ok).c2
  refine wp_region_kept (by kernel_rfl) (by kernel_rfl) ?_
  repeat (go_big_quiet_step (first
    | (go_at_call 17; exact kept_call _ (H5.out _ (HT.out _)))))
  refine wpQuiet_nil ?_
  intro w8 hx
  obtain ⟨⟨xx, hb⟩, hw⟩ := hx
  replace hw : w8 = xx := hw
  subst xx
  clear kd0 kd1 kd2 kz0 kz1 kz2 kq0 kq1 kq2 kv0 kv1 kv2
  have A8 := Lib.hid (down A7.out hb)
  have D8 := Lib.hid (D7.out.keep hb)
  have Z8 := Lib.hid (Z7.out.keep hb)
  have Q8 := Lib.hid (Q7.out.keep hb)
  have V8 := Lib.hid (V7.out.keep hb)
  have FV8 := Lib.hid (FV7.out.keep V7.out.lt hb)
  clear hb A7 D7 Z7 Q7 V7 FV7 d7_0 d7_1 d7_2 d7_z z7_0 z7_1 z7_2 z7_z q7_0 q7_1 q7_2 q7_z v7_0 v7_1 v7_2 v7_z v7_f0 v7_f1 v7_f2
  obtain ⟨d8_0, d8_1, d8_2, d8_z⟩ := D8.out
  obtain ⟨z8_0, z8_1, z8_2, z8_z⟩ := Z8.out
  obtain ⟨q8_0, q8_1, q8_2, q8_z⟩ := Q8.out
  obtain ⟨v8_0, v8_1, v8_2, v8_z⟩ := V8.out
  obtain ⟨v8_f0, v8_f1, v8_f2⟩ := FV8.out
  go_wp2
  go_ret
  exact ⟨rfl, by first | exact A8.out | exact grow A8.out _ | exact below_drewN A8.out _ | exact grow (grow A8.out _) _ | exact grow (grow (grow A8.out _) _) _⟩
set_option maxRecDepth 100000 in
set_option maxHeartbeats 2000000 in
theorem go_no_month (k n y m d : Int) (N E1 : Int) (kE : (E1 == 0) = false) (H1 : ∀ w, Tabs w → Calls Tryd.prog 23 #[.int .i64 k, .agg #[.int .i64 y, .int .i64 m, .int .i64 d]] w fun e w' => e = .returned (.tuple #[.int .i64 N, .int .i64 E1]) ∧ Below w.heap.size w w') (a b c L : Int) (a0 : 1 ≤ a) (a1 : a ≤ 9600) (b0 : 1 ≤ b) (b1 : b ≤ 12) (c0 : 1 ≤ c) (c1 : c ≤ L) (l1 : L ≤ 30) (n0 : -492148 ≤ n) (n1 : n ≤ 2909771) (H3 : ∀ w, Tabs w → Calls Tryd.prog 25 #[.int .i64 k, .int .i64 n] w fun e w' => e = .returned (.tuple #[.agg #[.int .i64 a, .int .i64 b, .int .i64 c], .int .i64 0]) ∧ Below w.heap.size w w') (H4 : ∀ w, Tabs w → Calls Tryd.prog 23 #[.int .i64 k, .agg #[.int .i64 a, .int .i64 b, .int .i64 c]] w fun e w' => e = .returned (.tuple #[.int .i64 n, .int .i64 0]) ∧ Below w.heap.size w w') (H5 : ∀ w, Tabs w → Calls Tryd.prog 17 #[.int .i64 k, .int .i64 a, .int .i64 b] w fun e w' => e = .returned (.int .i64 L) ∧ Below w.heap.size w w') (u : c = L) (v : b + 1 ≤ 12) (H6 : ∀ w, Tabs w → Calls Tryd.prog 25 #[.int .i64 k, .int .i64 (n + 1)] w fun e w' => e = .returned (.tuple #[.agg #[.int .i64 a, .int .i64 (b + 1), .int .i64 1], .int .i64 0]) ∧ Below w.heap.size w w') (w : World) (ht : Tabs w) :
    Calls Tryd.prog 7 #[.int .i64 k, .agg #[.int .i64 y, .int .i64 m, .int .i64 d], .int .i64 n] w fun e w' => e = .returned (.bool true) ∧ Below w.heap.size w w' := by
  have u1 : decide (L < c + 1) = true := decide_eq_true (by omega)
  have u2 : decide (12 < b + 1) = false := decide_eq_false (by omega)
  have u3 : decide (L < c) = false := decide_eq_false (by omega)
  clear u
  have u4 : decide (c < 1) = false := decide_eq_false (by omega)
  have AW := Lib.hid (fun w ht => awake_all w ht)
  replace ht := Lib.hid ht
  replace H1 := Lib.hid H1
  replace H3 := Lib.hid H3
  replace H4 := Lib.hid H4
  replace H5 := Lib.hid H5
  replace H6 := Lib.hid H6
  go_enter Tryd.func7, Tryd.ntmps7
  go_wp2_with fail
  refine (AW.out _ (ht.out.below (grow (here w) _))).mono ?_
  rintro e w1 ⟨rfl, hb⟩
  have A1 := Lib.hid (down (grow (here w) _) hb)
  have D1 := Lib.hid (Box.new hb)
  clear hb
  obtain ⟨d1_0, d1_1, d1_2, d1_z⟩ := D1.out
  go_wp2_with fail
  refine (H1.out _ (ht.out.below A1.out)).mono ?_
  rintro e w2 ⟨rfl, hb⟩
  have A2 := Lib.hid (down A1.out hb)
  have D2 := Lib.hid (D1.out.keep hb)
  clear hb A1 D1 d1_0 d1_1 d1_2 d1_z
  obtain ⟨d2_0, d2_1, d2_2, d2_z⟩ := D2.out
  go_wp2_with fail
  refine (H3.out _ (ht.out.below A2.out)).mono ?_
  rintro e w3 ⟨rfl, hb⟩
  have A3 := Lib.hid (down A2.out hb)
  have D3 := Lib.hid (D2.out.keep hb)
  clear hb A2 D2 d2_0 d2_1 d2_2 d2_z
  obtain ⟨d3_0, d3_1, d3_2, d3_z⟩ := D3.out
  go_wp2_with fail
  refine (H4.out _ (ht.out.below (grow A3.out _))).mono ?_
  rintro e w4 ⟨rfl, hb⟩
  have A4 := Lib.hid (down (grow A3.out _) hb)
  have D4 := Lib.hid ((D3.out.old _).keep hb)
  have Z4 := Lib.hid (Box.new hb)
  clear hb A3 D3 d3_0 d3_1 d3_2 d3_z
  obtain ⟨d4_0, d4_1, d4_2, d4_z⟩ := D4.out
  obtain ⟨z4_0, z4_1, z4_2, z4_z⟩ := Z4.out
  have HT : Hid (∀ x : Kept w4, Tabs x.wd) := fun x => ht.out.below (down A4.out x.ok)
  have kd0 : ∀ x : Kept w4, x.wd.cell? ⟨w.heap.size, 0, none⟩ = some (.int .i64 (y)) := fun x => (D4.out.keep x.ok).c0
  have kd1 : ∀ x : Kept w4, x.wd.cell? ⟨w.heap.size, 1, none⟩ = some (.int .i64 (m)) := fun x => (D4.out.keep x.ok).c1
  have kd2 : ∀ x : Kept w4, x.wd.cell? ⟨w.heap.size, 2, none⟩ = some (.int .i64 (d)) := fun x => (D4.out.keep x.ok).c2
  have kz0 : ∀ x : Kept w4, x.wd.cell? ⟨w3.heap.size, 0, none⟩ = some (.int .i64 (a)) := fun x => (Z4.out.keep x.ok).c0
  have kz1 : ∀ x : Kept w4, x.wd.cell? ⟨w3.heap.size, 1, none⟩ = some (.int .i64 (b)) := fun x => (Z4.out.keep x.ok).c1
  have kz2 : ∀ x : Kept w4, x.wd.cell? ⟨w3.heap.size, 2, none⟩ = some (.int .i64 (c)) := fun x => (Z4.out.keep x.ok).c2
  go_wp2
  refine wp_region_kept (by kernel_rfl) (by kernel_rfl) ?_
  repeat (go_big_quiet_step (first
    | (go_at_call 17; exact kept_call _ (H5.out _ (HT.out _)))))
  refine wpQuiet_nil ?_
  intro w5 hx
  obtain ⟨⟨xx, hb⟩, hw⟩ := hx
  replace hw : w5 = xx := hw
  subst xx
  clear kd0 kd1 kd2 kz0 kz1 kz2
  have A5 := Lib.hid (down A4.out hb)
  have D5 := Lib.hid (D4.out.keep hb)
  have Z5 := Lib.hid (Z4.out.keep hb)
  clear hb A4 D4 Z4 d4_0 d4_1 d4_2 d4_z z4_0 z4_1 z4_2 z4_z
  obtain ⟨d5_0, d5_1, d5_2, d5_z⟩ := D5.out
  obtain ⟨z5_0, z5_1, z5_2, z5_z⟩ := Z5.out
  clear HT
  go_wp2_with fail
  refine (H6.out _ (ht.out.below A5.out)).mono ?_
  rintro e w6 ⟨rfl, hb⟩
  have A6 := Lib.hid (down A5.out hb)
  have D6 := Lib.hid (D5.out.keep hb)
  have Z6 := Lib.hid (Z5.out.keep hb)
  clear hb A5 D5 Z5 d5_0 d5_1 d5_2 d5_z z5_0 z5_1 z5_2 z5_z
  obtain ⟨d6_0, d6_1, d6_2, d6_z⟩ := D6.out
  obtain ⟨z6_0, z6_1, z6_2, z6_z⟩ := Z6.out
  go_wp2
  obtain ⟨w7, hw7⟩ : ∃ w' : World, ((w6.alloc (.cells #[.int .i64 (a), .int .i64 ((b + 1)), .int .i64 (1)] 29)).alloc (.cells #[.int .i64 (a), .int .i64 (b), .int .i64 (c + 1)] 29)) = w' := ⟨_, rfl⟩
  rw [hw7]
  have hb : Below ((w6.alloc (.cells #[.int .i64 (a), .int .i64 ((b + 1)), .int .i64 (1)] 29)).alloc (.cells #[.int .i64 (a), .int .i64 (b), .int .i64 (c + 1)] 29)).heap.size ((w6.alloc (.cells #[.int .i64 (a), .int .i64 ((b + 1)), .int .i64 (1)] 29)).alloc (.cells #[.int .i64 (a), .int .i64 (b), .int .i64 (c + 1)] 29)) w7 := by rw [hw7]; exact here _
  clear hw7
  have A7 := Lib.hid (down (grow (grow A6.out _) _) hb)
  have le_V : Hid (w.heap.size ≤ w6.heap.size + 1) := by show _ ≤ _; have := A6.out.size; omega
  have ne_Q_V : Hid (w6.heap.size ≠ w6.heap.size + 1) := by show _ ≠ _; omega
  have ne_D_V : Hid (w.heap.size ≠ w6.heap.size + 1) := by show _ ≠ _; have := D6.out.lt; omega
  have D7 := Lib.hid (((D6.out.old _).old _).keep hb)
  have ne_Z_V : Hid (w3.heap.size ≠ w6.heap.size + 1) := by show _ ≠ _; have := Z6.out.lt; omega
  have Z7 := Lib.hid (((Z6.out.old _).old _).keep hb)
  have Q7 := Lib.hid (Box.fst hb)
  have V7 := Lib.hid (Box.snd hb)
  have FV7 := Lib.hid (Free.snd hb)
  clear hb A6 D6 Z6 d6_0 d6_1 d6_2 d6_z z6_0 z6_1 z6_2 z6_z
  obtain ⟨d7_0, d7_1, d7_2, d7_z⟩ := D7.out
  obtain ⟨z7_0, z7_1, z7_2, z7_z⟩ := Z7.out
  obtain ⟨q7_0, q7_1, q7_2, q7_z⟩ := Q7.out
  obtain ⟨v7_0, v7_1, v7_2, v7_z⟩ := V7.out
  obtain ⟨v7_f0, v7_f1, v7_f2⟩ := FV7.out
  have HT : Hid (∀ x : Kept w7, Tabs x.wd) := fun x => ht.out.below (down A7.out x.ok)
  have kd0 : ∀ x : Kept w7, x.wd.cell? ⟨w.heap.size, 0, none⟩ = some (.int .i64 (y)) := fun x => (D7.out.keep x.ok).c0
  have kd1 : ∀ x : Kept w7, x.wd.cell? ⟨w.heap.size, 1, none⟩ = some (.int .i64 (m)) := fun x => (D7.out.keep x.ok).c1
  have kd2 : ∀ x : Kept w7, x.wd.cell? ⟨w.heap.size, 2, none⟩ = some (.int .i64 (d)) := fun x => (D7.out.keep x.ok).c2
  have kz0 : ∀ x : Kept w7, x.wd.cell? ⟨w3.heap.size, 0, none⟩ = some (.int .i64 (a)) := fun x => (Z7.out.keep x.ok).c0
  have kz1 : ∀ x : Kept w7, x.wd.cell? ⟨w3.heap.size, 1, none⟩ = some (.int .i64 (b)) := fun x => (Z7.out.keep x.ok).c1
  have kz2 : ∀ x : Kept w7, x.wd.cell? ⟨w3.heap.size, 2, none⟩ = some (.int .i64 (c)) := fun x => (Z7.out.keep x.ok).c2
  have kq0 : ∀ x : Kept w7, x.wd.cell? ⟨w6.heap.size, 0, none⟩ = some (.int .i64 (a)) := fun x => (Q7.out.keep x.ok).c0
  have kq1 : ∀ x : Kept w7, x.wd.cell? ⟨w6.heap.size, 1, none⟩ = some (.int .i64 ((b + 1))) := fun x => (Q7.out.keep x.ok).c1
  have kq2 : ∀ x : Kept w7, x.wd.cell? ⟨w6.heap.size, 2, none⟩ = some (.int .i64 (1)) := fun x => (Q7.out.keep x.ok).c2
  have kv0 : ∀ x : Kept w7, x.wd.cell? ⟨w6.heap.size + 1, 0, none⟩ = some (.int .i64 (a)) := fun x => (V7.out.keep x.ok).c0
  have kv1 : ∀ x : Kept w7, x.wd.cell? ⟨w6.heap.size + 1, 1, none⟩ = some (.int .i64 (b)) := fun x => (V7.out.keep x.ok).c1
  have kv2 : ∀ x : Kept w7, x.wd.cell? ⟨w6.heap.size + 1, 2, none⟩ = some (.int .i64 (c + 1)) := fun x => (V7.out.keep x.ok).c2
  refine wp_region_kept (by kernel_rfl) (by kernel_rfl) ?_
  repeat (go_big_quiet_step (first
    | (go_at_call 17; exact kept_call _ (H5.out _ (HT.out _)))))
  refine wpQuiet_nil ?_
  intro w8 hx
  obtain ⟨⟨xx, hb⟩, hw⟩ := hx
  replace hw : w8 = xx := hw
  subst xx
  clear kd0 kd1 kd2 kz0 kz1 kz2 kq0 kq1 kq2 kv0 kv1 kv2
  have A8 := Lib.hid (down A7.out hb)
  have D8 := Lib.hid (D7.out.keep hb)
  have Z8 := Lib.hid (Z7.out.keep hb)
  have Q8 := Lib.hid (Q7.out.keep hb)
  have V8 := Lib.hid (V7.out.keep hb)
  have FV8 := Lib.hid (FV7.out.keep V7.out.lt hb)
  clear hb A7 D7 Z7 Q7 V7 FV7 d7_0 d7_1 d7_2 d7_z z7_0 z7_1 z7_2 z7_z q7_0 q7_1 q7_2 q7_z v7_0 v7_1 v7_2 v7_z v7_f0 v7_f1 v7_f2
  obtain ⟨d8_0, d8_1, d8_2, d8_z⟩ := D8.out
  obtain ⟨z8_0, z8_1, z8_2, z8_z⟩ := Z8.out
  obtain ⟨q8_0, q8_1, q8_2, q8_z⟩ := Q8.out
  obtain ⟨v8_0, v8_1, v8_2, v8_z⟩ := V8.out
  obtain ⟨v8_f0, v8_f1, v8_f2⟩ := FV8.out
  go_wp2
  go_region
  obtain ⟨w9, hw9⟩ : ∃ w' : World, w8.setCell ⟨w6.heap.size + 1, 2, none⟩ (.int .i64 (1)) = w' := ⟨_, rfl⟩
  have A9 : Hid (Below w.heap.size w w9) := by rw [← hw9]; exact A8.out.setCell le_V.out _
  have D9 : Hid (Box w9 (w.heap.size) (.int .i64 (y)) (.int .i64 (m)) (.int .i64 (d))) := by rw [← hw9]; exact D8.out.far (ne_D_V.out.symm) _ _
  have Z9 : Hid (Box w9 (w3.heap.size) (.int .i64 (a)) (.int .i64 (b)) (.int .i64 (c))) := by rw [← hw9]; exact Z8.out.far (ne_Z_V.out.symm) _ _
  have Q9 : Hid (Box w9 (w6.heap.size) (.int .i64 (a)) (.int .i64 ((b + 1))) (.int .i64 (1))) := by rw [← hw9]; exact Q8.out.far (ne_Q_V.out.symm) _ _
  have V9 : Hid (Box w9 (w6.heap.size + 1) (.int .i64 (a)) (.int .i64 (b)) (.int .i64 (1))) := by rw [← hw9]; exact V8.out.put2 _
  have FV9 : Hid (Free w9 (w6.heap.size + 1)) := by rw [← hw9]; exact FV8.out.set _ _
  obtain ⟨w10, hw10⟩ : ∃ w' : World, w9.setCell ⟨w6.heap.size + 1, 1, none⟩ (.int .i64 (b + 1)) = w' := ⟨_, rfl⟩
  have A10 : Hid (Below w.heap.size w w10) := by rw [← hw10]; exact A9.out.setCell le_V.out _
  have D10 : Hid (Box w10 (w.heap.size) (.int .i64 (y)) (.int .i64 (m)) (.int .i64 (d))) := by rw [← hw10]; exact D9.out.far (ne_D_V.out.symm) _ _
  have Z10 : Hid (Box w10 (w3.heap.size) (.int .i64 (a)) (.int .i64 (b)) (.int .i64 (c))) := by rw [← hw10]; exact Z9.out.far (ne_Z_V.out.symm) _ _
  have Q10 : Hid (Box w10 (w6.heap.size) (.int .i64 (a)) (.int .i64 ((b + 1))) (.int .i64 (1))) := by rw [← hw10]; exact Q9.out.far (ne_Q_V.out.symm) _ _
  have V10 : Hid (Box w10 (w6.heap.size + 1) (.int .i64 (a)) (.int .i64 (b + 1)) (.int .i64 (1))) := by rw [← hw10]; exact V9.out.put1 _
  have FV10 : Hid (Free w10 (w6.heap.size + 1)) := by rw [← hw10]; exact FV9.out.set _ _
  obtain ⟨w11, hw11⟩ : ∃ w' : World, w10.drew = w' := ⟨_, rfl⟩
  have A11 : Hid (Below w.heap.size w w11) := by rw [← hw11]; exact A10.out.drew
  have D11 : Hid (Box w11 (w.heap.size) (.int .i64 (y)) (.int .i64 (m)) (.int .i64 (d))) := by rw [← hw11]; exact D10.out.drew
  have Z11 : Hid (Box w11 (w3.heap.size) (.int .i64 (a)) (.int .i64 (b)) (.int .i64 (c))) := by rw [← hw11]; exact Z10.out.drew
  have Q11 : Hid (Box w11 (w6.heap.size) (.int .i64 (a)) (.int .i64 ((b + 1))) (.int .i64 (1))) := by rw [← hw11]; exact Q10.out.drew
  have V11 : Hid (Box w11 (w6.heap.size + 1) (.int .i64 (a)) (.int .i64 (b + 1)) (.int .i64 (1))) := by rw [← hw11]; exact V10.out.drew
  have FV11 : Hid (Free w11 (w6.heap.size + 1)) := by rw [← hw11]; exact FV10.out.drewN 1
  rw [hw9, hw10, hw11]
  clear d8_0 d8_1 d8_2 d8_z z8_0 z8_1 z8_2 z8_z q8_0 q8_1 q8_2 q8_z v8_0 v8_1 v8_2 v8_z v8_f0 v8_f1 v8_f2
  obtain ⟨d11_0, d11_1, d11_2, d11_z⟩ := D11.out
  obtain ⟨z11_0, z11_1, z11_2, z11_z⟩ := Z11.out
  obtain ⟨q11_0, q11_1, q11_2, q11_z⟩ := Q11.out
  obtain ⟨v11_0, v11_1, v11_2, v11_z⟩ := V11.out
  obtain ⟨v11_f0, v11_f1, v11_f2⟩ := FV11.out
  clear hw9 hw10 hw11
  go_wp2
  go_ret
  exact ⟨rfl, by first | exact A11.out | exact grow A11.out _ | exact below_drewN A11.out _ | exact grow (grow A11.out _) _ | exact grow (grow (grow A11.out _) _) _⟩
set_option maxRecDepth 100000 in
set_option maxHeartbeats 2000000 in
theorem go_no_year (k n y m d : Int) (N E1 : Int) (kE : (E1 == 0) = false) (H1 : ∀ w, Tabs w → Calls Tryd.prog 23 #[.int .i64 k, .agg #[.int .i64 y, .int .i64 m, .int .i64 d]] w fun e w' => e = .returned (.tuple #[.int .i64 N, .int .i64 E1]) ∧ Below w.heap.size w w') (a b c L : Int) (a0 : 1 ≤ a) (a1 : a ≤ 9600) (b0 : 1 ≤ b) (b1 : b ≤ 12) (c0 : 1 ≤ c) (c1 : c ≤ L) (l1 : L ≤ 30) (n0 : -492148 ≤ n) (n1 : n ≤ 2909771) (H3 : ∀ w, Tabs w → Calls Tryd.prog 25 #[.int .i64 k, .int .i64 n] w fun e w' => e = .returned (.tuple #[.agg #[.int .i64 a, .int .i64 b, .int .i64 c], .int .i64 0]) ∧ Below w.heap.size w w') (H4 : ∀ w, Tabs w → Calls Tryd.prog 23 #[.int .i64 k, .agg #[.int .i64 a, .int .i64 b, .int .i64 c]] w fun e w' => e = .returned (.tuple #[.int .i64 n, .int .i64 0]) ∧ Below w.heap.size w w') (H5 : ∀ w, Tabs w → Calls Tryd.prog 17 #[.int .i64 k, .int .i64 a, .int .i64 b] w fun e w' => e = .returned (.int .i64 L) ∧ Below w.heap.size w w') (u : c = L) (v : b = 12) (H6 : ∀ w, Tabs w → Calls Tryd.prog 25 #[.int .i64 k, .int .i64 (n + 1)] w fun e w' => e = .returned (.tuple #[.agg #[.int .i64 (a + 1), .int .i64 1, .int .i64 1], .int .i64 0]) ∧ Below w.heap.size w w') (w : World) (ht : Tabs w) :
    Calls Tryd.prog 7 #[.int .i64 k, .agg #[.int .i64 y, .int .i64 m, .int .i64 d], .int .i64 n] w fun e w' => e = .returned (.bool true) ∧ Below w.heap.size w w' := by
  subst v
  have u1 : decide (L < c + 1) = true := decide_eq_true (by omega)
  have u3 : decide (L < c) = false := decide_eq_false (by omega)
  clear u
  have u4 : decide (c < 1) = false := decide_eq_false (by omega)
  have AW := Lib.hid (fun w ht => awake_all w ht)
  replace ht := Lib.hid ht
  replace H1 := Lib.hid H1
  replace H3 := Lib.hid H3
  replace H4 := Lib.hid H4
  replace H5 := Lib.hid H5
  replace H6 := Lib.hid H6
  go_enter Tryd.func7, Tryd.ntmps7
  go_wp2_with fail
  refine (AW.out _ (ht.out.below (grow (here w) _))).mono ?_
  rintro e w1 ⟨rfl, hb⟩
  have A1 := Lib.hid (down (grow (here w) _) hb)
  have D1 := Lib.hid (Box.new hb)
  clear hb
  obtain ⟨d1_0, d1_1, d1_2, d1_z⟩ := D1.out
  go_wp2_with fail
  refine (H1.out _ (ht.out.below A1.out)).mono ?_
  rintro e w2 ⟨rfl, hb⟩
  have A2 := Lib.hid (down A1.out hb)
  have D2 := Lib.hid (D1.out.keep hb)
  clear hb A1 D1 d1_0 d1_1 d1_2 d1_z
  obtain ⟨d2_0, d2_1, d2_2, d2_z⟩ := D2.out
  go_wp2_with fail
  refine (H3.out _ (ht.out.below A2.out)).mono ?_
  rintro e w3 ⟨rfl, hb⟩
  have A3 := Lib.hid (down A2.out hb)
  have D3 := Lib.hid (D2.out.keep hb)
  clear hb A2 D2 d2_0 d2_1 d2_2 d2_z
  obtain ⟨d3_0, d3_1, d3_2, d3_z⟩ := D3.out
  go_wp2_with fail
  refine (H4.out _ (ht.out.below (grow A3.out _))).mono ?_
  rintro e w4 ⟨rfl, hb⟩
  have A4 := Lib.hid (down (grow A3.out _) hb)
  have D4 := Lib.hid ((D3.out.old _).keep hb)
  have Z4 := Lib.hid (Box.new hb)
  clear hb A3 D3 d3_0 d3_1 d3_2 d3_z
  obtain ⟨d4_0, d4_1, d4_2, d4_z⟩ := D4.out
  obtain ⟨z4_0, z4_1, z4_2, z4_z⟩ := Z4.out
  have HT : Hid (∀ x : Kept w4, Tabs x.wd) := fun x => ht.out.below (down A4.out x.ok)
  have kd0 : ∀ x : Kept w4, x.wd.cell? ⟨w.heap.size, 0, none⟩ = some (.int .i64 (y)) := fun x => (D4.out.keep x.ok).c0
  have kd1 : ∀ x : Kept w4, x.wd.cell? ⟨w.heap.size, 1, none⟩ = some (.int .i64 (m)) := fun x => (D4.out.keep x.ok).c1
  have kd2 : ∀ x : Kept w4, x.wd.cell? ⟨w.heap.size, 2, none⟩ = some (.int .i64 (d)) := fun x => (D4.out.keep x.ok).c2
  have kz0 : ∀ x : Kept w4, x.wd.cell? ⟨w3.heap.size, 0, none⟩ = some (.int .i64 (a)) := fun x => (Z4.out.keep x.ok).c0
  have kz1 : ∀ x : Kept w4, x.wd.cell? ⟨w3.heap.size, 1, none⟩ = some (.int .i64 (12)) := fun x => (Z4.out.keep x.ok).c1
  have kz2 : ∀ x : Kept w4, x.wd.cell? ⟨w3.heap.size, 2, none⟩ = some (.int .i64 (c)) := fun x => (Z4.out.keep x.ok).c2
  go_wp2
  refine wp_region_kept (by kernel_rfl) (by kernel_rfl) ?_
  repeat (go_big_quiet_step (first
    | (go_at_call 17; exact kept_call _ (H5.out _ (HT.out _)))))
  refine wpQuiet_nil ?_
  intro w5 hx
  obtain ⟨⟨xx, hb⟩, hw⟩ := hx
  replace hw : w5 = xx := hw
  subst xx
  clear kd0 kd1 kd2 kz0 kz1 kz2
  have A5 := Lib.hid (down A4.out hb)
  have D5 := Lib.hid (D4.out.keep hb)
  have Z5 := Lib.hid (Z4.out.keep hb)
  clear hb A4 D4 Z4 d4_0 d4_1 d4_2 d4_z z4_0 z4_1 z4_2 z4_z
  obtain ⟨d5_0, d5_1, d5_2, d5_z⟩ := D5.out
  obtain ⟨z5_0, z5_1, z5_2, z5_z⟩ := Z5.out
  clear HT
  go_wp2_with fail
  refine (H6.out _ (ht.out.below A5.out)).mono ?_
  rintro e w6 ⟨rfl, hb⟩
  have A6 := Lib.hid (down A5.out hb)
  have D6 := Lib.hid (D5.out.keep hb)
  have Z6 := Lib.hid (Z5.out.keep hb)
  clear hb A5 D5 Z5 d5_0 d5_1 d5_2 d5_z z5_0 z5_1 z5_2 z5_z
  obtain ⟨d6_0, d6_1, d6_2, d6_z⟩ := D6.out
  obtain ⟨z6_0, z6_1, z6_2, z6_z⟩ := Z6.out
  go_wp2
  obtain ⟨w7, hw7⟩ : ∃ w' : World, ((w6.alloc (.cells #[.int .i64 ((a + 1)), .int .i64 (1), .int .i64 (1)] 29)).alloc (.cells #[.int .i64 (a), .int .i64 (12), .int .i64 (c + 1)] 29)) = w' := ⟨_, rfl⟩
  rw [hw7]
  have hb : Below ((w6.alloc (.cells #[.int .i64 ((a + 1)), .int .i64 (1), .int .i64 (1)] 29)).alloc (.cells #[.int .i64 (a), .int .i64 (12), .int .i64 (c + 1)] 29)).heap.size ((w6.alloc (.cells #[.int .i64 ((a + 1)), .int .i64 (1), .int .i64 (1)] 29)).alloc (.cells #[.int .i64 (a), .int .i64 (12), .int .i64 (c + 1)] 29)) w7 := by rw [hw7]; exact here _
  clear hw7
  have A7 := Lib.hid (down (grow (grow A6.out _) _) hb)
  have le_V : Hid (w.heap.size ≤ w6.heap.size + 1) := by show _ ≤ _; have := A6.out.size; omega
  have ne_Q_V : Hid (w6.heap.size ≠ w6.heap.size + 1) := by show _ ≠ _; omega
  have ne_D_V : Hid (w.heap.size ≠ w6.heap.size + 1) := by show _ ≠ _; have := D6.out.lt; omega
  have D7 := Lib.hid (((D6.out.old _).old _).keep hb)
  have ne_Z_V : Hid (w3.heap.size ≠ w6.heap.size + 1) := by show _ ≠ _; have := Z6.out.lt; omega
  have Z7 := Lib.hid (((Z6.out.old _).old _).keep hb)
  have Q7 := Lib.hid (Box.fst hb)
  have V7 := Lib.hid (Box.snd hb)
  have FV7 := Lib.hid (Free.snd hb)
  clear hb A6 D6 Z6 d6_0 d6_1 d6_2 d6_z z6_0 z6_1 z6_2 z6_z
  obtain ⟨d7_0, d7_1, d7_2, d7_z⟩ := D7.out
  obtain ⟨z7_0, z7_1, z7_2, z7_z⟩ := Z7.out
  obtain ⟨q7_0, q7_1, q7_2, q7_z⟩ := Q7.out
  obtain ⟨v7_0, v7_1, v7_2, v7_z⟩ := V7.out
  obtain ⟨v7_f0, v7_f1, v7_f2⟩ := FV7.out
  have HT : Hid (∀ x : Kept w7, Tabs x.wd) := fun x => ht.out.below (down A7.out x.ok)
  have kd0 : ∀ x : Kept w7, x.wd.cell? ⟨w.heap.size, 0, none⟩ = some (.int .i64 (y)) := fun x => (D7.out.keep x.ok).c0
  have kd1 : ∀ x : Kept w7, x.wd.cell? ⟨w.heap.size, 1, none⟩ = some (.int .i64 (m)) := fun x => (D7.out.keep x.ok).c1
  have kd2 : ∀ x : Kept w7, x.wd.cell? ⟨w.heap.size, 2, none⟩ = some (.int .i64 (d)) := fun x => (D7.out.keep x.ok).c2
  have kz0 : ∀ x : Kept w7, x.wd.cell? ⟨w3.heap.size, 0, none⟩ = some (.int .i64 (a)) := fun x => (Z7.out.keep x.ok).c0
  have kz1 : ∀ x : Kept w7, x.wd.cell? ⟨w3.heap.size, 1, none⟩ = some (.int .i64 (12)) := fun x => (Z7.out.keep x.ok).c1
  have kz2 : ∀ x : Kept w7, x.wd.cell? ⟨w3.heap.size, 2, none⟩ = some (.int .i64 (c)) := fun x => (Z7.out.keep x.ok).c2
  have kq0 : ∀ x : Kept w7, x.wd.cell? ⟨w6.heap.size, 0, none⟩ = some (.int .i64 ((a + 1))) := fun x => (Q7.out.keep x.ok).c0
  have kq1 : ∀ x : Kept w7, x.wd.cell? ⟨w6.heap.size, 1, none⟩ = some (.int .i64 (1)) := fun x => (Q7.out.keep x.ok).c1
  have kq2 : ∀ x : Kept w7, x.wd.cell? ⟨w6.heap.size, 2, none⟩ = some (.int .i64 (1)) := fun x => (Q7.out.keep x.ok).c2
  have kv0 : ∀ x : Kept w7, x.wd.cell? ⟨w6.heap.size + 1, 0, none⟩ = some (.int .i64 (a)) := fun x => (V7.out.keep x.ok).c0
  have kv1 : ∀ x : Kept w7, x.wd.cell? ⟨w6.heap.size + 1, 1, none⟩ = some (.int .i64 (12)) := fun x => (V7.out.keep x.ok).c1
  have kv2 : ∀ x : Kept w7, x.wd.cell? ⟨w6.heap.size + 1, 2, none⟩ = some (.int .i64 (c + 1)) := fun x => (V7.out.keep x.ok).c2
  refine wp_region_kept (by kernel_rfl) (by kernel_rfl) ?_
  repeat (go_big_quiet_step (first
    | (go_at_call 17; exact kept_call _ (H5.out _ (HT.out _)))))
  refine wpQuiet_nil ?_
  intro w8 hx
  obtain ⟨⟨xx, hb⟩, hw⟩ := hx
  replace hw : w8 = xx := hw
  subst xx
  clear kd0 kd1 kd2 kz0 kz1 kz2 kq0 kq1 kq2 kv0 kv1 kv2
  have A8 := Lib.hid (down A7.out hb)
  have D8 := Lib.hid (D7.out.keep hb)
  have Z8 := Lib.hid (Z7.out.keep hb)
  have Q8 := Lib.hid (Q7.out.keep hb)
  have V8 := Lib.hid (V7.out.keep hb)
  have FV8 := Lib.hid (FV7.out.keep V7.out.lt hb)
  clear hb A7 D7 Z7 Q7 V7 FV7 d7_0 d7_1 d7_2 d7_z z7_0 z7_1 z7_2 z7_z q7_0 q7_1 q7_2 q7_z v7_0 v7_1 v7_2 v7_z v7_f0 v7_f1 v7_f2
  obtain ⟨d8_0, d8_1, d8_2, d8_z⟩ := D8.out
  obtain ⟨z8_0, z8_1, z8_2, z8_z⟩ := Z8.out
  obtain ⟨q8_0, q8_1, q8_2, q8_z⟩ := Q8.out
  obtain ⟨v8_0, v8_1, v8_2, v8_z⟩ := V8.out
  obtain ⟨v8_f0, v8_f1, v8_f2⟩ := FV8.out
  go_wp2
  go_region
  obtain ⟨w9, hw9⟩ : ∃ w' : World, w8.setCell ⟨w6.heap.size + 1, 2, none⟩ (.int .i64 (1)) = w' := ⟨_, rfl⟩
  have A9 : Hid (Below w.heap.size w w9) := by rw [← hw9]; exact A8.out.setCell le_V.out _
  have D9 : Hid (Box w9 (w.heap.size) (.int .i64 (y)) (.int .i64 (m)) (.int .i64 (d))) := by rw [← hw9]; exact D8.out.far (ne_D_V.out.symm) _ _
  have Z9 : Hid (Box w9 (w3.heap.size) (.int .i64 (a)) (.int .i64 (12)) (.int .i64 (c))) := by rw [← hw9]; exact Z8.out.far (ne_Z_V.out.symm) _ _
  have Q9 : Hid (Box w9 (w6.heap.size) (.int .i64 ((a + 1))) (.int .i64 (1)) (.int .i64 (1))) := by rw [← hw9]; exact Q8.out.far (ne_Q_V.out.symm) _ _
  have V9 : Hid (Box w9 (w6.heap.size + 1) (.int .i64 (a)) (.int .i64 (12)) (.int .i64 (1))) := by rw [← hw9]; exact V8.out.put2 _
  have FV9 : Hid (Free w9 (w6.heap.size + 1)) := by rw [← hw9]; exact FV8.out.set _ _
  obtain ⟨w10, hw10⟩ : ∃ w' : World, w9.setCell ⟨w6.heap.size + 1, 1, none⟩ (.int .i64 (13)) = w' := ⟨_, rfl⟩
  have A10 : Hid (Below w.heap.size w w10) := by rw [← hw10]; exact A9.out.setCell le_V.out _
  have D10 : Hid (Box w10 (w.heap.size) (.int .i64 (y)) (.int .i64 (m)) (.int .i64 (d))) := by rw [← hw10]; exact D9.out.far (ne_D_V.out.symm) _ _
  have Z10 : Hid (Box w10 (w3.heap.size) (.int .i64 (a)) (.int .i64 (12)) (.int .i64 (c))) := by rw [← hw10]; exact Z9.out.far (ne_Z_V.out.symm) _ _
  have Q10 : Hid (Box w10 (w6.heap.size) (.int .i64 ((a + 1))) (.int .i64 (1)) (.int .i64 (1))) := by rw [← hw10]; exact Q9.out.far (ne_Q_V.out.symm) _ _
  have V10 : Hid (Box w10 (w6.heap.size + 1) (.int .i64 (a)) (.int .i64 (13)) (.int .i64 (1))) := by rw [← hw10]; exact V9.out.put1 _
  have FV10 : Hid (Free w10 (w6.heap.size + 1)) := by rw [← hw10]; exact FV9.out.set _ _
  obtain ⟨w11, hw11⟩ : ∃ w' : World, w10.drew = w' := ⟨_, rfl⟩
  have A11 : Hid (Below w.heap.size w w11) := by rw [← hw11]; exact A10.out.drew
  have D11 : Hid (Box w11 (w.heap.size) (.int .i64 (y)) (.int .i64 (m)) (.int .i64 (d))) := by rw [← hw11]; exact D10.out.drew
  have Z11 : Hid (Box w11 (w3.heap.size) (.int .i64 (a)) (.int .i64 (12)) (.int .i64 (c))) := by rw [← hw11]; exact Z10.out.drew
  have Q11 : Hid (Box w11 (w6.heap.size) (.int .i64 ((a + 1))) (.int .i64 (1)) (.int .i64 (1))) := by rw [← hw11]; exact Q10.out.drew
  have V11 : Hid (Box w11 (w6.heap.size + 1) (.int .i64 (a)) (.int .i64 (13)) (.int .i64 (1))) := by rw [← hw11]; exact V10.out.drew
  have FV11 : Hid (Free w11 (w6.heap.size + 1)) := by rw [← hw11]; exact FV10.out.drewN 1
  rw [hw9, hw10, hw11]
  clear d8_0 d8_1 d8_2 d8_z z8_0 z8_1 z8_2 z8_z q8_0 q8_1 q8_2 q8_z v8_0 v8_1 v8_2 v8_z v8_f0 v8_f1 v8_f2
  obtain ⟨d11_0, d11_1, d11_2, d11_z⟩ := D11.out
  obtain ⟨z11_0, z11_1, z11_2, z11_z⟩ := Z11.out
  obtain ⟨q11_0, q11_1, q11_2, q11_z⟩ := Q11.out
  obtain ⟨v11_0, v11_1, v11_2, v11_z⟩ := V11.out
  obtain ⟨v11_f0, v11_f1, v11_f2⟩ := FV11.out
  clear hw9 hw10 hw11
  go_wp2
  go_region
  obtain ⟨w12, hw12⟩ : ∃ w' : World, w11.setCell ⟨w6.heap.size + 1, 1, none⟩ (.int .i64 (1)) = w' := ⟨_, rfl⟩
  have A12 : Hid (Below w.heap.size w w12) := by rw [← hw12]; exact A11.out.setCell le_V.out _
  have D12 : Hid (Box w12 (w.heap.size) (.int .i64 (y)) (.int .i64 (m)) (.int .i64 (d))) := by rw [← hw12]; exact D11.out.far (ne_D_V.out.symm) _ _
  have Z12 : Hid (Box w12 (w3.heap.size) (.int .i64 (a)) (.int .i64 (12)) (.int .i64 (c))) := by rw [← hw12]; exact Z11.out.far (ne_Z_V.out.symm) _ _
  have Q12 : Hid (Box w12 (w6.heap.size) (.int .i64 ((a + 1))) (.int .i64 (1)) (.int .i64 (1))) := by rw [← hw12]; exact Q11.out.far (ne_Q_V.out.symm) _ _
  have V12 : Hid (Box w12 (w6.heap.size + 1) (.int .i64 (a)) (.int .i64 (1)) (.int .i64 (1))) := by rw [← hw12]; exact V11.out.put1 _
  have FV12 : Hid (Free w12 (w6.heap.size + 1)) := by rw [← hw12]; exact FV11.out.set _ _
  obtain ⟨w13, hw13⟩ : ∃ w' : World, w12.setCell ⟨w6.heap.size + 1, 0, none⟩ (.int .i64 (a + 1)) = w' := ⟨_, rfl⟩
  have A13 : Hid (Below w.heap.size w w13) := by rw [← hw13]; exact A12.out.setCell le_V.out _
  have D13 : Hid (Box w13 (w.heap.size) (.int .i64 (y)) (.int .i64 (m)) (.int .i64 (d))) := by rw [← hw13]; exact D12.out.far (ne_D_V.out.symm) _ _
  have Z13 : Hid (Box w13 (w3.heap.size) (.int .i64 (a)) (.int .i64 (12)) (.int .i64 (c))) := by rw [← hw13]; exact Z12.out.far (ne_Z_V.out.symm) _ _
  have Q13 : Hid (Box w13 (w6.heap.size) (.int .i64 ((a + 1))) (.int .i64 (1)) (.int .i64 (1))) := by rw [← hw13]; exact Q12.out.far (ne_Q_V.out.symm) _ _
  have V13 : Hid (Box w13 (w6.heap.size + 1) (.int .i64 (a + 1)) (.int .i64 (1)) (.int .i64 (1))) := by rw [← hw13]; exact V12.out.put0 _
  have FV13 : Hid (Free w13 (w6.heap.size + 1)) := by rw [← hw13]; exact FV12.out.set _ _
  obtain ⟨w14, hw14⟩ : ∃ w' : World, w13.drew = w' := ⟨_, rfl⟩
  have A14 : Hid (Below w.heap.size w w14) := by rw [← hw14]; exact A13.out.drew
  have D14 : Hid (Box w14 (w.heap.size) (.int .i64 (y)) (.int .i64 (m)) (.int .i64 (d))) := by rw [← hw14]; exact D13.out.drew
  have Z14 : Hid (Box w14 (w3.heap.size) (.int .i64 (a)) (.int .i64 (12)) (.int .i64 (c))) := by rw [← hw14]; exact Z13.out.drew
  have Q14 : Hid (Box w14 (w6.heap.size) (.int .i64 ((a + 1))) (.int .i64 (1)) (.int .i64 (1))) := by rw [← hw14]; exact Q13.out.drew
  have V14 : Hid (Box w14 (w6.heap.size + 1) (.int .i64 (a + 1)) (.int .i64 (1)) (.int .i64 (1))) := by rw [← hw14]; exact V13.out.drew
  have FV14 : Hid (Free w14 (w6.heap.size + 1)) := by rw [← hw14]; exact FV13.out.drewN 1
  rw [hw12, hw13, hw14]
  clear d11_0 d11_1 d11_2 d11_z z11_0 z11_1 z11_2 z11_z q11_0 q11_1 q11_2 q11_z v11_0 v11_1 v11_2 v11_z v11_f0 v11_f1 v11_f2
  obtain ⟨d14_0, d14_1, d14_2, d14_z⟩ := D14.out
  obtain ⟨z14_0, z14_1, z14_2, z14_z⟩ := Z14.out
  obtain ⟨q14_0, q14_1, q14_2, q14_z⟩ := Q14.out
  obtain ⟨v14_0, v14_1, v14_2, v14_z⟩ := V14.out
  obtain ⟨v14_f0, v14_f1, v14_f2⟩ := FV14.out
  clear hw12 hw13 hw14
  go_wp2
  go_ret
  exact ⟨rfl, by first | exact A14.out | exact grow A14.out _ | exact below_drewN A14.out _ | exact grow (grow A14.out _) _ | exact grow (grow (grow A14.out _) _) _⟩
set_option maxRecDepth 100000 in
set_option maxHeartbeats 2000000 in
theorem go_ok_no (k n y m d : Int) (N : Int) (H1 : ∀ w, Tabs w → Calls Tryd.prog 23 #[.int .i64 k, .agg #[.int .i64 y, .int .i64 m, .int .i64 d]] w fun e w' => e = .returned (.tuple #[.int .i64 N, .int .i64 0]) ∧ Below w.heap.size w w') (H2 : ∀ w, Tabs w → Calls Tryd.prog 25 #[.int .i64 k, .int .i64 N] w fun e w' => e = .returned (.tuple #[.agg #[.int .i64 y, .int .i64 m, .int .i64 d], .int .i64 0]) ∧ Below w.heap.size w w') (E2 : Int) (kE2 : (E2 != 0) = true) (H3 : ∀ w, Tabs w → Calls Tryd.prog 25 #[.int .i64 k, .int .i64 n] w fun e w' => e = .returned (.tuple #[.agg #[.int .i64 0, .int .i64 0, .int .i64 0], .int .i64 E2]) ∧ Below w.heap.size w w') (w : World) (ht : Tabs w) :
    Calls Tryd.prog 7 #[.int .i64 k, .agg #[.int .i64 y, .int .i64 m, .int .i64 d], .int .i64 n] w fun e w' => e = .returned (.bool true) ∧ Below w.heap.size w w' := by
  have AW := Lib.hid (fun w ht => awake_all w ht)
  replace ht := Lib.hid ht
  replace H1 := Lib.hid H1
  replace H2 := Lib.hid H2
  replace H3 := Lib.hid H3
  go_enter Tryd.func7, Tryd.ntmps7
  go_wp2_with fail
  refine (AW.out _ (ht.out.below (grow (here w) _))).mono ?_
  rintro e w1 ⟨rfl, hb⟩
  have A1 := Lib.hid (down (grow (here w) _) hb)
  have D1 := Lib.hid (Box.new hb)
  clear hb
  obtain ⟨d1_0, d1_1, d1_2, d1_z⟩ := D1.out
  go_wp2_with fail
  refine (H1.out _ (ht.out.below A1.out)).mono ?_
  rintro e w2 ⟨rfl, hb⟩
  have A2 := Lib.hid (down A1.out hb)
  have D2 := Lib.hid (D1.out.keep hb)
  clear hb A1 D1 d1_0 d1_1 d1_2 d1_z
  obtain ⟨d2_0, d2_1, d2_2, d2_z⟩ := D2.out
  go_wp2_with fail
  refine (H2.out _ (ht.out.below A2.out)).mono ?_
  rintro e w3 ⟨rfl, hb⟩
  have A3 := Lib.hid (down A2.out hb)
  have D3 := Lib.hid (D2.out.keep hb)
  clear hb A2 D2 d2_0 d2_1 d2_2 d2_z
  obtain ⟨d3_0, d3_1, d3_2, d3_z⟩ := D3.out
  go_wp2_with fail
  refine (H3.out _ (ht.out.below (grow A3.out _))).mono ?_
  rintro e w4 ⟨rfl, hb⟩
  have A4 := Lib.hid (down (grow A3.out _) hb)
  have D4 := Lib.hid ((D3.out.old _).keep hb)
  have X4 := Lib.hid (Box.new hb)
  clear hb A3 D3 d3_0 d3_1 d3_2 d3_z
  obtain ⟨d4_0, d4_1, d4_2, d4_z⟩ := D4.out
  obtain ⟨x4_0, x4_1, x4_2, x4_z⟩ := X4.out
  go_wp2
  go_ret
  exact ⟨rfl, by first | exact A4.out | exact grow A4.out _ | exact below_drewN A4.out _ | exact grow (grow A4.out _) _ | exact grow (grow (grow A4.out _) _) _⟩
set_option maxRecDepth 100000 in
set_option maxHeartbeats 2000000 in
theorem go_ok_last (k n y m d : Int) (N : Int) (H1 : ∀ w, Tabs w → Calls Tryd.prog 23 #[.int .i64 k, .agg #[.int .i64 y, .int .i64 m, .int .i64 d]] w fun e w' => e = .returned (.tuple #[.int .i64 N, .int .i64 0]) ∧ Below w.heap.size w w') (H2 : ∀ w, Tabs w → Calls Tryd.prog 25 #[.int .i64 k, .int .i64 N] w fun e w' => e = .returned (.tuple #[.agg #[.int .i64 y, .int .i64 m, .int .i64 d], .int .i64 0]) ∧ Below w.heap.size w w') (L : Int) (c0 : 1 ≤ L) (l1 : L ≤ 30) (n0 : -492148 ≤ n) (n1 : n ≤ 2909771) (H3 : ∀ w, Tabs w → Calls Tryd.prog 25 #[.int .i64 k, .int .i64 n] w fun e w' => e = .returned (.tuple #[.agg #[.int .i64 9600, .int .i64 12, .int .i64 L], .int .i64 0]) ∧ Below w.heap.size w w') (H4 : ∀ w, Tabs w → Calls Tryd.prog 23 #[.int .i64 k, .agg #[.int .i64 9600, .int .i64 12, .int .i64 L]] w fun e w' => e = .returned (.tuple #[.int .i64 n, .int .i64 0]) ∧ Below w.heap.size w w') (H5 : ∀ w, Tabs w → Calls Tryd.prog 17 #[.int .i64 k, .int .i64 9600, .int .i64 12] w fun e w' => e = .returned (.int .i64 L) ∧ Below w.heap.size w w') (E4 : Int) (kE4 : (E4 != 0) = true) (H6 : ∀ w, Tabs w → Calls Tryd.prog 25 #[.int .i64 k, .int .i64 (n + 1)] w fun e w' => e = .returned (.tuple #[.agg #[.int .i64 0, .int .i64 0, .int .i64 0], .int .i64 E4]) ∧ Below w.heap.size w w') (w : World) (ht : Tabs w) :
    Calls Tryd.prog 7 #[.int .i64 k, .agg #[.int .i64 y, .int .i64 m, .int .i64 d], .int .i64 n] w fun e w' => e = .returned (.bool true) ∧ Below w.heap.size w w' := by
  have u3 : decide (L < L) = false := decide_eq_false (by omega)
  have u4 : decide (L < 1) = false := decide_eq_false (by omega)
  have AW := Lib.hid (fun w ht => awake_all w ht)
  replace ht := Lib.hid ht
  replace H1 := Lib.hid H1
  replace H2 := Lib.hid H2
  replace H3 := Lib.hid H3
  replace H4 := Lib.hid H4
  replace H5 := Lib.hid H5
  replace H6 := Lib.hid H6
  go_enter Tryd.func7, Tryd.ntmps7
  go_wp2_with fail
  refine (AW.out _ (ht.out.below (grow (here w) _))).mono ?_
  rintro e w1 ⟨rfl, hb⟩
  have A1 := Lib.hid (down (grow (here w) _) hb)
  have D1 := Lib.hid (Box.new hb)
  clear hb
  obtain ⟨d1_0, d1_1, d1_2, d1_z⟩ := D1.out
  go_wp2_with fail
  refine (H1.out _ (ht.out.below A1.out)).mono ?_
  rintro e w2 ⟨rfl, hb⟩
  have A2 := Lib.hid (down A1.out hb)
  have D2 := Lib.hid (D1.out.keep hb)
  clear hb A1 D1 d1_0 d1_1 d1_2 d1_z
  obtain ⟨d2_0, d2_1, d2_2, d2_z⟩ := D2.out
  go_wp2_with fail
  refine (H2.out _ (ht.out.below A2.out)).mono ?_
  rintro e w3 ⟨rfl, hb⟩
  have A3 := Lib.hid (down A2.out hb)
  have D3 := Lib.hid (D2.out.keep hb)
  clear hb A2 D2 d2_0 d2_1 d2_2 d2_z
  obtain ⟨d3_0, d3_1, d3_2, d3_z⟩ := D3.out
  go_wp2_with fail
  refine (H3.out _ (ht.out.below (grow A3.out _))).mono ?_
  rintro e w4 ⟨rfl, hb⟩
  have A4 := Lib.hid (down (grow A3.out _) hb)
  have D4 := Lib.hid ((D3.out.old _).keep hb)
  have X4 := Lib.hid (Box.new hb)
  clear hb A3 D3 d3_0 d3_1 d3_2 d3_z
  obtain ⟨d4_0, d4_1, d4_2, d4_z⟩ := D4.out
  obtain ⟨x4_0, x4_1, x4_2, x4_z⟩ := X4.out
  go_wp2_with fail
  refine (H4.out _ (ht.out.below (grow A4.out _))).mono ?_
  rintro e w5 ⟨rfl, hb⟩
  have A5 := Lib.hid (down (grow A4.out _) hb)
  have D5 := Lib.hid ((D4.out.old _).keep hb)
  have X5 := Lib.hid ((X4.out.old _).keep hb)
  have Z5 := Lib.hid (Box.new hb)
  clear hb A4 D4 X4 d4_0 d4_1 d4_2 d4_z x4_0 x4_1 x4_2 x4_z
  obtain ⟨d5_0, d5_1, d5_2, d5_z⟩ := D5.out
  obtain ⟨x5_0, x5_1, x5_2, x5_z⟩ := X5.out
  obtain ⟨z5_0, z5_1, z5_2, z5_z⟩ := Z5.out
  have HT : Hid (∀ x : Kept w5, Tabs x.wd) := fun x => ht.out.below (down A5.out x.ok)
  have kd0 : ∀ x : Kept w5, x.wd.cell? ⟨w.heap.size, 0, none⟩ = some (.int .i64 (y)) := fun x => (D5.out.keep x.ok).c0
  have kd1 : ∀ x : Kept w5, x.wd.cell? ⟨w.heap.size, 1, none⟩ = some (.int .i64 (m)) := fun x => (D5.out.keep x.ok).c1
  have kd2 : ∀ x : Kept w5, x.wd.cell? ⟨w.heap.size, 2, none⟩ = some (.int .i64 (d)) := fun x => (D5.out.keep x.ok).c2
  have kx0 : ∀ x : Kept w5, x.wd.cell? ⟨w3.heap.size, 0, none⟩ = some (.int .i64 (y)) := fun x => (X5.out.keep x.ok).c0
  have kx1 : ∀ x : Kept w5, x.wd.cell? ⟨w3.heap.size, 1, none⟩ = some (.int .i64 (m)) := fun x => (X5.out.keep x.ok).c1
  have kx2 : ∀ x : Kept w5, x.wd.cell? ⟨w3.heap.size, 2, none⟩ = some (.int .i64 (d)) := fun x => (X5.out.keep x.ok).c2
  have kz0 : ∀ x : Kept w5, x.wd.cell? ⟨w4.heap.size, 0, none⟩ = some (.int .i64 (9600)) := fun x => (Z5.out.keep x.ok).c0
  have kz1 : ∀ x : Kept w5, x.wd.cell? ⟨w4.heap.size, 1, none⟩ = some (.int .i64 (12)) := fun x => (Z5.out.keep x.ok).c1
  have kz2 : ∀ x : Kept w5, x.wd.cell? ⟨w4.heap.size, 2, none⟩ = some (.int .i64 (L)) := fun x => (Z5.out.keep x.ok).c2
  go_wp2
  refine wp_region_kept (by kernel_rfl) (by kernel_rfl) ?_
  repeat (go_big_quiet_step (first
    | (go_at_call 17; exact kept_call _ (H5.out _ (HT.out _)))))
  refine wpQuiet_nil ?_
  intro w6 hx
  obtain ⟨⟨xx, hb⟩, hw⟩ := hx
  replace hw : w6 = xx := hw
  subst xx
  clear kd0 kd1 kd2 kx0 kx1 kx2 kz0 kz1 kz2
  have A6 := Lib.hid (down A5.out hb)
  have D6 := Lib.hid (D5.out.keep hb)
  have X6 := Lib.hid (X5.out.keep hb)
  have Z6 := Lib.hid (Z5.out.keep hb)
  clear hb A5 D5 X5 Z5 d5_0 d5_1 d5_2 d5_z x5_0 x5_1 x5_2 x5_z z5_0 z5_1 z5_2 z5_z
  obtain ⟨d6_0, d6_1, d6_2, d6_z⟩ := D6.out
  obtain ⟨x6_0, x6_1, x6_2, x6_z⟩ := X6.out
  obtain ⟨z6_0, z6_1, z6_2, z6_z⟩ := Z6.out
  clear HT
  go_wp2_with fail
  refine (H6.out _ (ht.out.below A6.out)).mono ?_
  rintro e w7 ⟨rfl, hb⟩
  have A7 := Lib.hid (down A6.out hb)
  have D7 := Lib.hid (D6.out.keep hb)
  have X7 := Lib.hid (X6.out.keep hb)
  have Z7 := Lib.hid (Z6.out.keep hb)
  clear hb A6 D6 X6 Z6 d6_0 d6_1 d6_2 d6_z x6_0 x6_1 x6_2 x6_z z6_0 z6_1 z6_2 z6_z
  obtain ⟨d7_0, d7_1, d7_2, d7_z⟩ := D7.out
  obtain ⟨x7_0, x7_1, x7_2, x7_z⟩ := X7.out
  obtain ⟨z7_0, z7_1, z7_2, z7_z⟩ := Z7.out
  go_wp2
  obtain ⟨w8, hw8⟩ : ∃ w' : World, (w7.alloc (.cells #[.int .i64 (0), .int .i64 (0), .int .i64 (0)] 29)) = w' := ⟨_, rfl⟩
  rw [hw8]
  have hb : Below (w7.alloc (.cells #[.int .i64 (0), .int .i64 (0), .int .i64 (0)] 29)).heap.size (w7.alloc (.cells #[.int .i64 (0), .int .i64 (0), .int .i64 (0)] 29)) w8 := by rw [hw8]; exact here _
  clear hw8
  have A8 := Lib.hid (down (grow A7.out _) hb)
  have D8 := Lib.hid ((D7.out.old _).keep hb)
  have X8 := Lib.hid ((X7.out.old _).keep hb)
  have Z8 := Lib.hid ((Z7.out.old _).keep hb)
  have Q8 := Lib.hid (Box.new hb)
  clear hb A7 D7 X7 Z7 d7_0 d7_1 d7_2 d7_z x7_0 x7_1 x7_2 x7_z z7_0 z7_1 z7_2 z7_z
  obtain ⟨d8_0, d8_1, d8_2, d8_z⟩ := D8.out
  obtain ⟨x8_0, x8_1, x8_2, x8_z⟩ := X8.out
  obtain ⟨z8_0, z8_1, z8_2, z8_z⟩ := Z8.out
  obtain ⟨q8_0, q8_1, q8_2, q8_z⟩ := Q8.out
  have HT : Hid (∀ x : Kept w8, Tabs x.wd) := fun x => ht.out.below (down A8.out x.ok)
  have kd0 : ∀ x : Kept w8, x.wd.cell? ⟨w.heap.size, 0, none⟩ = some (.int .i64 (y)) := fun x => (D8.out.keep x.ok).c0
  have kd1 : ∀ x : Kept w8, x.wd.cell? ⟨w.heap.size, 1, none⟩ = some (.int .i64 (m)) := fun x => (D8.out.keep x.ok).c1
  have kd2 : ∀ x : Kept w8, x.wd.cell? ⟨w.heap.size, 2, none⟩ = some (.int .i64 (d)) := fun x => (D8.out.keep x.ok).c2
  have kx0 : ∀ x : Kept w8, x.wd.cell? ⟨w3.heap.size, 0, none⟩ = some (.int .i64 (y)) := fun x => (X8.out.keep x.ok).c0
  have kx1 : ∀ x : Kept w8, x.wd.cell? ⟨w3.heap.size, 1, none⟩ = some (.int .i64 (m)) := fun x => (X8.out.keep x.ok).c1
  have kx2 : ∀ x : Kept w8, x.wd.cell? ⟨w3.heap.size, 2, none⟩ = some (.int .i64 (d)) := fun x => (X8.out.keep x.ok).c2
  have kz0 : ∀ x : Kept w8, x.wd.cell? ⟨w4.heap.size, 0, none⟩ = some (.int .i64 (9600)) := fun x => (Z8.out.keep x.ok).c0
  have kz1 : ∀ x : Kept w8, x.wd.cell? ⟨w4.heap.size, 1, none⟩ = some (.int .i64 (12)) := fun x => (Z8.out.keep x.ok).c1
  have kz2 : ∀ x : Kept w8, x.wd.cell? ⟨w4.heap.size, 2, none⟩ = some (.int .i64 (L)) := fun x => (Z8.out.keep x.ok).c2
  have kq0 : ∀ x : Kept w8, x.wd.cell? ⟨w7.heap.size, 0, none⟩ = some (.int .i64 (0)) := fun x => (Q8.out.keep x.ok).c0
  have kq1 : ∀ x : Kept w8, x.wd.cell? ⟨w7.heap.size, 1, none⟩ = some (.int .i64 (0)) := fun x => (Q8.out.keep x.ok).c1
  have kq2 : ∀ x : Kept w8, x.wd.cell? ⟨w7.heap.size, 2, none⟩ = some (.int .i64 (0)) := fun x => (Q8.out.keep x.ok).c2
  refine wp_region_kept (by kernel_rfl) (by kernel_rfl) ?_
  repeat (go_big_quiet_step (first
    | (go_at_call 17; exact kept_call _ (H5.out _ (HT.out _)))))
  refine wpQuiet_nil ?_
  intro w9 hx
  obtain ⟨⟨xx, hb⟩, hw⟩ := hx
  replace hw : w9 = xx := hw
  subst xx
  clear kd0 kd1 kd2 kx0 kx1 kx2 kz0 kz1 kz2 kq0 kq1 kq2
  have A9 := Lib.hid (down A8.out hb)
  have D9 := Lib.hid (D8.out.keep hb)
  have X9 := Lib.hid (X8.out.keep hb)
  have Z9 := Lib.hid (Z8.out.keep hb)
  have Q9 := Lib.hid (Q8.out.keep hb)
  clear hb A8 D8 X8 Z8 Q8 d8_0 d8_1 d8_2 d8_z x8_0 x8_1 x8_2 x8_z z8_0 z8_1 z8_2 z8_z q8_0 q8_1 q8_2 q8_z
  obtain ⟨d9_0, d9_1, d9_2, d9_z⟩ := D9.out
  obtain ⟨x9_0, x9_1, x9_2, x9_z⟩ := X9.out
  obtain ⟨z9_0, z9_1, z9_2, z9_z⟩ := Z9.out
  obtain ⟨q9_0, q9_1, q9_2, q9_z⟩ := Q9.out
  go_wp2
  go_ret
  exact ⟨rfl, by first | exact A9.out | exact grow A9.out _ | exact below_drewN A9.out _ | exact grow (grow A9.out _) _ | exact grow (grow (grow A9.out _) _) _⟩
set_option maxRecDepth 100000 in
set_option maxHeartbeats 2000000 in
theorem go_ok_inner (k n y m d : Int) (N : Int) (H1 : ∀ w, Tabs w → Calls Tryd.prog 23 #[.int .i64 k, .agg #[.int .i64 y, .int .i64 m, .int .i64 d]] w fun e w' => e = .returned (.tuple #[.int .i64 N, .int .i64 0]) ∧ Below w.heap.size w w') (H2 : ∀ w, Tabs w → Calls Tryd.prog 25 #[.int .i64 k, .int .i64 N] w fun e w' => e = .returned (.tuple #[.agg #[.int .i64 y, .int .i64 m, .int .i64 d], .int .i64 0]) ∧ Below w.heap.size w w') (a b c L : Int) (a0 : 1 ≤ a) (a1 : a ≤ 9600) (b0 : 1 ≤ b) (b1 : b ≤ 12) (c0 : 1 ≤ c) (c1 : c ≤ L) (l1 : L ≤ 30) (n0 : -492148 ≤ n) (n1 : n ≤ 2909771) (H3 : ∀ w, Tabs w → Calls Tryd.prog 25 #[.int .i64 k, .int .i64 n] w fun e w' => e = .returned (.tuple #[.agg #[.int .i64 a, .int .i64 b, .int .i64 c], .int .i64 0]) ∧ Below w.heap.size w w') (H4 : ∀ w, Tabs w → Calls Tryd.prog 23 #[.int .i64 k, .agg #[.int .i64 a, .int .i64 b, .int .i64 c]] w fun e w' => e = .returned (.tuple #[.int .i64 n, .int .i64 0]) ∧ Below w.heap.size w w') (H5 : ∀ w, Tabs w → Calls Tryd.prog 17 #[.int .i64 k, .int .i64 a, .int .i64 b] w fun e w' => e = .returned (.int .i64 L) ∧ Below w.heap.size w w') (u : c + 1 ≤ L) (H6 : ∀ w, Tabs w → Calls Tryd.prog 25 #[.int .i64 k, .int .i64 (n + 1)] w fun e w' => e = .returned (.tuple #[.agg #[.int .i64 a, .int .i64 b, .int .i64 (c + 1)], .int .i64 0]) ∧ Below w.heap.size w w') (w : World) (ht : Tabs w) :
    Calls Tryd.prog 7 #[.int .i64 k, .agg #[.int .i64 y, .int .i64 m, .int .i64 d], .int .i64 n] w fun e w' => e = .returned (.bool true) ∧ Below w.heap.size w w' := by
  have u1 : decide (L < c + 1) = false := decide_eq_false (by omega)
  have u2 : decide (12 < b) = false := decide_eq_false (by omega)
  have u3 : decide (L < c) = false := decide_eq_false (by omega)
  have u4 : decide (c < 1) = false := decide_eq_false (by omega)
  have AW := Lib.hid (fun w ht => awake_all w ht)
  replace ht := Lib.hid ht
  replace H1 := Lib.hid H1
  replace H2 := Lib.hid H2
  replace H3 := Lib.hid H3
  replace H4 := Lib.hid H4
  replace H5 := Lib.hid H5
  replace H6 := Lib.hid H6
  go_enter Tryd.func7, Tryd.ntmps7
  go_wp2_with fail
  refine (AW.out _ (ht.out.below (grow (here w) _))).mono ?_
  rintro e w1 ⟨rfl, hb⟩
  have A1 := Lib.hid (down (grow (here w) _) hb)
  have D1 := Lib.hid (Box.new hb)
  clear hb
  obtain ⟨d1_0, d1_1, d1_2, d1_z⟩ := D1.out
  go_wp2_with fail
  refine (H1.out _ (ht.out.below A1.out)).mono ?_
  rintro e w2 ⟨rfl, hb⟩
  have A2 := Lib.hid (down A1.out hb)
  have D2 := Lib.hid (D1.out.keep hb)
  clear hb A1 D1 d1_0 d1_1 d1_2 d1_z
  obtain ⟨d2_0, d2_1, d2_2, d2_z⟩ := D2.out
  go_wp2_with fail
  refine (H2.out _ (ht.out.below A2.out)).mono ?_
  rintro e w3 ⟨rfl, hb⟩
  have A3 := Lib.hid (down A2.out hb)
  have D3 := Lib.hid (D2.out.keep hb)
  clear hb A2 D2 d2_0 d2_1 d2_2 d2_z
  obtain ⟨d3_0, d3_1, d3_2, d3_z⟩ := D3.out
  go_wp2_with fail
  refine (H3.out _ (ht.out.below (grow A3.out _))).mono ?_
  rintro e w4 ⟨rfl, hb⟩
  have A4 := Lib.hid (down (grow A3.out _) hb)
  have D4 := Lib.hid ((D3.out.old _).keep hb)
  have X4 := Lib.hid (Box.new hb)
  clear hb A3 D3 d3_0 d3_1 d3_2 d3_z
  obtain ⟨d4_0, d4_1, d4_2, d4_z⟩ := D4.out
  obtain ⟨x4_0, x4_1, x4_2, x4_z⟩ := X4.out
  go_wp2_with fail
  refine (H4.out _ (ht.out.below (grow A4.out _))).mono ?_
  rintro e w5 ⟨rfl, hb⟩
  have A5 := Lib.hid (down (grow A4.out _) hb)
  have D5 := Lib.hid ((D4.out.old _).keep hb)
  have X5 := Lib.hid ((X4.out.old _).keep hb)
  have Z5 := Lib.hid (Box.new hb)
  clear hb A4 D4 X4 d4_0 d4_1 d4_2 d4_z x4_0 x4_1 x4_2 x4_z
  obtain ⟨d5_0, d5_1, d5_2, d5_z⟩ := D5.out
  obtain ⟨x5_0, x5_1, x5_2, x5_z⟩ := X5.out
  obtain ⟨z5_0, z5_1, z5_2, z5_z⟩ := Z5.out
  have HT : Hid (∀ x : Kept w5, Tabs x.wd) := fun x => ht.out.below (down A5.out x.ok)
  have kd0 : ∀ x : Kept w5, x.wd.cell? ⟨w.heap.size, 0, none⟩ = some (.int .i64 (y)) := fun x => (D5.out.keep x.ok).c0
  have kd1 : ∀ x : Kept w5, x.wd.cell? ⟨w.heap.size, 1, none⟩ = some (.int .i64 (m)) := fun x => (D5.out.keep x.ok).c1
  have kd2 : ∀ x : Kept w5, x.wd.cell? ⟨w.heap.size, 2, none⟩ = some (.int .i64 (d)) := fun x => (D5.out.keep x.ok).c2
  have kx0 : ∀ x : Kept w5, x.wd.cell? ⟨w3.heap.size, 0, none⟩ = some (.int .i64 (y)) := fun x => (X5.out.keep x.ok).c0
  have kx1 : ∀ x : Kept w5, x.wd.cell? ⟨w3.heap.size, 1, none⟩ = some (.int .i64 (m)) := fun x => (X5.out.keep x.ok).c1
  have kx2 : ∀ x : Kept w5, x.wd.cell? ⟨w3.heap.size, 2, none⟩ = some (.int .i64 (d)) := fun x => (X5.out.keep x.ok).c2
  have kz0 : ∀ x : Kept w5, x.wd.cell? ⟨w4.heap.size, 0, none⟩ = some (.int .i64 (a)) := fun x => (Z5.out.keep x.ok).c0
  have kz1 : ∀ x : Kept w5, x.wd.cell? ⟨w4.heap.size, 1, none⟩ = some (.int .i64 (b)) := fun x => (Z5.out.keep x.ok).c1
  have kz2 : ∀ x : Kept w5, x.wd.cell? ⟨w4.heap.size, 2, none⟩ = some (.int .i64 (c)) := fun x => (Z5.out.keep x.ok).c2
  go_wp2
  refine wp_region_kept (by kernel_rfl) (by kernel_rfl) ?_
  repeat (go_big_quiet_step (first
    | (go_at_call 17; exact kept_call _ (H5.out _ (HT.out _)))))
  refine wpQuiet_nil ?_
  intro w6 hx
  obtain ⟨⟨xx, hb⟩, hw⟩ := hx
  replace hw : w6 = xx := hw
  subst xx
  clear kd0 kd1 kd2 kx0 kx1 kx2 kz0 kz1 kz2
  have A6 := Lib.hid (down A5.out hb)
  have D6 := Lib.hid (D5.out.keep hb)
  have X6 := Lib.hid (X5.out.keep hb)
  have Z6 := Lib.hid (Z5.out.keep hb)
  clear hb A5 D5 X5 Z5 d5_0 d5_1 d5_2 d5_z x5_0 x5_1 x5_2 x5_z z5_0 z5_1 z5_2 z5_z
  obtain ⟨d6_0, d6_1, d6_2, d6_z⟩ := D6.out
  obtain ⟨x6_0, x6_1, x6_2, x6_z⟩ := X6.out
  obtain ⟨z6_0, z6_1, z6_2, z6_z⟩ := Z6.out
  clear HT
  go_wp2_with fail
  refine (H6.out _ (ht.out.below A6.out)).mono ?_
  rintro e w7 ⟨rfl, hb⟩
  have A7 := Lib.hid (down A6.out hb)
  have D7 := Lib.hid (D6.out.keep hb)
  have X7 := Lib.hid (X6.out.keep hb)
  have Z7 := Lib.hid (Z6.out.keep hb)
  clear hb A6 D6 X6 Z6 d6_0 d6_1 d6_2 d6_z x6_0 x6_1 x6_2 x6_z z6_0 z6_1 z6_2 z6_z
  obtain ⟨d7_0, d7_1, d7_2, d7_z⟩ := D7.out
  obtain ⟨x7_0, x7_1, x7_2, x7_z⟩ := X7.out
  obtain ⟨z7_0, z7_1, z7_2, z7_z⟩ := Z7.out
  go_wp2
  obtain ⟨w8, hw8⟩ : ∃ w' : World, ((w7.alloc (.cells #[.int .i64 (a), .int .i64 (b), .int .i64 ((c + 1))] 29)).alloc (.cells #[.int .i64 (a), .int .i64 (b), .int .i64 (c + 1)] 29)) = w' := ⟨_, rfl⟩
  rw [hw8]
  have hb : Below ((w7.alloc (.cells #[.int .i64 (a), .int .i64 (b), .int .i64 ((c + 1))] 29)).alloc (.cells #[.int .i64 (a), .int .i64 (b), .int .i64 (c + 1)] 29)).heap.size ((w7.alloc (.cells #[.int .i64 (a), .int .i64 (b), .int .i64 ((c + 1))] 29)).alloc (.cells #[.int .i64 (a), .int .i64 (b), .int .i64 (c + 1)] 29)) w8 := by rw [hw8]; exact here _
  clear hw8
  have A8 := Lib.hid (down (grow (grow A7.out _) _) hb)
  have le_V : Hid (w.heap.size ≤ w7.heap.size + 1) := by show _ ≤ _; have := A7.out.size; omega
  have ne_Q_V : Hid (w7.heap.size ≠ w7.heap.size + 1) := by show _ ≠ _; omega
  have ne_D_V : Hid (w.heap.size ≠ w7.heap.size + 1) := by show _ ≠ _; have := D7.out.lt; omega
  have D8 := Lib.hid (((D7.out.old _).old _).keep hb)
  have ne_X_V : Hid (w3.heap.size ≠ w7.heap.size + 1) := by show _ ≠ _; have := X7.out.lt; omega
  have X8 := Lib.hid (((X7.out.old _).old _).keep hb)
  have ne_Z_V : Hid (w4.heap.size ≠ w7.heap.size + 1) := by show _ ≠ _; have := Z7.out.lt; omega
  have Z8 := Lib.hid (((Z7.out.old _).old _).keep hb)
  have Q8 := Lib.hid (Box.fst hb)
  have V8 := Lib.hid (Box.snd hb)
  have FV8 := Lib.hid (Free.snd hb)
  clear hb A7 D7 X7 Z7 d7_0 d7_1 d7_2 d7_z x7_0 x7_1 x7_2 x7_z z7_0 z7_1 z7_2 z7_z
  obtain ⟨d8_0, d8_1, d8_2, d8_z⟩ := D8.out
  obtain ⟨x8_0, x8_1, x8_2, x8_z⟩ := X8.out
  obtain ⟨z8_0, z8_1, z8_2, z8_z⟩ := Z8.out
  obtain ⟨q8_0, q8_1, q8_2, q8_z⟩ := Q8.out
  obtain ⟨v8_0, v8_1, v8_2, v8_z⟩ := V8.out
  obtain ⟨v8_f0, v8_f1, v8_f2⟩ := FV8.out
  have HT : Hid (∀ x : Kept w8, Tabs x.wd) := fun x => ht.out.below (down A8.out x.ok)
  have kd0 : ∀ x : Kept w8, x.wd.cell? ⟨w.heap.size, 0, none⟩ = some (.int .i64 (y)) := fun x => (D8.out.keep x.ok).c0
  have kd1 : ∀ x : Kept w8, x.wd.cell? ⟨w.heap.size, 1, none⟩ = some (.int .i64 (m)) := fun x => (D8.out.keep x.ok).c1
  have kd2 : ∀ x : Kept w8, x.wd.cell? ⟨w.heap.size, 2, none⟩ = some (.int .i64 (d)) := fun x => (D8.out.keep x.ok).c2
  have kx0 : ∀ x : Kept w8, x.wd.cell? ⟨w3.heap.size, 0, none⟩ = some (.int .i64 (y)) := fun x => (X8.out.keep x.ok).c0
  have kx1 : ∀ x : Kept w8, x.wd.cell? ⟨w3.heap.size, 1, none⟩ = some (.int .i64 (m)) := fun x => (X8.out.keep x.ok).c1
  have kx2 : ∀ x : Kept w8, x.wd.cell? ⟨w3.heap.size, 2, none⟩ = some (.int .i64 (d)) := fun x => (X8.out.keep x.ok).c2
  have kz0 : ∀ x : Kept w8, x.wd.cell? ⟨w4.heap.size, 0, none⟩ = some (.int .i64 (a)) := fun x => (Z8.out.keep x.ok).c0
  have kz1 : ∀ x : Kept w8, x.wd.cell? ⟨w4.heap.size, 1, none⟩ = some (.int .i64 (b)) := fun x => (Z8.out.keep x.ok).c1
  have kz2 : ∀ x : Kept w8, x.wd.cell? ⟨w4.heap.size, 2, none⟩ = some (.int .i64 (c)) := fun x => (Z8.out.keep x.ok).c2
  have kq0 : ∀ x : Kept w8, x.wd.cell? ⟨w7.heap.size, 0, none⟩ = some (.int .i64 (a)) := fun x => (Q8.out.keep x.ok).c0
  have kq1 : ∀ x : Kept w8, x.wd.cell? ⟨w7.heap.size, 1, none⟩ = some (.int .i64 (b)) := fun x => (Q8.out.keep x.ok).c1
  have kq2 : ∀ x : Kept w8, x.wd.cell? ⟨w7.heap.size, 2, none⟩ = some (.int .i64 ((c + 1))) := fun x => (Q8.out.keep x.ok).c2
  have kv0 : ∀ x : Kept w8, x.wd.cell? ⟨w7.heap.size + 1, 0, none⟩ = some (.int .i64 (a)) := fun x => (V8.out.keep x.ok).c0
  have kv1 : ∀ x : Kept w8, x.wd.cell? ⟨w7.heap.size + 1, 1, none⟩ = some (.int .i64 (b)) := fun x => (V8.out.keep x.ok).c1
  have kv2 : ∀ x : Kept w8, x.wd.cell? ⟨w7.heap.size + 1, 2, none⟩ = some (.int .i64 (c + 1)) := fun x => (V8.out.keep x.ok).c2
  refine wp_region_kept (by kernel_rfl) (by kernel_rfl) ?_
  repeat (go_big_quiet_step (first
    | (go_at_call 17; exact kept_call _ (H5.out _ (HT.out _)))))
  refine wpQuiet_nil ?_
  intro w9 hx
  obtain ⟨⟨xx, hb⟩, hw⟩ := hx
  replace hw : w9 = xx := hw
  subst xx
  clear kd0 kd1 kd2 kx0 kx1 kx2 kz0 kz1 kz2 kq0 kq1 kq2 kv0 kv1 kv2
  have A9 := Lib.hid (down A8.out hb)
  have D9 := Lib.hid (D8.out.keep hb)
  have X9 := Lib.hid (X8.out.keep hb)
  have Z9 := Lib.hid (Z8.out.keep hb)
  have Q9 := Lib.hid (Q8.out.keep hb)
  have V9 := Lib.hid (V8.out.keep hb)
  have FV9 := Lib.hid (FV8.out.keep V8.out.lt hb)
  clear hb A8 D8 X8 Z8 Q8 V8 FV8 d8_0 d8_1 d8_2 d8_z x8_0 x8_1 x8_2 x8_z z8_0 z8_1 z8_2 z8_z q8_0 q8_1 q8_2 q8_z v8_0 v8_1 v8_2 v8_z v8_f0 v8_f1 v8_f2
  obtain ⟨d9_0, d9_1, d9_2, d9_z⟩ := D9.out
  obtain ⟨x9_0, x9_1, x9_2, x9_z⟩ := X9.out
  obtain ⟨z9_0, z9_1, z9_2, z9_z⟩ := Z9.out
  obtain ⟨q9_0, q9_1, q9_2, q9_z⟩ := Q9.out
  obtain ⟨v9_0, v9_1, v9_2, v9_z⟩ := V9.out
  obtain ⟨v9_f0, v9_f1, v9_f2⟩ := FV9.out
  go_wp2
  go_ret
  exact ⟨rfl, by first | exact A9.out | exact grow A9.out _ | exact below_drewN A9.out _ | exact grow (grow A9.out _) _ | exact grow (grow (grow A9.out _) _) _⟩
set_option maxRecDepth 100000 in
set_option maxHeartbeats 2000000 in
theorem go_ok_month (k n y m d : Int) (N : Int) (H1 : ∀ w, Tabs w → Calls Tryd.prog 23 #[.int .i64 k, .agg #[.int .i64 y, .int .i64 m, .int .i64 d]] w fun e w' => e = .returned (.tuple #[.int .i64 N, .int .i64 0]) ∧ Below w.heap.size w w') (H2 : ∀ w, Tabs w → Calls Tryd.prog 25 #[.int .i64 k, .int .i64 N] w fun e w' => e = .returned (.tuple #[.agg #[.int .i64 y, .int .i64 m, .int .i64 d], .int .i64 0]) ∧ Below w.heap.size w w') (a b c L : Int) (a0 : 1 ≤ a) (a1 : a ≤ 9600) (b0 : 1 ≤ b) (b1 : b ≤ 12) (c0 : 1 ≤ c) (c1 : c ≤ L) (l1 : L ≤ 30) (n0 : -492148 ≤ n) (n1 : n ≤ 2909771) (H3 : ∀ w, Tabs w → Calls Tryd.prog 25 #[.int .i64 k, .int .i64 n] w fun e w' => e = .returned (.tuple #[.agg #[.int .i64 a, .int .i64 b, .int .i64 c], .int .i64 0]) ∧ Below w.heap.size w w') (H4 : ∀ w, Tabs w → Calls Tryd.prog 23 #[.int .i64 k, .agg #[.int .i64 a, .int .i64 b, .int .i64 c]] w fun e w' => e = .returned (.tuple #[.int .i64 n, .int .i64 0]) ∧ Below w.heap.size w w') (H5 : ∀ w, Tabs w → Calls Tryd.prog 17 #[.int .i64 k, .int .i64 a, .int .i64 b] w fun e w' => e = .returned (.int .i64 L) ∧ Below w.heap.size w w') (u : c = L) (v : b + 1 ≤ 12) (H6 : ∀ w, Tabs w → Calls Tryd.prog 25 #[.int .i64 k, .int .i64 (n + 1)] w fun e w' => e = .returned (.tuple #[.agg #[.int .i64 a, .int .i64 (b + 1), .int .i64 1], .int .i64 0]) ∧ Below w.heap.size w w') (w : World) (ht : Tabs w) :
    Calls Tryd.prog 7 #[.int .i64 k, .agg #[.int .i64 y, .int .i64 m, .int .i64 d], .int .i64 n] w fun e w' => e = .returned (.bool true) ∧ Below w.heap.size w w' := by
  have u1 : decide (L < c + 1) = true := decide_eq_true (by omega)
  have u2 : decide (12 < b + 1) = false := decide_eq_false (by omega)
  have u3 : decide (L < c) = false := decide_eq_false (by omega)
  clear u
  have u4 : decide (c < 1) = false := decide_eq_false (by omega)
  have AW := Lib.hid (fun w ht => awake_all w ht)
  replace ht := Lib.hid ht
  replace H1 := Lib.hid H1
  replace H2 := Lib.hid H2
  replace H3 := Lib.hid H3
  replace H4 := Lib.hid H4
  replace H5 := Lib.hid H5
  replace H6 := Lib.hid H6
  go_enter Tryd.func7, Tryd.ntmps7
  go_wp2_with fail
  refine (AW.out _ (ht.out.below (grow (here w) _))).mono ?_
  rintro e w1 ⟨rfl, hb⟩
  have A1 := Lib.hid (down (grow (here w) _) hb)
  have D1 := Lib.hid (Box.new hb)
  clear hb
  obtain ⟨d1_0, d1_1, d1_2, d1_z⟩ := D1.out
  go_wp2_with fail
  refine (H1.out _ (ht.out.below A1.out)).mono ?_
  rintro e w2 ⟨rfl, hb⟩
  have A2 := Lib.hid (down A1.out hb)
  have D2 := Lib.hid (D1.out.keep hb)
  clear hb A1 D1 d1_0 d1_1 d1_2 d1_z
  obtain ⟨d2_0, d2_1, d2_2, d2_z⟩ := D2.out
  go_wp2_with fail
  refine (H2.out _ (ht.out.below A2.out)).mono ?_
  rintro e w3 ⟨rfl, hb⟩
  have A3 := Lib.hid (down A2.out hb)
  have D3 := Lib.hid (D2.out.keep hb)
  clear hb A2 D2 d2_0 d2_1 d2_2 d2_z
  obtain ⟨d3_0, d3_1, d3_2, d3_z⟩ := D3.out
  go_wp2_with fail
  refine (H3.out _ (ht.out.below (grow A3.out _))).mono ?_
  rintro e w4 ⟨rfl, hb⟩
  have A4 := Lib.hid (down (grow A3.out _) hb)
  have D4 := Lib.hid ((D3.out.old _).keep hb)
  have X4 := Lib.hid (Box.new hb)
  clear hb A3 D3 d3_0 d3_1 d3_2 d3_z
  obtain ⟨d4_0, d4_1, d4_2, d4_z⟩ := D4.out
  obtain ⟨x4_0, x4_1, x4_2, x4_z⟩ := X4.out
  go_wp2_with fail
  refine (H4.out _ (ht.out.below (grow A4.out _))).mono ?_
  rintro e w5 ⟨rfl, hb⟩
  have A5 := Lib.hid (down (grow A4.out _) hb)
  have D5 := Lib.hid ((D4.out.old _).keep hb)
  have X5 := Lib.hid ((X4.out.old _).keep hb)
  have Z5 := Lib.hid (Box.new hb)
  clear hb A4 D4 X4 d4_0 d4_1 d4_2 d4_z x4_0 x4_1 x4_2 x4_z
  obtain ⟨d5_0, d5_1, d5_2, d5_z⟩ := D5.out
  obtain ⟨x5_0, x5_1, x5_2, x5_z⟩ := X5.out
  obtain ⟨z5_0, z5_1, z5_2, z5_z⟩ := Z5.out
  have HT : Hid (∀ x : Kept w5, Tabs x.wd) := fun x => ht.out.below (down A5.out x.ok)
  have kd0 : ∀ x : Kept w5, x.wd.cell? ⟨w.heap.size, 0, none⟩ = some (.int .i64 (y)) := fun x => (D5.out.keep x.ok).c0
  have kd1 : ∀ x : Kept w5, x.wd.cell? ⟨w.heap.size, 1, none⟩ = some (.int .i64 (m)) := fun x => (D5.out.keep x.ok).c1
  have kd2 : ∀ x : Kept w5, x.wd.cell? ⟨w.heap.size, 2, none⟩ = some (.int .i64 (d)) := fun x => (D5.out.keep x.ok).c2
  have kx0 : ∀ x : Kept w5, x.wd.cell? ⟨w3.heap.size, 0, none⟩ = some (.int .i64 (y)) := fun x => (X5.out.keep x.ok).c0
  have kx1 : ∀ x : Kept w5, x.wd.cell? ⟨w3.heap.size, 1, none⟩ = some (.int .i64 (m)) := fun x => (X5.out.keep x.ok).c1
  have kx2 : ∀ x : Kept w5, x.wd.cell? ⟨w3.heap.size, 2, none⟩ = some (.int .i64 (d)) := fun x => (X5.out.keep x.ok).c2
  have kz0 : ∀ x : Kept w5, x.wd.cell? ⟨w4.heap.size, 0, none⟩ = some (.int .i64 (a)) := fun x => (Z5.out.keep x.ok).c0
  have kz1 : ∀ x : Kept w5, x.wd.cell? ⟨w4.heap.size, 1, none⟩ = some (.int .i64 (b)) := fun x => (Z5.out.keep x.ok).c1
  have kz2 : ∀ x : Kept w5, x.wd.cell? ⟨w4.heap.size, 2, none⟩ = some (.int .i64 (c)) := fun x => (Z5.out.keep x.ok).c2
  go_wp2
  refine wp_region_kept (by kernel_rfl) (by kernel_rfl) ?_
  repeat (go_big_quiet_step (first
    | (go_at_call 17; exact kept_call _ (H5.out _ (HT.out _)))))
  refine wpQuiet_nil ?_
  intro w6 hx
  obtain ⟨⟨xx, hb⟩, hw⟩ := hx
  replace hw : w6 = xx := hw
  subst xx
  clear kd0 kd1 kd2 kx0 kx1 kx2 kz0 kz1 kz2
  have A6 := Lib.hid (down A5.out hb)
  have D6 := Lib.hid (D5.out.keep hb)
  have X6 := Lib.hid (X5.out.keep hb)
  have Z6 := Lib.hid (Z5.out.keep hb)
  clear hb A5 D5 X5 Z5 d5_0 d5_1 d5_2 d5_z x5_0 x5_1 x5_2 x5_z z5_0 z5_1 z5_2 z5_z
  obtain ⟨d6_0, d6_1, d6_2, d6_z⟩ := D6.out
  obtain ⟨x6_0, x6_1, x6_2, x6_z⟩ := X6.out
  obtain ⟨z6_0, z6_1, z6_2, z6_z⟩ := Z6.out
  clear HT
  go_wp2_with fail
  refine (H6.out _ (ht.out.below A6.out)).mono ?_
  rintro e w7 ⟨rfl, hb⟩
  have A7 := Lib.hid (down A6.out hb)
  have D7 := Lib.hid (D6.out.keep hb)
  have X7 := Lib.hid (X6.out.keep hb)
  have Z7 := Lib.hid (Z6.out.keep hb)
  clear hb A6 D6 X6 Z6 d6_0 d6_1 d6_2 d6_z x6_0 x6_1 x6_2 x6_z z6_0 z6_1 z6_2 z6_z
  obtain ⟨d7_0, d7_1, d7_2, d7_z⟩ := D7.out
  obtain ⟨x7_0, x7_1, x7_2, x7_z⟩ := X7.out
  obtain ⟨z7_0, z7_1, z7_2, z7_z⟩ := Z7.out
  go_wp2
  obtain ⟨w8, hw8⟩ : ∃ w' : World, ((w7.alloc (.cells #[.int .i64 (a), .int .i64 ((b + 1)), .int .i64 (1)] 29)).alloc (.cells #[.int .i64 (a), .int .i64 (b), .int .i64 (c + 1)] 29)) = w' := ⟨_, rfl⟩
  rw [hw8]
  have hb : Below ((w7.alloc (.cells #[.int .i64 (a), .int .i64 ((b + 1)), .int .i64 (1)] 29)).alloc (.cells #[.int .i64 (a), .int .i64 (b), .int .i64 (c + 1)] 29)).heap.size ((w7.alloc (.cells #[.int .i64 (a), .int .i64 ((b + 1)), .int .i64 (1)] 29)).alloc (.cells #[.int .i64 (a), .int .i64 (b), .int .i64 (c + 1)] 29)) w8 := by rw [hw8]; exact here _
  clear hw8
  have A8 := Lib.hid (down (grow (grow A7.out _) _) hb)
  have le_V : Hid (w.heap.size ≤ w7.heap.size + 1) := by show _ ≤ _; have := A7.out.size; omega
  have ne_Q_V : Hid (w7.heap.size ≠ w7.heap.size + 1) := by show _ ≠ _; omega
  have ne_D_V : Hid (w.heap.size ≠ w7.heap.size + 1) := by show _ ≠ _; have := D7.out.lt; omega
  have D8 := Lib.hid (((D7.out.old _).old _).keep hb)
  have ne_X_V : Hid (w3.heap.size ≠ w7.heap.size + 1) := by show _ ≠ _; have := X7.out.lt; omega
  have X8 := Lib.hid (((X7.out.old _).old _).keep hb)
  have ne_Z_V : Hid (w4.heap.size ≠ w7.heap.size + 1) := by show _ ≠ _; have := Z7.out.lt; omega
  have Z8 := Lib.hid (((Z7.out.old _).old _).keep hb)
  have Q8 := Lib.hid (Box.fst hb)
  have V8 := Lib.hid (Box.snd hb)
  have FV8 := Lib.hid (Free.snd hb)
  clear hb A7 D7 X7 Z7 d7_0 d7_1 d7_2 d7_z x7_0 x7_1 x7_2 x7_z z7_0 z7_1 z7_2 z7_z
  obtain ⟨d8_0, d8_1, d8_2, d8_z⟩ := D8.out
  obtain ⟨x8_0, x8_1, x8_2, x8_z⟩ := X8.out
  obtain ⟨z8_0, z8_1, z8_2, z8_z⟩ := Z8.out
  obtain ⟨q8_0, q8_1, q8_2, q8_z⟩ := Q8.out
  obtain ⟨v8_0, v8_1, v8_2, v8_z⟩ := V8.out
  obtain ⟨v8_f0, v8_f1, v8_f2⟩ := FV8.out
  have HT : Hid (∀ x : Kept w8, Tabs x.wd) := fun x => ht.out.below (down A8.out x.ok)
  have kd0 : ∀ x : Kept w8, x.wd.cell? ⟨w.heap.size, 0, none⟩ = some (.int .i64 (y)) := fun x => (D8.out.keep x.ok).c0
  have kd1 : ∀ x : Kept w8, x.wd.cell? ⟨w.heap.size, 1, none⟩ = some (.int .i64 (m)) := fun x => (D8.out.keep x.ok).c1
  have kd2 : ∀ x : Kept w8, x.wd.cell? ⟨w.heap.size, 2, none⟩ = some (.int .i64 (d)) := fun x => (D8.out.keep x.ok).c2
  have kx0 : ∀ x : Kept w8, x.wd.cell? ⟨w3.heap.size, 0, none⟩ = some (.int .i64 (y)) := fun x => (X8.out.keep x.ok).c0
  have kx1 : ∀ x : Kept w8, x.wd.cell? ⟨w3.heap.size, 1, none⟩ = some (.int .i64 (m)) := fun x => (X8.out.keep x.ok).c1
  have kx2 : ∀ x : Kept w8, x.wd.cell? ⟨w3.heap.size, 2, none⟩ = some (.int .i64 (d)) := fun x => (X8.out.keep x.ok).c2
  have kz0 : ∀ x : Kept w8, x.wd.cell? ⟨w4.heap.size, 0, none⟩ = some (.int .i64 (a)) := fun x => (Z8.out.keep x.ok).c0
  have kz1 : ∀ x : Kept w8, x.wd.cell? ⟨w4.heap.size, 1, none⟩ = some (.int .i64 (b)) := fun x => (Z8.out.keep x.ok).c1
  have kz2 : ∀ x : Kept w8, x.wd.cell? ⟨w4.heap.size, 2, none⟩ = some (.int .i64 (c)) := fun x => (Z8.out.keep x.ok).c2
  have kq0 : ∀ x : Kept w8, x.wd.cell? ⟨w7.heap.size, 0, none⟩ = some (.int .i64 (a)) := fun x => (Q8.out.keep x.ok).c0
  have kq1 : ∀ x : Kept w8, x.wd.cell? ⟨w7.heap.size, 1, none⟩ = some (.int .i64 ((b + 1))) := fun x => (Q8.out.keep x.ok).c1
  have kq2 : ∀ x : Kept w8, x.wd.cell? ⟨w7.heap.size, 2, none⟩ = some (.int .i64 (1)) := fun x => (Q8.out.keep x.ok).c2
  have kv0 : ∀ x : Kept w8, x.wd.cell? ⟨w7.heap.size + 1, 0, none⟩ = some (.int .i64 (a)) := fun x => (V8.out.keep x.ok).c0
  have kv1 : ∀ x : Kept w8, x.wd.cell? ⟨w7.heap.size + 1, 1, none⟩ = some (.int .i64 (b)) := fun x => (V8.out.keep x.ok).c1
  have kv2 : ∀ x : Kept w8, x.wd.cell? ⟨w7.heap.size + 1, 2, none⟩ = some (.int .i64 (c + 1)) := fun x => (V8.out.keep x.ok).c2
  refine wp_region_kept (by kernel_rfl) (by kernel_rfl) ?_
  repeat (go_big_quiet_step (first
    | (go_at_call 17; exact kept_call _ (H5.out _ (HT.out _)))))
  refine wpQuiet_nil ?_
  intro w9 hx
  obtain ⟨⟨xx, hb⟩, hw⟩ := hx
  replace hw : w9 = xx := hw
  subst xx
  clear kd0 kd1 kd2 kx0 kx1 kx2 kz0 kz1 kz2 kq0 kq1 kq2 kv0 kv1 kv2
  have A9 := Lib.hid (down A8.out hb)
  have D9 := Lib.hid (D8.out.keep hb)
  have X9 := Lib.hid (X8.out.keep hb)
  have Z9 := Lib.hid (Z8.out.keep hb)
  have Q9 := Lib.hid (Q8.out.keep hb)
  have V9 := Lib.hid (V8.out.keep hb)
  have FV9 := Lib.hid (FV8.out.keep V8.out.lt hb)
  clear hb A8 D8 X8 Z8 Q8 V8 FV8 d8_0 d8_1 d8_2 d8_z x8_0 x8_1 x8_2 x8_z z8_0 z8_1 z8_2 z8_z q8_0 q8_1 q8_2 q8_z v8_0 v8_1 v8_2 v8_z v8_f0 v8_f1 v8_f2
  obtain ⟨d9_0, d9_1, d9_2, d9_z⟩ := D9.out
  obtain ⟨x9_0, x9_1, x9_2, x9_z⟩ := X9.out
  obtain ⟨z9_0, z9_1, z9_2, z9_z⟩ := Z9.out
  obtain ⟨q9_0, q9_1, q9_2, q9_z⟩ := Q9.out
  obtain ⟨v9_0, v9_1, v9_2, v9_z⟩ := V9.out
  obtain ⟨v9_f0, v9_f1, v9_f2⟩ := FV9.out
  go_wp2
  go_region
  obtain ⟨w10, hw10⟩ : ∃ w' : World, w9.setCell ⟨w7.heap.size + 1, 2, none⟩ (.int .i64 (1)) = w' := ⟨_, rfl⟩
  have A10 : Hid (Below w.heap.size w w10) := by rw [← hw10]; exact A9.out.setCell le_V.out _
  have D10 : Hid (Box w10 (w.heap.size) (.int .i64 (y)) (.int .i64 (m)) (.int .i64 (d))) := by rw [← hw10]; exact D9.out.far (ne_D_V.out.symm) _ _
  have X10 : Hid (Box w10 (w3.heap.size) (.int .i64 (y)) (.int .i64 (m)) (.int .i64 (d))) := by rw [← hw10]; exact X9.out.far (ne_X_V.out.symm) _ _
  have Z10 : Hid (Box w10 (w4.heap.size) (.int .i64 (a)) (.int .i64 (b)) (.int .i64 (c))) := by rw [← hw10]; exact Z9.out.far (ne_Z_V.out.symm) _ _
  have Q10 : Hid (Box w10 (w7.heap.size) (.int .i64 (a)) (.int .i64 ((b + 1))) (.int .i64 (1))) := by rw [← hw10]; exact Q9.out.far (ne_Q_V.out.symm) _ _
  have V10 : Hid (Box w10 (w7.heap.size + 1) (.int .i64 (a)) (.int .i64 (b)) (.int .i64 (1))) := by rw [← hw10]; exact V9.out.put2 _
  have FV10 : Hid (Free w10 (w7.heap.size + 1)) := by rw [← hw10]; exact FV9.out.set _ _
  obtain ⟨w11, hw11⟩ : ∃ w' : World, w10.setCell ⟨w7.heap.size + 1, 1, none⟩ (.int .i64 (b + 1)) = w' := ⟨_, rfl⟩
  have A11 : Hid (Below w.heap.size w w11) := by rw [← hw11]; exact A10.out.setCell le_V.out _
  have D11 : Hid (Box w11 (w.heap.size) (.int .i64 (y)) (.int .i64 (m)) (.int .i64 (d))) := by rw [← hw11]; exact D10.out.far (ne_D_V.out.symm) _ _
  have X11 : Hid (Box w11 (w3.heap.size) (.int .i64 (y)) (.int .i64 (m)) (.int .i64 (d))) := by rw [← hw11]; exact X10.out.far (ne_X_V.out.symm) _ _
  have Z11 : Hid (Box w11 (w4.heap.size) (.int .i64 (a)) (.int .i64 (b)) (.int .i64 (c))) := by rw [← hw11]; exact Z10.out.far (ne_Z_V.out.symm) _ _
  have Q11 : Hid (Box w11 (w7.heap.size) (.int .i64 (a)) (.int .i64 ((b + 1))) (.int .i64 (1))) := by rw [← hw11]; exact Q10.out.far (ne_Q_V.out.symm) _ _
  have V11 : Hid (Box w11 (w7.heap.size + 1) (.int .i64 (a)) (.int .i64 (b + 1)) (.int .i64 (1))) := by rw [← hw11]; exact V10.out.put1 _
  have FV11 : Hid (Free w11 (w7.heap.size + 1)) := by rw [← hw11]; exact FV10.out.set _ _
  obtain ⟨w12, hw12⟩ : ∃ w' : World, w11.drew = w' := ⟨_, rfl⟩
  have A12 : Hid (Below w.heap.size w w12) := by rw [← hw12]; exact A11.out.drew
  have D12 : Hid (Box w12 (w.heap.size) (.int .i64 (y)) (.int .i64 (m)) (.int .i64 (d))) := by rw [← hw12]; exact D11.out.drew
  have X12 : Hid (Box w12 (w3.heap.size) (.int .i64 (y)) (.int .i64 (m)) (.int .i64 (d))) := by rw [← hw12]; exact X11.out.drew
  have Z12 : Hid (Box w12 (w4.heap.size) (.int .i64 (a)) (.int .i64 (b)) (.int .i64 (c))) := by rw [← hw12]; exact Z11.out.drew
  have Q12 : Hid (Box w12 (w7.heap.size) (.int .i64 (a)) (.int .i64 ((b + 1))) (.int .i64 (1))) := by rw [← hw12]; exact Q11.out.drew
  have V12 : Hid (Box w12 (w7.heap.size + 1) (.int .i64 (a)) (.int .i64 (b + 1)) (.int .i64 (1))) := by rw [← hw12]; exact V11.out.drew
  have FV12 : Hid (Free w12 (w7.heap.size + 1)) := by rw [← hw12]; exact FV11.out.drewN 1
  rw [hw10, hw11, hw12]
  clear d9_0 d9_1 d9_2 d9_z x9_0 x9_1 x9_2 x9_z z9_0 z9_1 z9_2 z9_z q9_0 q9_1 q9_2 q9_z v9_0 v9_1 v9_2 v9_z v9_f0 v9_f1 v9_f2
  obtain ⟨d12_0, d12_1, d12_2, d12_z⟩ := D12.out
  obtain ⟨x12_0, x12_1, x12_2, x12_z⟩ := X12.out
  obtain ⟨z12_0, z12_1, z12_2, z12_z⟩ := Z12.out
  obtain ⟨q12_0, q12_1, q12_2, q12_z⟩ := Q12.out
  obtain ⟨v12_0, v12_1, v12_2, v12_z⟩ := V12.out
  obtain ⟨v12_f0, v12_f1, v12_f2⟩ := FV12.out
  clear hw10 hw11 hw12
  go_wp2
  go_ret
  exact ⟨rfl, by first | exact A12.out | exact grow A12.out _ | exact below_drewN A12.out _ | exact grow (grow A12.out _) _ | exact grow (grow (grow A12.out _) _) _⟩
set_option maxRecDepth 100000 in
set_option maxHeartbeats 2000000 in
theorem go_ok_year (k n y m d : Int) (N : Int) (H1 : ∀ w, Tabs w → Calls Tryd.prog 23 #[.int .i64 k, .agg #[.int .i64 y, .int .i64 m, .int .i64 d]] w fun e w' => e = .returned (.tuple #[.int .i64 N, .int .i64 0]) ∧ Below w.heap.size w w') (H2 : ∀ w, Tabs w → Calls Tryd.prog 25 #[.int .i64 k, .int .i64 N] w fun e w' => e = .returned (.tuple #[.agg #[.int .i64 y, .int .i64 m, .int .i64 d], .int .i64 0]) ∧ Below w.heap.size w w') (a b c L : Int) (a0 : 1 ≤ a) (a1 : a ≤ 9600) (b0 : 1 ≤ b) (b1 : b ≤ 12) (c0 : 1 ≤ c) (c1 : c ≤ L) (l1 : L ≤ 30) (n0 : -492148 ≤ n) (n1 : n ≤ 2909771) (H3 : ∀ w, Tabs w → Calls Tryd.prog 25 #[.int .i64 k, .int .i64 n] w fun e w' => e = .returned (.tuple #[.agg #[.int .i64 a, .int .i64 b, .int .i64 c], .int .i64 0]) ∧ Below w.heap.size w w') (H4 : ∀ w, Tabs w → Calls Tryd.prog 23 #[.int .i64 k, .agg #[.int .i64 a, .int .i64 b, .int .i64 c]] w fun e w' => e = .returned (.tuple #[.int .i64 n, .int .i64 0]) ∧ Below w.heap.size w w') (H5 : ∀ w, Tabs w → Calls Tryd.prog 17 #[.int .i64 k, .int .i64 a, .int .i64 b] w fun e w' => e = .returned (.int .i64 L) ∧ Below w.heap.size w w') (u : c = L) (v : b = 12) (H6 : ∀ w, Tabs w → Calls Tryd.prog 25 #[.int .i64 k, .int .i64 (n + 1)] w fun e w' => e = .returned (.tuple #[.agg #[.int .i64 (a + 1), .int .i64 1, .int .i64 1], .int .i64 0]) ∧ Below w.heap.size w w') (w : World) (ht : Tabs w) :
    Calls Tryd.prog 7 #[.int .i64 k, .agg #[.int .i64 y, .int .i64 m, .int .i64 d], .int .i64 n] w fun e w' => e = .returned (.bool true) ∧ Below w.heap.size w w' := by
  subst v
  have u1 : decide (L < c + 1) = true := decide_eq_true (by omega)
  have u3 : decide (L < c) = false := decide_eq_false (by omega)
  clear u
  have u4 : decide (c < 1) = false := decide_eq_false (by omega)
  have AW := Lib.hid (fun w ht => awake_all w ht)
  replace ht := Lib.hid ht
  replace H1 := Lib.hid H1
  replace H2 := Lib.hid H2
  replace H3 := Lib.hid H3
  replace H4 := Lib.hid H4
  replace H5 := Lib.hid H5
  replace H6 := Lib.hid H6
  go_enter Tryd.func7, Tryd.ntmps7
  go_wp2_with fail
  refine (AW.out _ (ht.out.below (grow (here w) _))).mono ?_
  rintro e w1 ⟨rfl, hb⟩
  have A1 := Lib.hid (down (grow (here w) _) hb)
  have D1 := Lib.hid (Box.new hb)
  clear hb
  obtain ⟨d1_0, d1_1, d1_2, d1_z⟩ := D1.out
  go_wp2_with fail
  refine (H1.out _ (ht.out.below A1.out)).mono ?_
  rintro e w2 ⟨rfl, hb⟩
  have A2 := Lib.hid (down A1.out hb)
  have D2 := Lib.hid (D1.out.keep hb)
  clear hb A1 D1 d1_0 d1_1 d1_2 d1_z
  obtain ⟨d2_0, d2_1, d2_2, d2_z⟩ := D2.out
  go_wp2_with fail
  refine (H2.out _ (ht.out.below A2.out)).mono ?_
  rintro e w3 ⟨rfl, hb⟩
  have A3 := Lib.hid (down A2.out hb)
  have D3 := Lib.hid (D2.out.keep hb)
  clear hb A2 D2 d2_0 d2_1 d2_2 d2_z
  obtain ⟨d3_0, d3_1, d3_2, d3_z⟩ := D3.out
  go_wp2_with fail
  refine (H3.out _ (ht.out.below (grow A3.out _))).mono ?_
  rintro e w4 ⟨rfl, hb⟩
  have A4 := Lib.hid (down (grow A3.out _) hb)
  have D4 := Lib.hid ((D3.out.old _).keep hb)
  have X4 := Lib.hid (Box.new hb)
  clear hb A3 D3 d3_0 d3_1 d3_2 d3_z
  obtain ⟨d4_0, d4_1, d4_2, d4_z⟩ := D4.out
  obtain ⟨x4_0, x4_1, x4_2, x4_z⟩ := X4.out
  go_wp2_with fail
  refine (H4.out _ (ht.out.below (grow A4.out _))).mono ?_
  rintro e w5 ⟨rfl, hb⟩
  have A5 := Lib.hid (down (grow A4.out _) hb)
  have D5 := Lib.hid ((D4.out.old _).keep hb)
  have X5 := Lib.hid ((X4.out.old _).keep hb)
  have Z5 := Lib.hid (Box.new hb)
  clear hb A4 D4 X4 d4_0 d4_1 d4_2 d4_z x4_0 x4_1 x4_2 x4_z
  obtain ⟨d5_0, d5_1, d5_2, d5_z⟩ := D5.out
  obtain ⟨x5_0, x5_1, x5_2, x5_z⟩ := X5.out
  obtain ⟨z5_0, z5_1, z5_2, z5_z⟩ := Z5.out
  have HT : Hid (∀ x : Kept w5, Tabs x.wd) := fun x => ht.out.below (down A5.out x.ok)
  have kd0 : ∀ x : Kept w5, x.wd.cell? ⟨w.heap.size, 0, none⟩ = some (.int .i64 (y)) := fun x => (D5.out.keep x.ok).c0
  have kd1 : ∀ x : Kept w5, x.wd.cell? ⟨w.heap.size, 1, none⟩ = some (.int .i64 (m)) := fun x => (D5.out.keep x.ok).c1
  have kd2 : ∀ x : Kept w5, x.wd.cell? ⟨w.heap.size, 2, none⟩ = some (.int .i64 (d)) := fun x => (D5.out.keep x.ok).c2
  have kx0 : ∀ x : Kept w5, x.wd.cell? ⟨w3.heap.size, 0, none⟩ = some (.int .i64 (y)) := fun x => (X5.out.keep x.ok).c0
  have kx1 : ∀ x : Kept w5, x.wd.cell? ⟨w3.heap.size, 1, none⟩ = some (.int .i64 (m)) := fun x => (X5.out.keep x.ok).c1
  have kx2 : ∀ x : Kept w5, x.wd.cell? ⟨w3.heap.size, 2, none⟩ = some (.int .i64 (d)) := fun x => (X5.out.keep x.ok).c2
  have kz0 : ∀ x : Kept w5, x.wd.cell? ⟨w4.heap.size, 0, none⟩ = some (.int .i64 (a)) := fun x => (Z5.out.keep x.ok).c0
  have kz1 : ∀ x : Kept w5, x.wd.cell? ⟨w4.heap.size, 1, none⟩ = some (.int .i64 (12)) := fun x => (Z5.out.keep x.ok).c1
  have kz2 : ∀ x : Kept w5, x.wd.cell? ⟨w4.heap.size, 2, none⟩ = some (.int .i64 (c)) := fun x => (Z5.out.keep x.ok).c2
  go_wp2
  refine wp_region_kept (by kernel_rfl) (by kernel_rfl) ?_
  repeat (go_big_quiet_step (first
    | (go_at_call 17; exact kept_call _ (H5.out _ (HT.out _)))))
  refine wpQuiet_nil ?_
  intro w6 hx
  obtain ⟨⟨xx, hb⟩, hw⟩ := hx
  replace hw : w6 = xx := hw
  subst xx
  clear kd0 kd1 kd2 kx0 kx1 kx2 kz0 kz1 kz2
  have A6 := Lib.hid (down A5.out hb)
  have D6 := Lib.hid (D5.out.keep hb)
  have X6 := Lib.hid (X5.out.keep hb)
  have Z6 := Lib.hid (Z5.out.keep hb)
  clear hb A5 D5 X5 Z5 d5_0 d5_1 d5_2 d5_z x5_0 x5_1 x5_2 x5_z z5_0 z5_1 z5_2 z5_z
  obtain ⟨d6_0, d6_1, d6_2, d6_z⟩ := D6.out
  obtain ⟨x6_0, x6_1, x6_2, x6_z⟩ := X6.out
  obtain ⟨z6_0, z6_1, z6_2, z6_z⟩ := Z6.out
  clear HT
  go_wp2_with fail
  refine (H6.out _ (ht.out.below A6.out)).mono ?_
  rintro e w7 ⟨rfl, hb⟩
  have A7 := Lib.hid (down A6.out hb)
  have D7 := Lib.hid (D6.out.keep hb)
  have X7 := Lib.hid (X6.out.keep hb)
  have Z7 := Lib.hid (Z6.out.keep hb)
  clear hb A6 D6 X6 Z6 d6_0 d6_1 d6_2 d6_z x6_0 x6_1 x6_2 x6_z z6_0 z6_1 z6_2 z6_z
  obtain ⟨d7_0, d7_1, d7_2, d7_z⟩ := D7.out
  obtain ⟨x7_0, x7_1, x7_2, x7_z⟩ := X7.out
  obtain ⟨z7_0, z7_1, z7_2, z7_z⟩ := Z7.out
  go_wp2
  obtain ⟨w8, hw8⟩ : ∃ w' : World, ((w7.alloc (.cells #[.int .i64 ((a + 1)), .int .i64 (1), .int .i64 (1)] 29)).alloc (.cells #[.int .i64 (a), .int .i64 (12), .int .i64 (c + 1)] 29)) = w' := ⟨_, rfl⟩
  rw [hw8]
  have hb : Below ((w7.alloc (.cells #[.int .i64 ((a + 1)), .int .i64 (1), .int .i64 (1)] 29)).alloc (.cells #[.int .i64 (a), .int .i64 (12), .int .i64 (c + 1)] 29)).heap.size ((w7.alloc (.cells #[.int .i64 ((a + 1)), .int .i64 (1), .int .i64 (1)] 29)).alloc (.cells #[.int .i64 (a), .int .i64 (12), .int .i64 (c + 1)] 29)) w8 := by rw [hw8]; exact here _
  clear hw8
  have A8 := Lib.hid (down (grow (grow A7.out _) _) hb)
  have le_V : Hid (w.heap.size ≤ w7.heap.size + 1) := by show _ ≤ _; have := A7.out.size; omega
  have ne_Q_V : Hid (w7.heap.size ≠ w7.heap.size + 1) := by show _ ≠ _; omega
  have ne_D_V : Hid (w.heap.size ≠ w7.heap.size + 1) := by show _ ≠ _; have := D7.out.lt; omega
  have D8 := Lib.hid (((D7.out.old _).old _).keep hb)
  have ne_X_V : Hid (w3.heap.size ≠ w7.heap.size + 1) := by show _ ≠ _; have := X7.out.lt; omega
  have X8 := Lib.hid (((X7.out.old _).old _).keep hb)
  have ne_Z_V : Hid (w4.heap.size ≠ w7.heap.size + 1) := by show _ ≠ _; have := Z7.out.lt; omega
  have Z8 := Lib.hid (((Z7.out.old _).old _).keep hb)
  have Q8 := Lib.hid (Box.fst hb)
  have V8 := Lib.hid (Box.snd hb)
  have FV8 := Lib.hid (Free.snd hb)
  clear hb A7 D7 X7 Z7 d7_0 d7_1 d7_2 d7_z x7_0 x7_1 x7_2 x7_z z7_0 z7_1 z7_2 z7_z
  obtain ⟨d8_0, d8_1, d8_2, d8_z⟩ := D8.out
  obtain ⟨x8_0, x8_1, x8_2, x8_z⟩ := X8.out
  obtain ⟨z8_0, z8_1, z8_2, z8_z⟩ := Z8.out
  obtain ⟨q8_0, q8_1, q8_2, q8_z⟩ := Q8.out
  obtain ⟨v8_0, v8_1, v8_2, v8_z⟩ := V8.out
  obtain ⟨v8_f0, v8_f1, v8_f2⟩ := FV8.out
  have HT : Hid (∀ x : Kept w8, Tabs x.wd) := fun x => ht.out.below (down A8.out x.ok)
  have kd0 : ∀ x : Kept w8, x.wd.cell? ⟨w.heap.size, 0, none⟩ = some (.int .i64 (y)) := fun x => (D8.out.keep x.ok).c0
  have kd1 : ∀ x : Kept w8, x.wd.cell? ⟨w.heap.size, 1, none⟩ = some (.int .i64 (m)) := fun x => (D8.out.keep x.ok).c1
  have kd2 : ∀ x : Kept w8, x.wd.cell? ⟨w.heap.size, 2, none⟩ = some (.int .i64 (d)) := fun x => (D8.out.keep x.ok).c2
  have kx0 : ∀ x : Kept w8, x.wd.cell? ⟨w3.heap.size, 0, none⟩ = some (.int .i64 (y)) := fun x => (X8.out.keep x.ok).c0
  have kx1 : ∀ x : Kept w8, x.wd.cell? ⟨w3.heap.size, 1, none⟩ = some (.int .i64 (m)) := fun x => (X8.out.keep x.ok).c1
  have kx2 : ∀ x : Kept w8, x.wd.cell? ⟨w3.heap.size, 2, none⟩ = some (.int .i64 (d)) := fun x => (X8.out.keep x.ok).c2
  have kz0 : ∀ x : Kept w8, x.wd.cell? ⟨w4.heap.size, 0, none⟩ = some (.int .i64 (a)) := fun x => (Z8.out.keep x.ok).c0
  have kz1 : ∀ x : Kept w8, x.wd.cell? ⟨w4.heap.size, 1, none⟩ = some (.int .i64 (12)) := fun x => (Z8.out.keep x.ok).c1
  have kz2 : ∀ x : Kept w8, x.wd.cell? ⟨w4.heap.size, 2, none⟩ = some (.int .i64 (c)) := fun x => (Z8.out.keep x.ok).c2
  have kq0 : ∀ x : Kept w8, x.wd.cell? ⟨w7.heap.size, 0, none⟩ = some (.int .i64 ((a + 1))) := fun x => (Q8.out.keep x.ok).c0
  have kq1 : ∀ x : Kept w8, x.wd.cell? ⟨w7.heap.size, 1, none⟩ = some (.int .i64 (1)) := fun x => (Q8.out.keep x.ok).c1
  have kq2 : ∀ x : Kept w8, x.wd.cell? ⟨w7.heap.size, 2, none⟩ = some (.int .i64 (1)) := fun x => (Q8.out.keep x.ok).c2
  have kv0 : ∀ x : Kept w8, x.wd.cell? ⟨w7.heap.size + 1, 0, none⟩ = some (.int .i64 (a)) := fun x => (V8.out.keep x.ok).c0
  have kv1 : ∀ x : Kept w8, x.wd.cell? ⟨w7.heap.size + 1, 1, none⟩ = some (.int .i64 (12)) := fun x => (V8.out.keep x.ok).c1
  have kv2 : ∀ x : Kept w8, x.wd.cell? ⟨w7.heap.size + 1, 2, none⟩ = some (.int .i64 (c + 1)) := fun x => (V8.out.keep x.ok).c2
  refine wp_region_kept (by kernel_rfl) (by kernel_rfl) ?_
  repeat (go_big_quiet_step (first
    | (go_at_call 17; exact kept_call _ (H5.out _ (HT.out _)))))
  refine wpQuiet_nil ?_
  intro w9 hx
  obtain ⟨⟨xx, hb⟩, hw⟩ := hx
  replace hw : w9 = xx := hw
  subst xx
  clear kd0 kd1 kd2 kx0 kx1 kx2 kz0 kz1 kz2 kq0 kq1 kq2 kv0 kv1 kv2
  have A9 := Lib.hid (down A8.out hb)
  have D9 := Lib.hid (D8.out.keep hb)
  have X9 := Lib.hid (X8.out.keep hb)
  have Z9 := Lib.hid (Z8.out.keep hb)
  have Q9 := Lib.hid (Q8.out.keep hb)
  have V9 := Lib.hid (V8.out.keep hb)
  have FV9 := Lib.hid (FV8.out.keep V8.out.lt hb)
  clear hb A8 D8 X8 Z8 Q8 V8 FV8 d8_0 d8_1 d8_2 d8_z x8_0 x8_1 x8_2 x8_z z8_0 z8_1 z8_2 z8_z q8_0 q8_1 q8_2 q8_z v8_0 v8_1 v8_2 v8_z v8_f0 v8_f1 v8_f2
  obtain ⟨d9_0, d9_1, d9_2, d9_z⟩ := D9.out
  obtain ⟨x9_0, x9_1, x9_2, x9_z⟩ := X9.out
  obtain ⟨z9_0, z9_1, z9_2, z9_z⟩ := Z9.out
  obtain ⟨q9_0, q9_1, q9_2, q9_z⟩ := Q9.out
  obtain ⟨v9_0, v9_1, v9_2, v9_z⟩ := V9.out
  obtain ⟨v9_f0, v9_f1, v9_f2⟩ := FV9.out
  go_wp2
  go_region
  obtain ⟨w10, hw10⟩ : ∃ w' : World, w9.setCell ⟨w7.heap.size + 1, 2, none⟩ (.int .i64 (1)) = w' := ⟨_, rfl⟩
  have A10 : Hid (Below w.heap.size w w10) := by rw [← hw10]; exact A9.out.setCell le_V.out _
  have D10 : Hid (Box w10 (w.heap.size) (.int .i64 (y)) (.int .i64 (m)) (.int .i64 (d))) := by rw [← hw10]; exact D9.out.far (ne_D_V.out.symm) _ _
  have X10 : Hid (Box w10 (w3.heap.size) (.int .i64 (y)) (.int .i64 (m)) (.int .i64 (d))) := by rw [← hw10]; exact X9.out.far (ne_X_V.out.symm) _ _
  have Z10 : Hid (Box w10 (w4.heap.size) (.int .i64 (a)) (.int .i64 (12)) (.int .i64 (c))) := by rw [← hw10]; exact Z9.out.far (ne_Z_V.out.symm) _ _
  have Q10 : Hid (Box w10 (w7.heap.size) (.int .i64 ((a + 1))) (.int .i64 (1)) (.int .i64 (1))) := by rw [← hw10]; exact Q9.out.far (ne_Q_V.out.symm) _ _
  have V10 : Hid (Box w10 (w7.heap.size + 1) (.int .i64 (a)) (.int .i64 (12)) (.int .i64 (1))) := by rw [← hw10]; exact V9.out.put2 _
  have FV10 : Hid (Free w10 (w7.heap.size + 1)) := by rw [← hw10]; exact FV9.out.set _ _
  obtain ⟨w11, hw11⟩ : ∃ w' : World, w10.setCell ⟨w7.heap.size + 1, 1, none⟩ (.int .i64 (13)) = w' := ⟨_, rfl⟩
  have A11 : Hid (Below w.heap.size w w11) := by rw [← hw11]; exact A10.out.setCell le_V.out _
  have D11 : Hid (Box w11 (w.heap.size) (.int .i64 (y)) (.int .i64 (m)) (.int .i64 (d))) := by rw [← hw11]; exact D10.out.far (ne_D_V.out.symm) _ _
  have X11 : Hid (Box w11 (w3.heap.size) (.int .i64 (y)) (.int .i64 (m)) (.int .i64 (d))) := by rw [← hw11]; exact X10.out.far (ne_X_V.out.symm) _ _
  have Z11 : Hid (Box w11 (w4.heap.size) (.int .i64 (a)) (.int .i64 (12)) (.int .i64 (c))) := by rw [← hw11]; exact Z10.out.far (ne_Z_V.out.symm) _ _
  have Q11 : Hid (Box w11 (w7.heap.size) (.int .i64 ((a + 1))) (.int .i64 (1)) (.int .i64 (1))) := by rw [← hw11]; exact Q10.out.far (ne_Q_V.out.symm) _ _
  have V11 : Hid (Box w11 (w7.heap.size + 1) (.int .i64 (a)) (.int .i64 (13)) (.int .i64 (1))) := by rw [← hw11]; exact V10.out.put1 _
  have FV11 : Hid (Free w11 (w7.heap.size + 1)) := by rw [← hw11]; exact FV10.out.set _ _
  obtain ⟨w12, hw12⟩ : ∃ w' : World, w11.drew = w' := ⟨_, rfl⟩
  have A12 : Hid (Below w.heap.size w w12) := by rw [← hw12]; exact A11.out.drew
  have D12 : Hid (Box w12 (w.heap.size) (.int .i64 (y)) (.int .i64 (m)) (.int .i64 (d))) := by rw [← hw12]; exact D11.out.drew
  have X12 : Hid (Box w12 (w3.heap.size) (.int .i64 (y)) (.int .i64 (m)) (.int .i64 (d))) := by rw [← hw12]; exact X11.out.drew
  have Z12 : Hid (Box w12 (w4.heap.size) (.int .i64 (a)) (.int .i64 (12)) (.int .i64 (c))) := by rw [← hw12]; exact Z11.out.drew
  have Q12 : Hid (Box w12 (w7.heap.size) (.int .i64 ((a + 1))) (.int .i64 (1)) (.int .i64 (1))) := by rw [← hw12]; exact Q11.out.drew
  have V12 : Hid (Box w12 (w7.heap.size + 1) (.int .i64 (a)) (.int .i64 (13)) (.int .i64 (1))) := by rw [← hw12]; exact V11.out.drew
  have FV12 : Hid (Free w12 (w7.heap.size + 1)) := by rw [← hw12]; exact FV11.out.drewN 1
  rw [hw10, hw11, hw12]
  clear d9_0 d9_1 d9_2 d9_z x9_0 x9_1 x9_2 x9_z z9_0 z9_1 z9_2 z9_z q9_0 q9_1 q9_2 q9_z v9_0 v9_1 v9_2 v9_z v9_f0 v9_f1 v9_f2
  obtain ⟨d12_0, d12_1, d12_2, d12_z⟩ := D12.out
  obtain ⟨x12_0, x12_1, x12_2, x12_z⟩ := X12.out
  obtain ⟨z12_0, z12_1, z12_2, z12_z⟩ := Z12.out
  obtain ⟨q12_0, q12_1, q12_2, q12_z⟩ := Q12.out
  obtain ⟨v12_0, v12_1, v12_2, v12_z⟩ := V12.out
  obtain ⟨v12_f0, v12_f1, v12_f2⟩ := FV12.out
  clear hw10 hw11 hw12
  go_wp2
  go_region
  obtain ⟨w13, hw13⟩ : ∃ w' : World, w12.setCell ⟨w7.heap.size + 1, 1, none⟩ (.int .i64 (1)) = w' := ⟨_, rfl⟩
  have A13 : Hid (Below w.heap.size w w13) := by rw [← hw13]; exact A12.out.setCell le_V.out _
  have D13 : Hid (Box w13 (w.heap.size) (.int .i64 (y)) (.int .i64 (m)) (.int .i64 (d))) := by rw [← hw13]; exact D12.out.far (ne_D_V.out.symm) _ _
  have X13 : Hid (Box w13 (w3.heap.size) (.int .i64 (y)) (.int .i64 (m)) (.int .i64 (d))) := by rw [← hw13]; exact X12.out.far (ne_X_V.out.symm) _ _
  have Z13 : Hid (Box w13 (w4.heap.size) (.int .i64 (a)) (.int .i64 (12)) (.int .i64 (c))) := by rw [← hw13]; exact Z12.out.far (ne_Z_V.out.symm) _ _
  have Q13 : Hid (Box w13 (w7.heap.size) (.int .i64 ((a + 1))) (.int .i64 (1)) (.int .i64 (1))) := by rw [← hw13]; exact Q12.out.far (ne_Q_V.out.symm) _ _
  have V13 : Hid (Box w13 (w7.heap.size + 1) (.int .i64 (a)) (.int .i64 (1)) (.int .i64 (1))) := by rw [← hw13]; exact V12.out.put1 _
  have FV13 : Hid (Free w13 (w7.heap.size + 1)) := by rw [← hw13]; exact FV12.out.set _ _
  obtain ⟨w14, hw14⟩ : ∃ w' : World, w13.setCell ⟨w7.heap.size + 1, 0, none⟩ (.int .i64 (a + 1)) = w' := ⟨_, rfl⟩
  have A14 : Hid (Below w.heap.size w w14) := by rw [← hw14]; exact A13.out.setCell le_V.out _
  have D14 : Hid (Box w14 (w.heap.size) (.int .i64 (y)) (.int .i64 (m)) (.int .i64 (d))) := by rw [← hw14]; exact D13.out.far (ne_D_V.out.symm) _ _
  have X14 : Hid (Box w14 (w3.heap.size) (.int .i64 (y)) (.int .i64 (m)) (.int .i64 (d))) := by rw [← hw14]; exact X13.out.far (ne_X_V.out.symm) _ _
  have Z14 : Hid (Box w14 (w4.heap.size) (.int .i64 (a)) (.int .i64 (12)) (.int .i64 (c))) := by rw [← hw14]; exact Z13.out.far (ne_Z_V.out.symm) _ _
  have Q14 : Hid (Box w14 (w7.heap.size) (.int .i64 ((a + 1))) (.int .i64 (1)) (.int .i64 (1))) := by rw [← hw14]; exact Q13.out.far (ne_Q_V.out.symm) _ _
  have V14 : Hid (Box w14 (w7.heap.size + 1) (.int .i64 (a + 1)) (.int .i64 (1)) (.int .i64 (1))) := by rw [← hw14]; exact V13.out.put0 _
  have FV14 : Hid (Free w14 (w7.heap.size + 1)) := by rw [← hw14]; exact FV13.out.set _ _
  obtain ⟨w15, hw15⟩ : ∃ w' : World, w14.drew = w' := ⟨_, rfl⟩
  have A15 : Hid (Below w.heap.size w w15) := by rw [← hw15]; exact A14.out.drew
  have D15 : Hid (Box w15 (w.heap.size) (.int .i64 (y)) (.int .i64 (m)) (.int .i64 (d))) := by rw [← hw15]; exact D14.out.drew
  have X15 : Hid (Box w15 (w3.heap.size) (.int .i64 (y)) (.int .i64 (m)) (.int .i64 (d))) := by rw [← hw15]; exact X14.out.drew
  have Z15 : Hid (Box w15 (w4.heap.size) (.int .i64 (a)) (.int .i64 (12)) (.int .i64 (c))) := by rw [← hw15]; exact Z14.out.drew
  have Q15 : Hid (Box w15 (w7.heap.size) (.int .i64 ((a + 1))) (.int .i64 (1)) (.int .i64 (1))) := by rw [← hw15]; exact Q14.out.drew
  have V15 : Hid (Box w15 (w7.heap.size + 1) (.int .i64 (a + 1)) (.int .i64 (1)) (.int .i64 (1))) := by rw [← hw15]; exact V14.out.drew
  have FV15 : Hid (Free w15 (w7.heap.size + 1)) := by rw [← hw15]; exact FV14.out.drewN 1
  rw [hw13, hw14, hw15]
  clear d12_0 d12_1 d12_2 d12_z x12_0 x12_1 x12_2 x12_z z12_0 z12_1 z12_2 z12_z q12_0 q12_1 q12_2 q12_z v12_0 v12_1 v12_2 v12_z v12_f0 v12_f1 v12_f2
  obtain ⟨d15_0, d15_1, d15_2, d15_z⟩ := D15.out
  obtain ⟨x15_0, x15_1, x15_2, x15_z⟩ := X15.out
  obtain ⟨z15_0, z15_1, z15_2, z15_z⟩ := Z15.out
  obtain ⟨q15_0, q15_1, q15_2, q15_z⟩ := Q15.out
  obtain ⟨v15_0, v15_1, v15_2, v15_z⟩ := V15.out
  obtain ⟨v15_f0, v15_f1, v15_f2⟩ := FV15.out
  clear hw13 hw14 hw15
  go_wp2
  go_ret
  exact ⟨rfl, by first | exact A15.out | exact grow A15.out _ | exact below_drewN A15.out _ | exact grow (grow A15.out _) _ | exact grow (grow (grow A15.out _) _) _⟩
theorem walk (k y m d n : Int) (hk : (Lit.int .i64 k).wf = true) (hy : (Lit.int .i64 y).wf = true) (hm : (Lit.int .i64 m).wf = true) (hd : (Lit.int .i64 d).wf = true) (hn : (Lit.int .i64 n).wf = true) (w : World) (ht : Tabs w) :
    Calls Tryd.prog 7 #[.int .i64 k, .agg #[.int .i64 y, .int .i64 m, .int .i64 d], .int .i64 n] w fun e w' => e = .returned (.bool true) ∧ Below w.heap.size w w' := by
  replace hk := i64_wf hk
  replace hy := i64_wf hy
  replace hm := i64_wf hm
  replace hd := i64_wf hd
  replace hn := i64_wf hn
  have H1 := fun w ht => uiday k y m d hk hy hm hd w ht
  have part : (∃ E2 : Int, (E2 != 0) = true ∧ ∀ w, Tabs w → Calls Tryd.prog 25 #[.int .i64 k, .int .i64 n] w fun e w' => e = .returned (.tuple #[.agg #[.int .i64 0, .int .i64 0, .int .i64 0], .int .i64 E2]) ∧ Below w.heap.size w w') ∨ 1 ≤ k ∧ k ≤ 4 ∧ ∃ a b c, ivld k a b c = true ∧ idayN k a b c = n := by
    cases h : ikd k
    · exact .inl ⟨1, rfl, fun w ht => uidate_kind k n hk hn h w ht⟩
    · obtain ⟨k0, k1⟩ := ikd_iff.1 h
      by_cases r : n < -492148 ∨ 2909772 ≤ n
      · exact .inl ⟨2, rfl, fun w ht => uidate_out k n hn h r w ht⟩
      · exact .inr ⟨k0, k1, idate_of k0 k1 (by omega) (by omega)⟩
  rcases part with ⟨E2, kE2, H3⟩ | ⟨k0, k1, a, b, c, hv, he⟩
  · rcases iday_fate k y m d with ⟨h, q⟩ | ⟨h, q, e, -⟩
    · exact go_no_no k n y m d _ _ (by rw [h]; rfl) H1 E2 kE2 H3 w ht
    · rw [h, e] at H1
      exact go_ok_no k n y m d _ H1 (fun w ht => uidate_yes k _ y m d q rfl w ht) E2 kE2 H3 w ht
  · obtain ⟨-, -, a0, a1, b0, b1, c0, c1⟩ := ivld_bd hv
    have rg := iday_range hv
    rw [he] at rg
    have v := ivld_iff.1 hv
    have lb := ilenM_bd k a b
    have H3 := fun w ht => uidate_yes k n a b c hv he w ht
    have H4 := fun w ht => uiday k a b c hk ⟨by omega, by omega⟩ ⟨by omega, by omega⟩ ⟨by omega, by omega⟩ w ht
    rw [show idN k a b c = n by unfold idN; rw [if_pos hv, he], show idE k a b c = 0 by unfold idE; rw [if_pos hv]] at H4
    have H5 := fun w ht => uilen k a b hk ⟨by omega, by omega⟩ ⟨by omega, by omega⟩ w ht
    by_cases z : n = 2909771
    · obtain ⟨rfl, rfl, rfl⟩ := ilast_day hv (by omega)
      have H6 := fun w ht => uidate_out k (n + 1) ⟨by omega, by omega⟩ (ikd_iff.2 ⟨k0, k1⟩) (by omega) w ht
      rcases iday_fate k y m d with ⟨h, q⟩ | ⟨h, q, e, -⟩
      · exact go_no_last k n y m d _ _ (by rw [h]; rfl) H1 _ c0 (by omega) (by omega) (by omega) H3 H4 H5 2 rfl H6 w ht
      · rw [h, e] at H1
        exact go_ok_last k n y m d _ H1 (fun w ht => uidate_yes k _ y m d q rfl w ht) _ c0 (by omega) (by omega) (by omega) H3 H4 H5 2 rfl H6 w ht
    · by_cases u : c < ilenM k a b
      · have x := inext_in hv u
        have H6 := fun w ht => uidate_yes k (n + 1) a b (c + 1) x.1 (by rw [x.2, he]) w ht
        rcases iday_fate k y m d with ⟨h, q⟩ | ⟨h, q, e, -⟩
        · exact go_no_inner k n y m d _ _ (by rw [h]; rfl) H1 a b c _ a0 a1 b0 b1 c0 (by omega) (by omega) (by omega) (by omega) H3 H4 H5 (by omega) H6 w ht
        · rw [h, e] at H1
          exact go_ok_inner k n y m d _ H1 (fun w ht => uidate_yes k _ y m d q rfl w ht) a b c _ a0 a1 b0 b1 c0 (by omega) (by omega) (by omega) (by omega) H3 H4 H5 (by omega) H6 w ht
      · by_cases bm : b < 12
        · have x := inext_month hv (by omega) bm
          have H6 := fun w ht => uidate_yes k (n + 1) a (b + 1) 1 x.1 (by rw [x.2, he]) w ht
          rcases iday_fate k y m d with ⟨h, q⟩ | ⟨h, q, e, -⟩
          · exact go_no_month k n y m d _ _ (by rw [h]; rfl) H1 a b c _ a0 a1 b0 b1 c0 (by omega) (by omega) (by omega) (by omega) H3 H4 H5 (by omega) (by omega) H6 w ht
          · rw [h, e] at H1
            exact go_ok_month k n y m d _ H1 (fun w ht => uidate_yes k _ y m d q rfl w ht) a b c _ a0 a1 b0 b1 c0 (by omega) (by omega) (by omega) (by omega) H3 H4 H5 (by omega) (by omega) H6 w ht
        · have ay : a < 9600 := by
            rcases Int.lt_or_le a 9600 with r | r
            · exact r
            · obtain rfl : a = 9600 := by omega
              obtain rfl : b = 12 := by omega
              have hr := ivld_yr hv
              have s := icumL_succ hr (m := 12) (by omega) (by omega)
              have l := icumL_late (k := k) (y := 9600) (m := 12) (by omega)
              have f := ifirst_succ (y := 9600) k0 k1 (by omega)
              have g := ifirst_last k0 k1
              rw [show (9600 : Int) + 1 = 9601 by omega] at f
              rw [show (12 : Int) + 1 = 13 by omega, icumL_end] at s
              unfold idayN at he
              omega
          have x := inext_year hv (by omega) (by omega) ay
          have H6 := fun w ht => uidate_yes k (n + 1) (a + 1) 1 1 x.1 (by rw [x.2, he]) w ht
          rcases iday_fate k y m d with ⟨h, q⟩ | ⟨h, q, e, -⟩
          · exact go_no_year k n y m d _ _ (by rw [h]; rfl) H1 a b c _ a0 a1 b0 b1 c0 (by omega) (by omega) (by omega) (by omega) H3 H4 H5 (by omega) (by omega) H6 w ht
          · rw [h, e] at H1
            exact go_ok_year k n y m d _ H1 (fun w ht => uidate_yes k _ y m d q rfl w ht) a b c _ a0 a1 b0 b1 c0 (by omega) (by omega) (by omega) (by omega) H3 H4 H5 (by omega) (by omega) H6 w ht
end IslamicBack
end Go.Proofs.YtobipbmigpkhmaaDoor

/- The contract of package civil's AddMonths. -/
import Derived.Test.YtdhedkcbkchpgaaDoorCivB
import Derived.Test.YtdhedkcbkchpgaaDoorRefG
namespace Go.Proofs.YtdhedkcbkchpgaaDoor
open Go.RowKit
set_option linter.unusedVariables false

theorem cadd (a b : Int) (ha : I64 a) (hb : I64 b) (w : World) :
    Calls Tryd.prog 44 #[.int .i64 a, .int .i64 b] w fun e w' => e = .returned (.tuple #[.int .i64 (xV (a + b)), .int .i64 (xE (a + b))]) ∧ w = w' := add_all a b ha.1 ha.2 hb.1 hb.2 w
/-- Both boxes that AddMonths begins with. -/
abbrev addW (w : World) (y m d : Int) : World := (w.alloc (.cells #[.int .i64 y, .int .i64 m, .int .i64 d] 23)).alloc (.cells #[.int .i64 0, .int .i64 0, .int .i64 0] 23)
theorem cadd_arg (y m d n : Int) (hy : I64 y) (hm : I64 m) (hd : I64 d) (h : vld y m d = false) (w : World) (ht : Lens w) :
    Calls Tryd.prog 29 #[.agg #[.int .i64 y, .int .i64 m, .int .i64 d], .int .i64 n] w fun e w' => e = .returned (.tuple #[.agg #[.int .i64 0, .int .i64 0, .int .i64 0], .int .i64 1]) ∧ Below w.heap.size w w' := by
  have HV := fun w ht => cvalid y m d hy hm hd w ht
  rw [h] at HV
  replace HV := Lib.hid HV
  have ht2 : Hid (Lens (addW w y m d)) := lens_alloc (lens_alloc ht _) _
  clear ht
  go_enter Tryd.func29, Tryd.ntmps29
  go_wp2_with fail
  refine (HV.out _ ht2.out).mono ?_
  rintro e w1 ⟨rfl, hb⟩
  obtain ⟨⟨c0, c1, c2⟩, ⟨d0, d1, d2⟩, ⟨g0, g1, g2⟩, hsz, hb2⟩ := two_boxes hb
  clear hb
  go_wp2
  exact bodyPost_ret (v := .tuple #[.agg #[.int .i64 0, .int .i64 0, .int .i64 0], .int .i64 1]) (by simp [results, Tryd.results29, go_sem, d0, d1, d2]) rfl ⟨rfl, ((hb2.setCell (Nat.le_succ _) _).setCell (Nat.le_succ _) _).setCell (Nat.le_succ _) _⟩
theorem cadd_big (y m d n : Int) (hn : I64 n) (h : vld y m d = true) (hk : 9223372036854775807 < 12 * y + m - 1 + n) (w : World) (ht : Lens w) :
    Calls Tryd.prog 29 #[.agg #[.int .i64 y, .int .i64 m, .int .i64 d], .int .i64 n] w fun e w' => e = .returned (.tuple #[.agg #[.int .i64 0, .int .i64 0, .int .i64 0], .int .i64 2]) ∧ Below w.heap.size w w' := by
  obtain ⟨y0, y1, m0, m1, e0, e1⟩ := vld_bd h
  have HV := fun w ht => cvalid y m d ⟨by omega, by omega⟩ ⟨by omega, by omega⟩ ⟨by omega, by omega⟩ w ht
  rw [h] at HV
  replace HV := Lib.hid HV
  have HA := fun w => cadd (12 * y + m - 1) n ⟨by omega, by omega⟩ hn w
  rw [xV_out (by omega), xE_out (by omega)] at HA
  replace HA := Lib.hid HA
  have ht2 : Hid (Lens (addW w y m d)) := lens_alloc (lens_alloc ht _) _
  clear ht hk h
  go_enter Tryd.func29, Tryd.ntmps29
  go_wp2_with fail
  refine (HV.out _ ht2.out).mono ?_
  rintro e w1 ⟨rfl, hb⟩
  obtain ⟨⟨c0, c1, c2⟩, ⟨d0, d1, d2⟩, ⟨g0, g1, g2⟩, hsz, hb2⟩ := two_boxes hb
  clear hb
  go_wp2_with fail
  refine (HA.out _).mono ?_
  rintro e w' ⟨rfl, rfl⟩
  go_wp2
  exact bodyPost_ret (v := .tuple #[.agg #[.int .i64 0, .int .i64 0, .int .i64 0], .int .i64 2]) (by simp [results, Tryd.results29, go_sem, d0, d1, d2]) rfl ⟨rfl, ((hb2.setCell (Nat.le_succ _) _).setCell (Nat.le_succ _) _).setCell (Nat.le_succ _) _⟩
theorem cadd_year (y m d n k : Int) (hn : I64 n) (h : vld y m d = true) (hk : 12 * y + m - 1 + n = k) (k0 : I64 k) (hr : k < 12 ∨ 120000 ≤ k) (w : World) (ht : Lens w) :
    Calls Tryd.prog 29 #[.agg #[.int .i64 y, .int .i64 m, .int .i64 d], .int .i64 n] w fun e w' => e = .returned (.tuple #[.agg #[.int .i64 0, .int .i64 0, .int .i64 0], .int .i64 2]) ∧ Below w.heap.size w w' := by
  obtain ⟨y0, y1, m0, m1, e0, e1⟩ := vld_bd h
  have HV := fun w ht => cvalid y m d ⟨by omega, by omega⟩ ⟨by omega, by omega⟩ ⟨by omega, by omega⟩ w ht
  rw [h] at HV
  replace HV := Lib.hid HV
  have HA := fun w => cadd (12 * y + m - 1) n ⟨by omega, by omega⟩ hn w
  rw [hk, xV_in k0, xE_in k0] at HA
  replace HA := Lib.hid HA
  have HD := Lib.hid (fun w => cdiv k 12 k0 (by omega) (by omega) w)
  have HY := fun w => cyear (k / 12) ⟨by have := k0.1; omega, by have := k0.2; omega⟩ w
  have z : yrB (k / 12) = false := by rw [← Bool.not_eq_true, yrB_iff]; omega
  rw [z] at HY
  replace HY := Lib.hid HY
  have ht2 : Hid (Lens (addW w y m d)) := lens_alloc (lens_alloc ht _) _
  clear ht hk h z hr
  generalize k / 12 = q at *
  generalize k % 12 = r at *
  go_enter Tryd.func29, Tryd.ntmps29
  go_wp2_with fail
  refine (HV.out _ ht2.out).mono ?_
  rintro e w1 ⟨rfl, hb⟩
  obtain ⟨⟨c0, c1, c2⟩, ⟨d0, d1, d2⟩, ⟨g0, g1, g2⟩, hsz, hb2⟩ := two_boxes hb
  clear hb
  go_wp2_with fail
  refine (HA.out _).mono ?_
  rintro e w' ⟨rfl, rfl⟩
  go_wp2_with fail
  refine (HD.out _).mono ?_
  rintro e w' ⟨rfl, j, rfl⟩
  go_wp2_with fail
  refine (HY.out _).mono ?_
  rintro e w' ⟨rfl, rfl⟩
  go_wp2
  exact bodyPost_ret (v := .tuple #[.agg #[.int .i64 0, .int .i64 0, .int .i64 0], .int .i64 2]) (by simp [results, Tryd.results29, go_sem, d0, d1, d2]) rfl ⟨rfl, (((below_drewN hb2 _).setCell (Nat.le_succ _) _).setCell (Nat.le_succ _) _).setCell (Nat.le_succ _) _⟩
theorem lens_two {w w1 : World} {y m d : Int} (h : Lens (addW w y m d)) (hb : Below (addW w y m d).heap.size (addW w y m d) w1) : Lens w1 := lens_below h hb
set_option maxRecDepth 100000 in
set_option maxHeartbeats 800000 in
theorem cadd_yes (y m d n k : Int) (hn : I64 n) (h : vld y m d = true) (hk : 12 * y + m - 1 + n = k) (k0 : 12 ≤ k) (k1 : k < 120000) (w : World) (ht : Lens w) :
    Calls Tryd.prog 29 #[.agg #[.int .i64 y, .int .i64 m, .int .i64 d], .int .i64 n] w fun e w' => e = .returned (.tuple #[.agg #[.int .i64 (k / 12), .int .i64 (k % 12 + 1), .int .i64 (min d (lenM (k / 12) (k % 12 + 1)))], .int .i64 0]) ∧ Below w.heap.size w w' := by
  obtain ⟨y0, y1, m0, m1, e0, e1⟩ := vld_bd h
  have HV := fun w ht => cvalid y m d ⟨by omega, by omega⟩ ⟨by omega, by omega⟩ ⟨by omega, by omega⟩ w ht
  rw [h] at HV
  replace HV := Lib.hid HV
  have HA := fun w => cadd (12 * y + m - 1) n ⟨by omega, by omega⟩ hn w
  rw [hk, xV_in ⟨by omega, by omega⟩, xE_in ⟨by omega, by omega⟩] at HA
  replace HA := Lib.hid HA
  have HD := Lib.hid (fun w => cdiv k 12 ⟨by omega, by omega⟩ (by omega) (by omega) w)
  have HY := fun w => cyear (k / 12) ⟨by omega, by omega⟩ w
  have z : yrB (k / 12) = true := by rw [yrB_iff]; omega
  rw [z] at HY
  replace HY := Lib.hid HY
  have HL := Lib.hid (fun w ht => clen (k / 12) (k % 12 + 1) ⟨by omega, by omega⟩ ⟨by omega, by omega⟩ w ht)
  have HMin : min d (lenM (k / 12) (k % 12 + 1)) = if lenM (k / 12) (k % 12 + 1) < d then lenM (k / 12) (k % 12 + 1) else d := by rw [Int.min_def]; split <;> split <;> omega
  rw [HMin]
  have ht2 : Hid (Lens (addW w y m d)) := lens_alloc (lens_alloc ht _) _
  have r0 : 0 ≤ k % 12 ∧ k % 12 ≤ 11 := by omega
  clear ht hk h z HMin
  generalize lenM (k / 12) (k % 12 + 1) = l at *
  generalize k / 12 = q at *
  generalize k % 12 = r at *
  obtain ⟨r0, r1⟩ := r0
  obtain ⟨x, hx⟩ : ∃ x, (if l < d then l else d) = x := ⟨_, rfl⟩
  rw [hx]
  go_enter Tryd.func29, Tryd.ntmps29
  go_wp2_with fail
  refine (HV.out _ ht2.out).mono ?_
  rintro e w1 ⟨rfl, hb⟩
  have ht3 := Lib.hid (lens_two ht2.out hb)
  obtain ⟨⟨c0, c1, c2⟩, ⟨d0, d1, d2⟩, ⟨g0, g1, g2⟩, hsz, hb2⟩ := two_boxes hb
  clear hb HV
  go_wp2_with fail
  refine (HA.out _).mono ?_
  rintro e w' ⟨rfl, rfl⟩
  go_wp2_with fail
  refine (HD.out _).mono ?_
  rintro e w' ⟨rfl, j, rfl⟩
  go_wp2_with fail
  refine (HY.out _).mono ?_
  rintro e w' ⟨rfl, rfl⟩
  go_wp2
  obtain ⟨w2, hw2⟩ : ∃ w2 : World, (w1.drewN j).drewN 1 = w2 := ⟨_, rfl⟩
  refine wp_region_still_tail 9 (by kernel_rfl) (by kernel_rfl) ?_
  change wpStill _ _ ((w1.drewN j).drewN 1) (fun a' => wpList _ _ _ _ a' ((w1.drewN j).drewN 1)) _ _
  rw [hw2]
  have u2 : w2.cell? ⟨w.heap.size, 2, none⟩ = some (.int .i64 d) := by rw [← hw2]; exact c2
  have v0 : w2.cell? ⟨w.heap.size + 1, 0, none⟩ = some (.int .i64 0) := by rw [← hw2]; exact d0
  have v1 : w2.cell? ⟨w.heap.size + 1, 1, none⟩ = some (.int .i64 0) := by rw [← hw2]; exact d1
  have v2 : w2.cell? ⟨w.heap.size + 1, 2, none⟩ = some (.int .i64 0) := by rw [← hw2]; exact d2
  have t0 : w2.frozen? ⟨w.heap.size + 1, 0, none⟩ = false := by rw [← hw2]; exact g0
  have t1 : w2.frozen? ⟨w.heap.size + 1, 1, none⟩ = false := by rw [← hw2]; exact g1
  have t2 : w2.frozen? ⟨w.heap.size + 1, 2, none⟩ = false := by rw [← hw2]; exact g2
  have ht4 : Hid (Lens w2) := by rw [← hw2]; exact ht3.out
  have hb3 : Below w.heap.size w w2 := by rw [← hw2]; exact below_drewN (below_drewN hb2 _) _
  clear c0 c1 c2 d0 d1 d2 g0 g1 g2 hw2 hb2 ht3 ht2
  simp only [List.take_succ_cons, List.take_zero, List.drop_succ_cons, List.drop_zero]
  repeat still_step
  still_call ((HL.out _ ht4.out).mono fun _ _ h => ⟨h.1, h.2.symm⟩)
  repeat still_step
  refine wpStill_nil ?_
  go_wp2
  exact bodyPost_ret (v := .tuple #[.agg #[.int .i64 q, .int .i64 (r + 1), .int .i64 x], .int .i64 0]) (by simp [results, Tryd.results29, go_sem, v0, v1, v2]) rfl ⟨rfl, ((hb3.setCell (Nat.le_succ _) _).setCell (Nat.le_succ _) _).setCell (Nat.le_succ _) _⟩
end Go.Proofs.YtdhedkcbkchpgaaDoor

/- The contract of the reference's AddMonths. -/
import Derived.Test.YtdhedkcbkchpgaaDoorRefB
import Derived.StillTailTactics
import Derived.WalkLawsBesides
namespace Go.Proofs.YtdhedkcbkchpgaaDoor
open Go.RowKit
set_option linter.unusedVariables false

/-- Two boxed structs of three cells are still there, and may be written. -/
theorem two_boxes {w w1 : World} {a b c x y z : Value} {t u : TypeId} (hb : Below ((w.alloc (.cells #[a, b, c] t)).alloc (.cells #[x, y, z] u)).heap.size ((w.alloc (.cells #[a, b, c] t)).alloc (.cells #[x, y, z] u)) w1) :
    (w1.cell? ⟨w.heap.size, 0, none⟩ = some a ∧ w1.cell? ⟨w.heap.size, 1, none⟩ = some b ∧ w1.cell? ⟨w.heap.size, 2, none⟩ = some c) ∧
    (w1.cell? ⟨w.heap.size + 1, 0, none⟩ = some x ∧ w1.cell? ⟨w.heap.size + 1, 1, none⟩ = some y ∧ w1.cell? ⟨w.heap.size + 1, 2, none⟩ = some z) ∧
    (w1.frozen? ⟨w.heap.size + 1, 0, none⟩ = false ∧ w1.frozen? ⟨w.heap.size + 1, 1, none⟩ = false ∧ w1.frozen? ⟨w.heap.size + 1, 2, none⟩ = false) ∧
    w.heap.size + 1 < w1.heap.size ∧ Below w.heap.size w w1 := by
  have e1 : (w.alloc (.cells #[a, b, c] t)).heap.size = w.heap.size + 1 := by simp
  have e2 : ((w.alloc (.cells #[a, b, c] t)).alloc (.cells #[x, y, z] u)).heap.size = w.heap.size + 2 := by simp
  have hs := hb.size
  rw [e2] at hs
  have old : ∀ j v, (w.alloc (.cells #[a, b, c] t)).cell? ⟨w.heap.size, j, none⟩ = some v → w1.cell? ⟨w.heap.size, j, none⟩ = some v := fun j v h => by
    rw [hb.cell (p := ⟨w.heap.size, j, none⟩) (by rw [e2]; show w.heap.size < _; omega), World.cell?_alloc_old _ _ _ (by show w.heap.size ≠ _; rw [e1]; omega)]; exact h
  have new : ∀ j, w1.cell? ⟨w.heap.size + 1, j, none⟩ = ((w.alloc (.cells #[a, b, c] t)).alloc (.cells #[x, y, z] u)).cell? ⟨w.heap.size + 1, j, none⟩ := fun j =>
    hb.cell (p := ⟨w.heap.size + 1, j, none⟩) (by rw [e2]; show w.heap.size + 1 < _; omega)
  have fr : ∀ j, w1.frozen? ⟨w.heap.size + 1, j, none⟩ = ((w.alloc (.cells #[a, b, c] t)).alloc (.cells #[x, y, z] u)).frozen? ⟨w.heap.size + 1, j, none⟩ := fun j =>
    hb.frozen (p := ⟨w.heap.size + 1, j, none⟩) (by rw [e2]; show w.heap.size + 1 < _; omega)
  have f0 : ∀ j, ((w.alloc (.cells #[a, b, c] t)).alloc (.cells #[x, y, z] u)).frozen? ⟨w.heap.size + 1, j, none⟩ = false := fun j => by
    rw [← e1]; exact World.frozen?_alloc_new _ _ _ _
  refine ⟨⟨old 0 a (by rw [World.cell?_alloc_new]; rfl), old 1 b (by rw [World.cell?_alloc_new]; rfl), old 2 c (by rw [World.cell?_alloc_new]; rfl)⟩, ⟨?_, ?_, ?_⟩, ⟨(fr 0).trans (f0 0), (fr 1).trans (f0 1), (fr 2).trans (f0 2)⟩, by omega, ?_⟩
  · rw [new, ← e1, World.cell?_alloc_new]; rfl
  · rw [new, ← e1, World.cell?_alloc_new]; rfl
  · rw [new, ← e1, World.cell?_alloc_new]; rfl
  · exact (((Below.refl _ _).alloc (Nat.le_refl _) _).alloc (by simp) _).trans (hb.mono (by rw [e2]; omega))
theorem third_box {w0 w1 w2 : World} {B : Nat} {a b c : Value} {t : TypeId} (hw : (w1.alloc (.cells #[a, b, c] t)).drewN 1 = w2) (h0 : Below B w0 w1) (hB : B ≤ w1.heap.size) :
    (w2.cell? ⟨w1.heap.size, 0, none⟩ = some a ∧ w2.cell? ⟨w1.heap.size, 1, none⟩ = some b ∧ w2.cell? ⟨w1.heap.size, 2, none⟩ = some c) ∧ w2.frozen? ⟨w1.heap.size, 2, none⟩ = false ∧
    (∀ k j, k < w1.heap.size → w2.cell? ⟨k, j, none⟩ = w1.cell? ⟨k, j, none⟩ ∧ w2.frozen? ⟨k, j, none⟩ = w1.frozen? ⟨k, j, none⟩) ∧ w1.heap.size < w2.heap.size ∧ Below B w0 w2 := by
  have hb : Below (w1.alloc (.cells #[a, b, c] t)).heap.size (w1.alloc (.cells #[a, b, c] t)) w2 := hw ▸ below_drewN (Below.refl _ _) 1
  have hb1 : Below w1.heap.size w1 w2 := box_below hb
  have hs : (w1.alloc (.cells #[a, b, c] t)).heap.size = w1.heap.size + 1 := by simp
  have hz := hb.size
  refine ⟨box_cells hb, ?_, fun k j hk => ⟨hb1.cell hk, hb1.frozen hk⟩, by omega, h0.trans (hb1.mono hB)⟩
  rw [hb.frozen (p := ⟨w1.heap.size, 2, none⟩) (by show w1.heap.size < _; omega)]; exact World.frozen?_alloc_new _ _ _ _
theorem refadd_arg (y m d n : Int) (hy : I64 y) (hm : I64 m) (hd : I64 d) (h : vld y m d = false) (w : World) :
    Calls Tryd.prog 30 #[.agg #[.int .i64 y, .int .i64 m, .int .i64 d], .int .i64 n] w fun e w' => e = .returned (.tuple #[.agg #[.int .i64 0, .int .i64 0, .int .i64 0], .int .i64 1]) ∧ Below w.heap.size w w' := by
  have HV := fun w => refvalid y m d hy hm hd w
  rw [h] at HV
  replace HV := Lib.hid HV
  go_enter Tryd.func30, Tryd.ntmps30
  go_wp2_with fail
  refine (HV.out _).mono ?_
  rintro e w1 ⟨rfl, hb⟩
  obtain ⟨⟨c0, c1, c2⟩, ⟨d0, d1, d2⟩, ⟨g0, g1, g2⟩, hsz, hb2⟩ := two_boxes hb
  clear hb
  go_wp2
  exact bodyPost_ret (v := .tuple #[.agg #[.int .i64 0, .int .i64 0, .int .i64 0], .int .i64 1]) (by simp [results, Tryd.results30, go_sem, d0, d1, d2]) rfl ⟨rfl, ((hb2.setCell (Nat.le_succ _) _).setCell (Nat.le_succ _) _).setCell (Nat.le_succ _) _⟩
theorem refadd_n (y m d n : Int) (h : vld y m d = true) (hn : n < -119988 ∨ 119988 < n) (w : World) :
    Calls Tryd.prog 30 #[.agg #[.int .i64 y, .int .i64 m, .int .i64 d], .int .i64 n] w fun e w' => e = .returned (.tuple #[.agg #[.int .i64 0, .int .i64 0, .int .i64 0], .int .i64 2]) ∧ Below w.heap.size w w' := by
  obtain ⟨y0, y1, m0, m1, e0, e1⟩ := vld_bd h
  have HV := fun w => refvalid y m d ⟨by omega, by omega⟩ ⟨by omega, by omega⟩ ⟨by omega, by omega⟩ w
  rw [h] at HV
  replace HV := Lib.hid HV
  rcases hn with hn | hn
  · have k1 : decide (119988 < n) = false := decide_eq_false (by omega)
    have k2 : decide (n < -119988) = true := decide_eq_true hn
    go_enter Tryd.func30, Tryd.ntmps30
    go_wp2_with fail
    refine (HV.out _).mono ?_
    rintro e w1 ⟨rfl, hb⟩
    obtain ⟨⟨c0, c1, c2⟩, ⟨d0, d1, d2⟩, ⟨g0, g1, g2⟩, hsz, hb2⟩ := two_boxes hb
    clear hb
    go_wp2
    exact bodyPost_ret (v := .tuple #[.agg #[.int .i64 0, .int .i64 0, .int .i64 0], .int .i64 2]) (by simp [results, Tryd.results30, go_sem, d0, d1, d2]) rfl ⟨rfl, ((hb2.setCell (Nat.le_succ _) _).setCell (Nat.le_succ _) _).setCell (Nat.le_succ _) _⟩
  · have k1 : decide (119988 < n) = true := decide_eq_true hn
    go_enter Tryd.func30, Tryd.ntmps30
    go_wp2_with fail
    refine (HV.out _).mono ?_
    rintro e w1 ⟨rfl, hb⟩
    obtain ⟨⟨c0, c1, c2⟩, ⟨d0, d1, d2⟩, ⟨g0, g1, g2⟩, hsz, hb2⟩ := two_boxes hb
    clear hb
    go_wp2
    exact bodyPost_ret (v := .tuple #[.agg #[.int .i64 0, .int .i64 0, .int .i64 0], .int .i64 2]) (by simp [results, Tryd.results30, go_sem, d0, d1, d2]) rfl ⟨rfl, ((hb2.setCell (Nat.le_succ _) _).setCell (Nat.le_succ _) _).setCell (Nat.le_succ _) _⟩
theorem refadd_k (y m d n : Int) (h : vld y m d = true) (n0 : -119988 ≤ n) (n1 : n ≤ 119988) (hk : 12 * y + m - 1 + n < 12 ∨ 120000 ≤ 12 * y + m - 1 + n) (w : World) :
    Calls Tryd.prog 30 #[.agg #[.int .i64 y, .int .i64 m, .int .i64 d], .int .i64 n] w fun e w' => e = .returned (.tuple #[.agg #[.int .i64 0, .int .i64 0, .int .i64 0], .int .i64 2]) ∧ Below w.heap.size w w' := by
  obtain ⟨y0, y1, m0, m1, e0, e1⟩ := vld_bd h
  have HV := fun w => refvalid y m d ⟨by omega, by omega⟩ ⟨by omega, by omega⟩ ⟨by omega, by omega⟩ w
  rw [h] at HV
  replace HV := Lib.hid HV
  have k1 : decide (119988 < n) = false := decide_eq_false (by omega)
  have k2 : decide (n < -119988) = false := decide_eq_false (by omega)
  rcases hk with hn | hn
  · have k3 : decide (12 * y + m - 1 + n < 12) = true := decide_eq_true hn
    go_enter Tryd.func30, Tryd.ntmps30
    go_wp2_with fail
    refine (HV.out _).mono ?_
    rintro e w1 ⟨rfl, hb⟩
    obtain ⟨⟨c0, c1, c2⟩, ⟨d0, d1, d2⟩, ⟨g0, g1, g2⟩, hsz, hb2⟩ := two_boxes hb
    clear hb
    go_wp2
    exact bodyPost_ret (v := .tuple #[.agg #[.int .i64 0, .int .i64 0, .int .i64 0], .int .i64 2]) (by simp [results, Tryd.results30, go_sem, d0, d1, d2]) rfl ⟨rfl, ((hb2.setCell (Nat.le_succ _) _).setCell (Nat.le_succ _) _).setCell (Nat.le_succ _) _⟩
  · have k3 : decide (12 * y + m - 1 + n < 12) = false := decide_eq_false (by omega)
    have k4 : decide (120000 ≤ 12 * y + m - 1 + n) = true := decide_eq_true hn
    go_enter Tryd.func30, Tryd.ntmps30
    go_wp2_with fail
    refine (HV.out _).mono ?_
    rintro e w1 ⟨rfl, hb⟩
    obtain ⟨⟨c0, c1, c2⟩, ⟨d0, d1, d2⟩, ⟨g0, g1, g2⟩, hsz, hb2⟩ := two_boxes hb
    clear hb
    go_wp2
    exact bodyPost_ret (v := .tuple #[.agg #[.int .i64 0, .int .i64 0, .int .i64 0], .int .i64 2]) (by simp [results, Tryd.results30, go_sem, d0, d1, d2]) rfl ⟨rfl, ((hb2.setCell (Nat.le_succ _) _).setCell (Nat.le_succ _) _).setCell (Nat.le_succ _) _⟩
set_option maxRecDepth 100000 in
set_option maxHeartbeats 800000 in
theorem refadd_yes (y m d n k : Int) (h : vld y m d = true) (n0 : -119988 ≤ n) (n1 : n ≤ 119988) (he : 12 * y + m - 1 + n = k) (k0 : 12 ≤ k) (k1 : k < 120000) (w : World) :
    Calls Tryd.prog 30 #[.agg #[.int .i64 y, .int .i64 m, .int .i64 d], .int .i64 n] w fun e w' => e = .returned (.tuple #[.agg #[.int .i64 (k / 12), .int .i64 (k % 12 + 1), .int .i64 (min d (lenM (k / 12) (k % 12 + 1)))], .int .i64 0]) ∧ Below w.heap.size w w' := by
  obtain ⟨y0, y1, m0, m1, e0, e1⟩ := vld_bd h
  have HV := fun w => refvalid y m d ⟨by omega, by omega⟩ ⟨by omega, by omega⟩ ⟨by omega, by omega⟩ w
  rw [h] at HV
  replace HV := Lib.hid HV
  have k1 : decide (119988 < n) = false := decide_eq_false (by omega)
  have k2 : decide (n < -119988) = false := decide_eq_false (by omega)
  have k3 : decide (12 * y + m - 1 + n < 12) = false := decide_eq_false (by omega)
  have k4 : decide (120000 ≤ 12 * y + m - 1 + n) = false := decide_eq_false (by omega)
  have t1 : Int.tdiv k 12 = k / 12 := by rw [Int.tdiv_eq_ediv_of_nonneg (by omega)]
  have t2 : Int.tmod k 12 = k % 12 := by rw [Int.tmod_eq_emod_of_nonneg (by omega)]
  go_enter Tryd.func30, Tryd.ntmps30
  go_wp2_with fail
  refine (HV.out _).mono ?_
  rintro e w1 ⟨rfl, hb⟩
  obtain ⟨⟨c0, c1, c2⟩, ⟨d0, d1, d2⟩, ⟨g0, g1, g2⟩, hsz, hb2⟩ := two_boxes hb
  clear hb HV
  go_wp2
  have HL := Lib.hid (fun w => reflen (k / 12) (k % 12 + 1) (by omega) (by omega) (by omega) (by omega) w)
  obtain ⟨w2, hw2⟩ : ∃ w2 : World, (w1.alloc (.cells #[.int .i64 (k / 12), .int .i64 (k % 12 + 1), .int .i64 d] 23)).drewN 1 = w2 := ⟨_, rfl⟩
  refine wp_region_still_tail 9 (by kernel_rfl) (by kernel_rfl) ?_
  change wpStill _ _ ((w1.alloc (.cells #[.int .i64 (k / 12), .int .i64 (k % 12 + 1), .int .i64 d] 23)).drewN 1) (fun a' => wpList _ _ _ _ a' ((w1.alloc (.cells #[.int .i64 (k / 12), .int .i64 (k % 12 + 1), .int .i64 d] 23)).drewN 1)) _ _
  rw [hw2]
  obtain ⟨⟨u0, u1, u2⟩, v2, ho, hz, hb3⟩ := third_box hw2 hb2 (by omega)
  have hne : ¬ w1.heap.size = w.heap.size + 1 := by omega
  obtain ⟨d0', g0'⟩ := ho (w.heap.size + 1) 0 hsz
  obtain ⟨d1', g1'⟩ := ho (w.heap.size + 1) 1 hsz
  obtain ⟨d2', g2'⟩ := ho (w.heap.size + 1) 2 hsz
  rw [d0] at d0'; rw [d1] at d1'; rw [d2] at d2'; rw [g0] at g0'; rw [g1] at g1'; rw [g2] at g2'
  clear ho d0 d1 d2 g0 g1 g2 c0 c1 c2 hw2 hb2
  simp only [List.take_succ_cons, List.take_zero, List.drop_succ_cons, List.drop_zero]
  repeat still_step
  still_call ((HL.out _).mono fun _ _ h => ⟨h.1, h.2.symm⟩)
  repeat still_step
  refine wpStill_nil ?_
  go_wp2
  · exact bodyPost_ret (v := .tuple #[.agg #[.int .i64 (k / 12), .int .i64 (k % 12 + 1), .int .i64 (lenM (k / 12) (k % 12 + 1))], .int .i64 0]) (by simp [results, Tryd.results30, go_sem, d0', d1', d2']) rfl ⟨by rw [Int.min_def, if_neg (by omega)], (((hb3.setCell (Nat.le_trans (Nat.le_succ _) (Nat.le_of_lt hsz)) _).setCell (Nat.le_succ _) _).setCell (Nat.le_succ _) _).setCell (Nat.le_succ _) _⟩
  · exact bodyPost_ret (v := .tuple #[.agg #[.int .i64 (k / 12), .int .i64 (k % 12 + 1), .int .i64 d], .int .i64 0]) (by simp [results, Tryd.results30, go_sem, d0', d1', d2']) rfl ⟨by rw [Int.min_def, if_pos (by omega)], (((hb3.setCell (Nat.le_trans (Nat.le_succ _) (Nat.le_of_lt hsz)) _).setCell (Nat.le_succ _) _).setCell (Nat.le_succ _) _).setCell (Nat.le_succ _) _⟩
end Go.Proofs.YtdhedkcbkchpgaaDoor

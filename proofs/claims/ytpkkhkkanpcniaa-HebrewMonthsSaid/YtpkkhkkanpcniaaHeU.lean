/- Contracts of package hebrew: the order of months, valid dates, days, dates, anniversaries; all contracts by their names. -/
import Derived.Test.YtpkkhkkanpcniaaHeV
namespace Go.Proofs.Ytpkkhkkanpcniaa
open Go.RowKit
set_option linter.unusedVariables false

/-- The months of a year in an array. -/
def hagg (b : Bool) : Value := if b then .agg #[.int .i64 7, .int .i64 8, .int .i64 9, .int .i64 10, .int .i64 11, .int .i64 12, .int .i64 13, .int .i64 1, .int .i64 2, .int .i64 3, .int .i64 4, .int .i64 5, .int .i64 6] else .agg #[.int .i64 7, .int .i64 8, .int .i64 9, .int .i64 10, .int .i64 11, .int .i64 12, .int .i64 1, .int .i64 2, .int .i64 3, .int .i64 4, .int .i64 5, .int .i64 6, .int .i64 0]
/-- Thirteen cells. -/
structure Arr (w : World) (b : Nat) (X : Nat → Value) : Prop where
  c : ∀ j, j < 13 → w.cell? ⟨b, j, none⟩ = some (X j)
  f : ∀ j, w.frozen? ⟨b, j, none⟩ = false
  lt : b < w.heap.size
theorem Arr.put {w : World} {b : Nat} {X : Nat → Value} (h : Arr w b X) {i : Nat} (hi : i < 13) (v : Value) : Arr (w.setCell ⟨b, i, none⟩ v) b (fun j => if j = i then v else X j) := by
  refine ⟨fun j hj => ?_, fun j => by rw [World.frozen?_setCell]; exact h.f j, by rw [size_set]; exact h.lt⟩
  by_cases e : j = i
  · subst e
    rw [if_pos rfl]
    exact World.cell?_setCell_same w _ v (h.c j hj)
  · rw [if_neg e, World.cell?_setCell_other (h := by intro q; injection q; omega)]
    exact h.c j hj
theorem hagg_at (b : Bool) (k : Nat) (hk : k < 13) (w : World) : (Instr.index 51 (hagg b) (.int .i64 (k : Int))).run Try.prog w = .ok (.int .i64 ((hord b).getD k 0)) w := by
  have c : k = 0 ∨ k = 1 ∨ k = 2 ∨ k = 3 ∨ k = 4 ∨ k = 5 ∨ k = 6 ∨ k = 7 ∨ k = 8 ∨ k = 9 ∨ k = 10 ∨ k = 11 ∨ k = 12 := by omega
  cases b
  · have h0 : ∀ w, (Instr.index 51 (.agg #[.int .i64 7, .int .i64 8, .int .i64 9, .int .i64 10, .int .i64 11, .int .i64 12, .int .i64 1, .int .i64 2, .int .i64 3, .int .i64 4, .int .i64 5, .int .i64 6, .int .i64 0]) (.int .i64 0)).run Try.prog w = .ok (.int .i64 7) w := fun _ => by kernel_rfl
    have h1 : ∀ w, (Instr.index 51 (.agg #[.int .i64 7, .int .i64 8, .int .i64 9, .int .i64 10, .int .i64 11, .int .i64 12, .int .i64 1, .int .i64 2, .int .i64 3, .int .i64 4, .int .i64 5, .int .i64 6, .int .i64 0]) (.int .i64 1)).run Try.prog w = .ok (.int .i64 8) w := fun _ => by kernel_rfl
    have h2 : ∀ w, (Instr.index 51 (.agg #[.int .i64 7, .int .i64 8, .int .i64 9, .int .i64 10, .int .i64 11, .int .i64 12, .int .i64 1, .int .i64 2, .int .i64 3, .int .i64 4, .int .i64 5, .int .i64 6, .int .i64 0]) (.int .i64 2)).run Try.prog w = .ok (.int .i64 9) w := fun _ => by kernel_rfl
    have h3 : ∀ w, (Instr.index 51 (.agg #[.int .i64 7, .int .i64 8, .int .i64 9, .int .i64 10, .int .i64 11, .int .i64 12, .int .i64 1, .int .i64 2, .int .i64 3, .int .i64 4, .int .i64 5, .int .i64 6, .int .i64 0]) (.int .i64 3)).run Try.prog w = .ok (.int .i64 10) w := fun _ => by kernel_rfl
    have h4 : ∀ w, (Instr.index 51 (.agg #[.int .i64 7, .int .i64 8, .int .i64 9, .int .i64 10, .int .i64 11, .int .i64 12, .int .i64 1, .int .i64 2, .int .i64 3, .int .i64 4, .int .i64 5, .int .i64 6, .int .i64 0]) (.int .i64 4)).run Try.prog w = .ok (.int .i64 11) w := fun _ => by kernel_rfl
    have h5 : ∀ w, (Instr.index 51 (.agg #[.int .i64 7, .int .i64 8, .int .i64 9, .int .i64 10, .int .i64 11, .int .i64 12, .int .i64 1, .int .i64 2, .int .i64 3, .int .i64 4, .int .i64 5, .int .i64 6, .int .i64 0]) (.int .i64 5)).run Try.prog w = .ok (.int .i64 12) w := fun _ => by kernel_rfl
    have h6 : ∀ w, (Instr.index 51 (.agg #[.int .i64 7, .int .i64 8, .int .i64 9, .int .i64 10, .int .i64 11, .int .i64 12, .int .i64 1, .int .i64 2, .int .i64 3, .int .i64 4, .int .i64 5, .int .i64 6, .int .i64 0]) (.int .i64 6)).run Try.prog w = .ok (.int .i64 1) w := fun _ => by kernel_rfl
    have h7 : ∀ w, (Instr.index 51 (.agg #[.int .i64 7, .int .i64 8, .int .i64 9, .int .i64 10, .int .i64 11, .int .i64 12, .int .i64 1, .int .i64 2, .int .i64 3, .int .i64 4, .int .i64 5, .int .i64 6, .int .i64 0]) (.int .i64 7)).run Try.prog w = .ok (.int .i64 2) w := fun _ => by kernel_rfl
    have h8 : ∀ w, (Instr.index 51 (.agg #[.int .i64 7, .int .i64 8, .int .i64 9, .int .i64 10, .int .i64 11, .int .i64 12, .int .i64 1, .int .i64 2, .int .i64 3, .int .i64 4, .int .i64 5, .int .i64 6, .int .i64 0]) (.int .i64 8)).run Try.prog w = .ok (.int .i64 3) w := fun _ => by kernel_rfl
    have h9 : ∀ w, (Instr.index 51 (.agg #[.int .i64 7, .int .i64 8, .int .i64 9, .int .i64 10, .int .i64 11, .int .i64 12, .int .i64 1, .int .i64 2, .int .i64 3, .int .i64 4, .int .i64 5, .int .i64 6, .int .i64 0]) (.int .i64 9)).run Try.prog w = .ok (.int .i64 4) w := fun _ => by kernel_rfl
    have h10 : ∀ w, (Instr.index 51 (.agg #[.int .i64 7, .int .i64 8, .int .i64 9, .int .i64 10, .int .i64 11, .int .i64 12, .int .i64 1, .int .i64 2, .int .i64 3, .int .i64 4, .int .i64 5, .int .i64 6, .int .i64 0]) (.int .i64 10)).run Try.prog w = .ok (.int .i64 5) w := fun _ => by kernel_rfl
    have h11 : ∀ w, (Instr.index 51 (.agg #[.int .i64 7, .int .i64 8, .int .i64 9, .int .i64 10, .int .i64 11, .int .i64 12, .int .i64 1, .int .i64 2, .int .i64 3, .int .i64 4, .int .i64 5, .int .i64 6, .int .i64 0]) (.int .i64 11)).run Try.prog w = .ok (.int .i64 6) w := fun _ => by kernel_rfl
    have h12 : ∀ w, (Instr.index 51 (.agg #[.int .i64 7, .int .i64 8, .int .i64 9, .int .i64 10, .int .i64 11, .int .i64 12, .int .i64 1, .int .i64 2, .int .i64 3, .int .i64 4, .int .i64 5, .int .i64 6, .int .i64 0]) (.int .i64 12)).run Try.prog w = .ok (.int .i64 0) w := fun _ => by kernel_rfl
    rcases c with rfl | rfl | rfl | rfl | rfl | rfl | rfl | rfl | rfl | rfl | rfl | rfl | rfl
    · exact h0 w
    · exact h1 w
    · exact h2 w
    · exact h3 w
    · exact h4 w
    · exact h5 w
    · exact h6 w
    · exact h7 w
    · exact h8 w
    · exact h9 w
    · exact h10 w
    · exact h11 w
    · exact h12 w
  · have h0 : ∀ w, (Instr.index 51 (.agg #[.int .i64 7, .int .i64 8, .int .i64 9, .int .i64 10, .int .i64 11, .int .i64 12, .int .i64 13, .int .i64 1, .int .i64 2, .int .i64 3, .int .i64 4, .int .i64 5, .int .i64 6]) (.int .i64 0)).run Try.prog w = .ok (.int .i64 7) w := fun _ => by kernel_rfl
    have h1 : ∀ w, (Instr.index 51 (.agg #[.int .i64 7, .int .i64 8, .int .i64 9, .int .i64 10, .int .i64 11, .int .i64 12, .int .i64 13, .int .i64 1, .int .i64 2, .int .i64 3, .int .i64 4, .int .i64 5, .int .i64 6]) (.int .i64 1)).run Try.prog w = .ok (.int .i64 8) w := fun _ => by kernel_rfl
    have h2 : ∀ w, (Instr.index 51 (.agg #[.int .i64 7, .int .i64 8, .int .i64 9, .int .i64 10, .int .i64 11, .int .i64 12, .int .i64 13, .int .i64 1, .int .i64 2, .int .i64 3, .int .i64 4, .int .i64 5, .int .i64 6]) (.int .i64 2)).run Try.prog w = .ok (.int .i64 9) w := fun _ => by kernel_rfl
    have h3 : ∀ w, (Instr.index 51 (.agg #[.int .i64 7, .int .i64 8, .int .i64 9, .int .i64 10, .int .i64 11, .int .i64 12, .int .i64 13, .int .i64 1, .int .i64 2, .int .i64 3, .int .i64 4, .int .i64 5, .int .i64 6]) (.int .i64 3)).run Try.prog w = .ok (.int .i64 10) w := fun _ => by kernel_rfl
    have h4 : ∀ w, (Instr.index 51 (.agg #[.int .i64 7, .int .i64 8, .int .i64 9, .int .i64 10, .int .i64 11, .int .i64 12, .int .i64 13, .int .i64 1, .int .i64 2, .int .i64 3, .int .i64 4, .int .i64 5, .int .i64 6]) (.int .i64 4)).run Try.prog w = .ok (.int .i64 11) w := fun _ => by kernel_rfl
    have h5 : ∀ w, (Instr.index 51 (.agg #[.int .i64 7, .int .i64 8, .int .i64 9, .int .i64 10, .int .i64 11, .int .i64 12, .int .i64 13, .int .i64 1, .int .i64 2, .int .i64 3, .int .i64 4, .int .i64 5, .int .i64 6]) (.int .i64 5)).run Try.prog w = .ok (.int .i64 12) w := fun _ => by kernel_rfl
    have h6 : ∀ w, (Instr.index 51 (.agg #[.int .i64 7, .int .i64 8, .int .i64 9, .int .i64 10, .int .i64 11, .int .i64 12, .int .i64 13, .int .i64 1, .int .i64 2, .int .i64 3, .int .i64 4, .int .i64 5, .int .i64 6]) (.int .i64 6)).run Try.prog w = .ok (.int .i64 13) w := fun _ => by kernel_rfl
    have h7 : ∀ w, (Instr.index 51 (.agg #[.int .i64 7, .int .i64 8, .int .i64 9, .int .i64 10, .int .i64 11, .int .i64 12, .int .i64 13, .int .i64 1, .int .i64 2, .int .i64 3, .int .i64 4, .int .i64 5, .int .i64 6]) (.int .i64 7)).run Try.prog w = .ok (.int .i64 1) w := fun _ => by kernel_rfl
    have h8 : ∀ w, (Instr.index 51 (.agg #[.int .i64 7, .int .i64 8, .int .i64 9, .int .i64 10, .int .i64 11, .int .i64 12, .int .i64 13, .int .i64 1, .int .i64 2, .int .i64 3, .int .i64 4, .int .i64 5, .int .i64 6]) (.int .i64 8)).run Try.prog w = .ok (.int .i64 2) w := fun _ => by kernel_rfl
    have h9 : ∀ w, (Instr.index 51 (.agg #[.int .i64 7, .int .i64 8, .int .i64 9, .int .i64 10, .int .i64 11, .int .i64 12, .int .i64 13, .int .i64 1, .int .i64 2, .int .i64 3, .int .i64 4, .int .i64 5, .int .i64 6]) (.int .i64 9)).run Try.prog w = .ok (.int .i64 3) w := fun _ => by kernel_rfl
    have h10 : ∀ w, (Instr.index 51 (.agg #[.int .i64 7, .int .i64 8, .int .i64 9, .int .i64 10, .int .i64 11, .int .i64 12, .int .i64 13, .int .i64 1, .int .i64 2, .int .i64 3, .int .i64 4, .int .i64 5, .int .i64 6]) (.int .i64 10)).run Try.prog w = .ok (.int .i64 4) w := fun _ => by kernel_rfl
    have h11 : ∀ w, (Instr.index 51 (.agg #[.int .i64 7, .int .i64 8, .int .i64 9, .int .i64 10, .int .i64 11, .int .i64 12, .int .i64 13, .int .i64 1, .int .i64 2, .int .i64 3, .int .i64 4, .int .i64 5, .int .i64 6]) (.int .i64 11)).run Try.prog w = .ok (.int .i64 5) w := fun _ => by kernel_rfl
    have h12 : ∀ w, (Instr.index 51 (.agg #[.int .i64 7, .int .i64 8, .int .i64 9, .int .i64 10, .int .i64 11, .int .i64 12, .int .i64 13, .int .i64 1, .int .i64 2, .int .i64 3, .int .i64 4, .int .i64 5, .int .i64 6]) (.int .i64 12)).run Try.prog w = .ok (.int .i64 6) w := fun _ => by kernel_rfl
    rcases c with rfl | rfl | rfl | rfl | rfl | rfl | rfl | rfl | rfl | rfl | rfl | rfl | rfl
    · exact h0 w
    · exact h1 w
    · exact h2 w
    · exact h3 w
    · exact h4 w
    · exact h5 w
    · exact h6 w
    · exact h7 w
    · exact h8 w
    · exact h9 w
    · exact h10 w
    · exact h11 w
    · exact h12 w
set_option maxRecDepth 100000 in
set_option maxHeartbeats 2000000 in
theorem xord (y : Int) (hy : I64 y) (h : hyr y = true) (w : World) :
    Calls Try.prog 59 #[.int .i64 y] w fun e w' => e = .returned (hagg (hlp y)) ∧ Below w.heap.size w w' := by
  have HL := fun w => xlp y hy w
  rw [h] at HL
  simp only [Bool.true_and] at HL
  obtain ⟨h0, h1⟩ := hy
  obtain ⟨R, hR⟩ : ∃ R : World, w.alloc (.cells #[.int .i64 0, .int .i64 0, .int .i64 0, .int .i64 0, .int .i64 0, .int .i64 0, .int .i64 0, .int .i64 0, .int .i64 0, .int .i64 0, .int .i64 0, .int .i64 0, .int .i64 0] 51) = R := ⟨_, rfl⟩
  have AR : Hid (Below w.heap.size w R) := by rw [← hR]; exact grow (here w) _
  have XR : Hid (Arr R w.heap.size (fun _ => .int .i64 0)) := by
    rw [← hR]
    refine ⟨fun j hj => ?_, fun j => World.frozen?_alloc_new _ _ _ _, by simp⟩
    rw [World.cell?_alloc_new]
    have c : j = 0 ∨ j = 1 ∨ j = 2 ∨ j = 3 ∨ j = 4 ∨ j = 5 ∨ j = 6 ∨ j = 7 ∨ j = 8 ∨ j = 9 ∨ j = 10 ∨ j = 11 ∨ j = 12 := by omega
    rcases c with rfl | rfl | rfl | rfl | rfl | rfl | rfl | rfl | rfl | rfl | rfl | rfl | rfl <;> rfl
  generalize hlp y = bb at *
  cases bb
  · replace HL := Lib.hid HL
    go_enter Try.func59, Try.ntmps59
    go_wp2_with fail
    refine (HL.out _).mono ?_
    rintro e w1 ⟨rfl, hb⟩
    try rw [hR] at hb
    have A1 := Lib.hid (down AR.out hb)
    have X1 : Hid (Arr w1 w.heap.size (fun _ => .int .i64 0)) := ⟨fun j hj => by rw [hb.cell (p := ⟨w.heap.size, j, none⟩) XR.out.lt]; exact XR.out.c j hj, fun j => by rw [hb.frozen (p := ⟨w.heap.size, j, none⟩) XR.out.lt]; exact XR.out.f j, by have := hb.size; have := XR.out.lt; omega⟩
    clear hb XR AR hR
    have c0 := X1.out.c 0 (by omega)
    have f0 := X1.out.f 0
    have c1 := X1.out.c 1 (by omega)
    have f1 := X1.out.f 1
    have c2 := X1.out.c 2 (by omega)
    have f2 := X1.out.f 2
    have c3 := X1.out.c 3 (by omega)
    have f3 := X1.out.f 3
    have c4 := X1.out.c 4 (by omega)
    have f4 := X1.out.f 4
    have c5 := X1.out.c 5 (by omega)
    have f5 := X1.out.f 5
    have c6 := X1.out.c 6 (by omega)
    have f6 := X1.out.f 6
    have c7 := X1.out.c 7 (by omega)
    have f7 := X1.out.f 7
    have c8 := X1.out.c 8 (by omega)
    have f8 := X1.out.f 8
    have c9 := X1.out.c 9 (by omega)
    have f9 := X1.out.f 9
    have c10 := X1.out.c 10 (by omega)
    have f10 := X1.out.f 10
    have c11 := X1.out.c 11 (by omega)
    have f11 := X1.out.f 11
    have c12 := X1.out.c 12 (by omega)
    have f12 := X1.out.f 12
    go_wp2
    obtain ⟨w9, hw9⟩ : ∃ w9 : World, (((((((((((((w1.setCell ⟨w.heap.size, 0, none⟩ (.int .i64 7)).setCell ⟨w.heap.size, 1, none⟩ (.int .i64 8)).setCell ⟨w.heap.size, 2, none⟩ (.int .i64 9)).setCell ⟨w.heap.size, 3, none⟩ (.int .i64 10)).setCell ⟨w.heap.size, 4, none⟩ (.int .i64 11)).setCell ⟨w.heap.size, 5, none⟩ (.int .i64 12)).setCell ⟨w.heap.size, 6, none⟩ (.int .i64 1)).setCell ⟨w.heap.size, 7, none⟩ (.int .i64 2)).setCell ⟨w.heap.size, 8, none⟩ (.int .i64 3)).setCell ⟨w.heap.size, 9, none⟩ (.int .i64 4)).setCell ⟨w.heap.size, 10, none⟩ (.int .i64 5)).setCell ⟨w.heap.size, 11, none⟩ (.int .i64 6)).setCell ⟨w.heap.size, 12, none⟩ (.int .i64 0)) = w9 := ⟨_, rfl⟩
    have B9 : Arr w9 w.heap.size (fun j => [Value.int .i64 7, Value.int .i64 8, Value.int .i64 9, Value.int .i64 10, Value.int .i64 11, Value.int .i64 12, Value.int .i64 1, Value.int .i64 2, Value.int .i64 3, Value.int .i64 4, Value.int .i64 5, Value.int .i64 6, Value.int .i64 0].getD j (.int .i64 0)) := by
      rw [← hw9]
      have q := (((((((((((((X1.out.put (i := 0) (by omega) (.int .i64 7)).put (i := 1) (by omega) (.int .i64 8)).put (i := 2) (by omega) (.int .i64 9)).put (i := 3) (by omega) (.int .i64 10)).put (i := 4) (by omega) (.int .i64 11)).put (i := 5) (by omega) (.int .i64 12)).put (i := 6) (by omega) (.int .i64 1)).put (i := 7) (by omega) (.int .i64 2)).put (i := 8) (by omega) (.int .i64 3)).put (i := 9) (by omega) (.int .i64 4)).put (i := 10) (by omega) (.int .i64 5)).put (i := 11) (by omega) (.int .i64 6)).put (i := 12) (by omega) (.int .i64 0))
      refine ⟨fun j hj => ?_, q.f, q.lt⟩
      rw [q.c j hj]
      have c : j = 0 ∨ j = 1 ∨ j = 2 ∨ j = 3 ∨ j = 4 ∨ j = 5 ∨ j = 6 ∨ j = 7 ∨ j = 8 ∨ j = 9 ∨ j = 10 ∨ j = 11 ∨ j = 12 := by omega
      rcases c with rfl | rfl | rfl | rfl | rfl | rfl | rfl | rfl | rfl | rfl | rfl | rfl | rfl <;> rfl
    have A9 : Below w.heap.size w w9 := by rw [← hw9]; exact (((((((((((((A1.out.setCell (p := ⟨w.heap.size, 0, none⟩) (Nat.le_refl _) (.int .i64 7)).setCell (p := ⟨w.heap.size, 1, none⟩) (Nat.le_refl _) (.int .i64 8)).setCell (p := ⟨w.heap.size, 2, none⟩) (Nat.le_refl _) (.int .i64 9)).setCell (p := ⟨w.heap.size, 3, none⟩) (Nat.le_refl _) (.int .i64 10)).setCell (p := ⟨w.heap.size, 4, none⟩) (Nat.le_refl _) (.int .i64 11)).setCell (p := ⟨w.heap.size, 5, none⟩) (Nat.le_refl _) (.int .i64 12)).setCell (p := ⟨w.heap.size, 6, none⟩) (Nat.le_refl _) (.int .i64 1)).setCell (p := ⟨w.heap.size, 7, none⟩) (Nat.le_refl _) (.int .i64 2)).setCell (p := ⟨w.heap.size, 8, none⟩) (Nat.le_refl _) (.int .i64 3)).setCell (p := ⟨w.heap.size, 9, none⟩) (Nat.le_refl _) (.int .i64 4)).setCell (p := ⟨w.heap.size, 10, none⟩) (Nat.le_refl _) (.int .i64 5)).setCell (p := ⟨w.heap.size, 11, none⟩) (Nat.le_refl _) (.int .i64 6)).setCell (p := ⟨w.heap.size, 12, none⟩) (Nat.le_refl _) (.int .i64 0))
    rw [hw9]
    clear c0 f0 c1 f1 c2 f2 c3 f3 c4 f4 c5 f5 c6 f6 c7 f7 c8 f8 c9 f9 c10 f10 c11 f11 c12 f12 hw9
    have e0 : w9.cell? ⟨w.heap.size, 0, none⟩ = some (.int .i64 7) := B9.c 0 (by omega)
    have e1 : w9.cell? ⟨w.heap.size, 1, none⟩ = some (.int .i64 8) := B9.c 1 (by omega)
    have e2 : w9.cell? ⟨w.heap.size, 2, none⟩ = some (.int .i64 9) := B9.c 2 (by omega)
    have e3 : w9.cell? ⟨w.heap.size, 3, none⟩ = some (.int .i64 10) := B9.c 3 (by omega)
    have e4 : w9.cell? ⟨w.heap.size, 4, none⟩ = some (.int .i64 11) := B9.c 4 (by omega)
    have e5 : w9.cell? ⟨w.heap.size, 5, none⟩ = some (.int .i64 12) := B9.c 5 (by omega)
    have e6 : w9.cell? ⟨w.heap.size, 6, none⟩ = some (.int .i64 1) := B9.c 6 (by omega)
    have e7 : w9.cell? ⟨w.heap.size, 7, none⟩ = some (.int .i64 2) := B9.c 7 (by omega)
    have e8 : w9.cell? ⟨w.heap.size, 8, none⟩ = some (.int .i64 3) := B9.c 8 (by omega)
    have e9 : w9.cell? ⟨w.heap.size, 9, none⟩ = some (.int .i64 4) := B9.c 9 (by omega)
    have e10 : w9.cell? ⟨w.heap.size, 10, none⟩ = some (.int .i64 5) := B9.c 10 (by omega)
    have e11 : w9.cell? ⟨w.heap.size, 11, none⟩ = some (.int .i64 6) := B9.c 11 (by omega)
    have e12 : w9.cell? ⟨w.heap.size, 12, none⟩ = some (.int .i64 0) := B9.c 12 (by omega)
    exact bodyPost_ret (v := hagg false) (by simp [results, Try.results59, go_sem, e0, e1, e2, e3, e4, e5, e6, e7, e8, e9, e10, e11, e12, hagg]) rfl ⟨rfl, A9⟩
  · replace HL := Lib.hid HL
    go_enter Try.func59, Try.ntmps59
    go_wp2_with fail
    refine (HL.out _).mono ?_
    rintro e w1 ⟨rfl, hb⟩
    try rw [hR] at hb
    have A1 := Lib.hid (down AR.out hb)
    have X1 : Hid (Arr w1 w.heap.size (fun _ => .int .i64 0)) := ⟨fun j hj => by rw [hb.cell (p := ⟨w.heap.size, j, none⟩) XR.out.lt]; exact XR.out.c j hj, fun j => by rw [hb.frozen (p := ⟨w.heap.size, j, none⟩) XR.out.lt]; exact XR.out.f j, by have := hb.size; have := XR.out.lt; omega⟩
    clear hb XR AR hR
    have c0 := X1.out.c 0 (by omega)
    have f0 := X1.out.f 0
    have c1 := X1.out.c 1 (by omega)
    have f1 := X1.out.f 1
    have c2 := X1.out.c 2 (by omega)
    have f2 := X1.out.f 2
    have c3 := X1.out.c 3 (by omega)
    have f3 := X1.out.f 3
    have c4 := X1.out.c 4 (by omega)
    have f4 := X1.out.f 4
    have c5 := X1.out.c 5 (by omega)
    have f5 := X1.out.f 5
    have c6 := X1.out.c 6 (by omega)
    have f6 := X1.out.f 6
    have c7 := X1.out.c 7 (by omega)
    have f7 := X1.out.f 7
    have c8 := X1.out.c 8 (by omega)
    have f8 := X1.out.f 8
    have c9 := X1.out.c 9 (by omega)
    have f9 := X1.out.f 9
    have c10 := X1.out.c 10 (by omega)
    have f10 := X1.out.f 10
    have c11 := X1.out.c 11 (by omega)
    have f11 := X1.out.f 11
    have c12 := X1.out.c 12 (by omega)
    have f12 := X1.out.f 12
    go_wp2
    obtain ⟨w9, hw9⟩ : ∃ w9 : World, (((((((((((((w1.setCell ⟨w.heap.size, 0, none⟩ (.int .i64 7)).setCell ⟨w.heap.size, 1, none⟩ (.int .i64 8)).setCell ⟨w.heap.size, 2, none⟩ (.int .i64 9)).setCell ⟨w.heap.size, 3, none⟩ (.int .i64 10)).setCell ⟨w.heap.size, 4, none⟩ (.int .i64 11)).setCell ⟨w.heap.size, 5, none⟩ (.int .i64 12)).setCell ⟨w.heap.size, 6, none⟩ (.int .i64 13)).setCell ⟨w.heap.size, 7, none⟩ (.int .i64 1)).setCell ⟨w.heap.size, 8, none⟩ (.int .i64 2)).setCell ⟨w.heap.size, 9, none⟩ (.int .i64 3)).setCell ⟨w.heap.size, 10, none⟩ (.int .i64 4)).setCell ⟨w.heap.size, 11, none⟩ (.int .i64 5)).setCell ⟨w.heap.size, 12, none⟩ (.int .i64 6)) = w9 := ⟨_, rfl⟩
    have B9 : Arr w9 w.heap.size (fun j => [Value.int .i64 7, Value.int .i64 8, Value.int .i64 9, Value.int .i64 10, Value.int .i64 11, Value.int .i64 12, Value.int .i64 13, Value.int .i64 1, Value.int .i64 2, Value.int .i64 3, Value.int .i64 4, Value.int .i64 5, Value.int .i64 6].getD j (.int .i64 0)) := by
      rw [← hw9]
      have q := (((((((((((((X1.out.put (i := 0) (by omega) (.int .i64 7)).put (i := 1) (by omega) (.int .i64 8)).put (i := 2) (by omega) (.int .i64 9)).put (i := 3) (by omega) (.int .i64 10)).put (i := 4) (by omega) (.int .i64 11)).put (i := 5) (by omega) (.int .i64 12)).put (i := 6) (by omega) (.int .i64 13)).put (i := 7) (by omega) (.int .i64 1)).put (i := 8) (by omega) (.int .i64 2)).put (i := 9) (by omega) (.int .i64 3)).put (i := 10) (by omega) (.int .i64 4)).put (i := 11) (by omega) (.int .i64 5)).put (i := 12) (by omega) (.int .i64 6))
      refine ⟨fun j hj => ?_, q.f, q.lt⟩
      rw [q.c j hj]
      have c : j = 0 ∨ j = 1 ∨ j = 2 ∨ j = 3 ∨ j = 4 ∨ j = 5 ∨ j = 6 ∨ j = 7 ∨ j = 8 ∨ j = 9 ∨ j = 10 ∨ j = 11 ∨ j = 12 := by omega
      rcases c with rfl | rfl | rfl | rfl | rfl | rfl | rfl | rfl | rfl | rfl | rfl | rfl | rfl <;> rfl
    have A9 : Below w.heap.size w w9 := by rw [← hw9]; exact (((((((((((((A1.out.setCell (p := ⟨w.heap.size, 0, none⟩) (Nat.le_refl _) (.int .i64 7)).setCell (p := ⟨w.heap.size, 1, none⟩) (Nat.le_refl _) (.int .i64 8)).setCell (p := ⟨w.heap.size, 2, none⟩) (Nat.le_refl _) (.int .i64 9)).setCell (p := ⟨w.heap.size, 3, none⟩) (Nat.le_refl _) (.int .i64 10)).setCell (p := ⟨w.heap.size, 4, none⟩) (Nat.le_refl _) (.int .i64 11)).setCell (p := ⟨w.heap.size, 5, none⟩) (Nat.le_refl _) (.int .i64 12)).setCell (p := ⟨w.heap.size, 6, none⟩) (Nat.le_refl _) (.int .i64 13)).setCell (p := ⟨w.heap.size, 7, none⟩) (Nat.le_refl _) (.int .i64 1)).setCell (p := ⟨w.heap.size, 8, none⟩) (Nat.le_refl _) (.int .i64 2)).setCell (p := ⟨w.heap.size, 9, none⟩) (Nat.le_refl _) (.int .i64 3)).setCell (p := ⟨w.heap.size, 10, none⟩) (Nat.le_refl _) (.int .i64 4)).setCell (p := ⟨w.heap.size, 11, none⟩) (Nat.le_refl _) (.int .i64 5)).setCell (p := ⟨w.heap.size, 12, none⟩) (Nat.le_refl _) (.int .i64 6))
    rw [hw9]
    clear c0 f0 c1 f1 c2 f2 c3 f3 c4 f4 c5 f5 c6 f6 c7 f7 c8 f8 c9 f9 c10 f10 c11 f11 c12 f12 hw9
    have e0 : w9.cell? ⟨w.heap.size, 0, none⟩ = some (.int .i64 7) := B9.c 0 (by omega)
    have e1 : w9.cell? ⟨w.heap.size, 1, none⟩ = some (.int .i64 8) := B9.c 1 (by omega)
    have e2 : w9.cell? ⟨w.heap.size, 2, none⟩ = some (.int .i64 9) := B9.c 2 (by omega)
    have e3 : w9.cell? ⟨w.heap.size, 3, none⟩ = some (.int .i64 10) := B9.c 3 (by omega)
    have e4 : w9.cell? ⟨w.heap.size, 4, none⟩ = some (.int .i64 11) := B9.c 4 (by omega)
    have e5 : w9.cell? ⟨w.heap.size, 5, none⟩ = some (.int .i64 12) := B9.c 5 (by omega)
    have e6 : w9.cell? ⟨w.heap.size, 6, none⟩ = some (.int .i64 13) := B9.c 6 (by omega)
    have e7 : w9.cell? ⟨w.heap.size, 7, none⟩ = some (.int .i64 1) := B9.c 7 (by omega)
    have e8 : w9.cell? ⟨w.heap.size, 8, none⟩ = some (.int .i64 2) := B9.c 8 (by omega)
    have e9 : w9.cell? ⟨w.heap.size, 9, none⟩ = some (.int .i64 3) := B9.c 9 (by omega)
    have e10 : w9.cell? ⟨w.heap.size, 10, none⟩ = some (.int .i64 4) := B9.c 10 (by omega)
    have e11 : w9.cell? ⟨w.heap.size, 11, none⟩ = some (.int .i64 5) := B9.c 11 (by omega)
    have e12 : w9.cell? ⟨w.heap.size, 12, none⟩ = some (.int .i64 6) := B9.c 12 (by omega)
    exact bodyPost_ret (v := hagg true) (by simp [results, Try.results59, go_sem, e0, e1, e2, e3, e4, e5, e6, e7, e8, e9, e10, e11, e12, hagg]) rfl ⟨rfl, A9⟩
set_option maxRecDepth 100000 in
set_option maxHeartbeats 2000000 in
theorem xvld (y m d : Int) (hy : I64 y) (hm : I64 m) (hd : I64 d) (w : World) :
    Calls Try.prog 50 #[.agg #[.int .i64 y, .int .i64 m, .int .i64 d]] w fun e w' => e = .returned (.bool (hvld y m d)) ∧ Below w.heap.size w w' := by
  have HL := Lib.hid (fun w => xlen y m hy hm w)
  have lb := hlenM_bd y m
  have e : hvld y m d = (decide (1 ≤ d) && decide (d ≤ hlenM y m)) := by unfold hvld; simp
  rw [e]
  clear e
  generalize hlenM y m = l at *
  obtain ⟨l0, l1⟩ := lb
  obtain ⟨w1, hw1⟩ : ∃ w1 : World, w.alloc (.cells #[.int .i64 y, .int .i64 m, .int .i64 d] 35) = w1 := ⟨_, rfl⟩
  have A1 : Hid (Below w.heap.size w w1) := by rw [← hw1]; exact grow (here w) _
  have B1 : Hid (Box w1 w.heap.size (.int .i64 y) (.int .i64 m) (.int .i64 d)) := by rw [← hw1]; exact Box.new (here _)
  have k0 : ∀ x : Kept w1, x.wd.cell? ⟨w.heap.size, 0, none⟩ = some (.int .i64 y) := fun x => (B1.out.keep x.ok).c0
  have k1 : ∀ x : Kept w1, x.wd.cell? ⟨w.heap.size, 1, none⟩ = some (.int .i64 m) := fun x => (B1.out.keep x.ok).c1
  have k2 : ∀ x : Kept w1, x.wd.cell? ⟨w.heap.size, 2, none⟩ = some (.int .i64 d) := fun x => (B1.out.keep x.ok).c2
  obtain ⟨hd0, hd1⟩ := hd
  obtain ⟨hm0, hm1⟩ := hm
  obtain ⟨hy0, hy1⟩ := hy
  cases q : decide (1 ≤ d)
  all_goals
    simp only [Bool.true_and, Bool.false_and]
    go_enter Try.func50, Try.ntmps50
    go_wp2
    clear hw1
    refine wp_region_kept (by kernel_rfl) (by kernel_rfl) ?_
    repeat (go_big_quiet_step ((go_at_call 28; exact kept_call _ (HL.out _))))
    refine wpQuiet_nil ?_
    intro w2 hx
    obtain ⟨⟨xx, hb⟩, hw⟩ := hx
    replace hw : w2 = xx := hw
    subst xx
    go_wp2
    go_ret
    exact ⟨rfl, down A1.out hb⟩
set_option maxRecDepth 100000 in
set_option maxHeartbeats 2000000 in
theorem xdof (y m d : Int) (hyt : hyr y = true) (m0 : 1 ≤ m) (m1 : m ≤ hmn y) (d0 : 1 ≤ d) (d1 : d ≤ 30) (w : World) :
    Calls Try.prog 51 #[.agg #[.int .i64 y, .int .i64 m, .int .i64 d]] w fun e w' => e = .returned (.int .i64 (hfst y m + d - 1)) ∧ Below w.heap.size w w' := by
  obtain ⟨y0, y1⟩ := hyr_iff.1 hyt
  have HN := fun w => xnw y (by omega) (by omega) w
  have HO := fun w => xord y ⟨by omega, by omega⟩ hyt w
  have HL := Lib.hid (fun m (m0 : 1 ≤ m) (m1 : m ≤ 13) w => xlen y m ⟨by omega, by omega⟩ ⟨by omega, by omega⟩ w)
  have cn13 : hcn (hlp y) ≤ 13 := by cases hlp y <;> decide
  have M1' := m1
  rw [hmn_cn hyt] at M1'
  obtain ⟨p0, p1⟩ := hpos_at m0 M1'
  have fa := hord_facts hyt
  have sb : ∀ i : Nat, i ≤ hcn (hlp y) → 0 ≤ hS (hlp y) (hyl y) i ∧ hS (hlp y) (hyl y) i ≤ 400 := fun i hi => hS_bd hi
  have s0 := hS_zero (hlp y) (hyl y)
  have nb := hN_any (y := y) (by omega) (by omega)
  have HI := fun k hk w => hagg_at (hlp y) k hk w
  have ne : ∀ i : Nat, i < hpos (hlp y) m → ¬ (hord (hlp y)).getD i 0 = m := fun i hi e => by
    have := (hord_at (show i < hcn (hlp y) by omega)).2.2
    rw [e] at this; omega
  unfold hfst
  have m13 : m ≤ 13 := by omega
  generalize hagg (hlp y) = V at *
  generalize hS (hlp y) (hyl y) = G at *
  generalize hpos (hlp y) m = Q at *
  generalize hcn (hlp y) = n at *
  generalize hord (hlp y) = zs at *
  generalize hN y = B at *
  have HT : Hid (∀ i : Nat, i < n → 1 ≤ zs.getD i 0 ∧ zs.getD i 0 ≤ 13 ∧ G (i + 1) = G i + hlenM y (zs.getD i 0) ∧ 0 ≤ hlenM y (zs.getD i 0) ∧ hlenM y (zs.getD i 0) ≤ 30) := fun i hi => ⟨(fa i hi).1, (fa i hi).2.1, (fa i hi).2.2.2.1, (fa i hi).2.2.2.2.1, (fa i hi).2.2.2.2.2⟩
  have SB := Lib.hid sb
  have NE := Lib.hid ne
  have P1 : Hid (zs.getD Q 0 = m) := p1
  have S0 := Lib.hid s0
  replace HN := Lib.hid HN
  replace HO := Lib.hid HO
  replace HI := Lib.hid HI
  obtain ⟨nb0, nb1⟩ := nb
  clear fa sb s0 ne p1 m1 M1' hyt
  obtain ⟨w1, hw1⟩ : ∃ w1 : World, w.alloc (.cells #[.int .i64 y, .int .i64 m, .int .i64 d] 35) = w1 := ⟨_, rfl⟩
  have A1 : Hid (Below w.heap.size w w1) := by rw [← hw1]; exact grow (here w) _
  have B1 : Hid (Box w1 w.heap.size (.int .i64 y) (.int .i64 m) (.int .i64 d)) := by rw [← hw1]; exact Box.new (here _)
  have k0 : ∀ x : Kept w1, x.wd.cell? ⟨w.heap.size, 0, none⟩ = some (.int .i64 y) := fun x => (B1.out.keep x.ok).c0
  have k1 : ∀ x : Kept w1, x.wd.cell? ⟨w.heap.size, 1, none⟩ = some (.int .i64 m) := fun x => (B1.out.keep x.ok).c1
  have k2 : ∀ x : Kept w1, x.wd.cell? ⟨w.heap.size, 2, none⟩ = some (.int .i64 d) := fun x => (B1.out.keep x.ok).c2
  go_enter Try.func51, Try.ntmps51
  go_wp2
  clear hw1
  refine wp_region_kept (by kernel_rfl) (by kernel_rfl) ?_
  repeat (go_big_quiet_step ((go_at_call 41; exact kept_call _ (HN.out _))))
  refine wpQuiet_nil ?_
  intro w2 hx
  obtain ⟨⟨xx, hb⟩, hw⟩ := hx
  replace hw : w2 = xx := hw
  subst xx
  clear k0 k1 k2
  have A2 := Lib.hid (down A1.out hb)
  have B2 := Lib.hid (B1.out.keep hb)
  clear hb A1 B1 HN
  obtain ⟨c0, c1, c2, cz⟩ := B2.out
  go_wp2_with fail
  refine (HO.out _).mono ?_
  rintro e w3 ⟨rfl, hb⟩
  have A3 := Lib.hid (down A2.out hb)
  have B3 := Lib.hid (B2.out.keep hb)
  clear hb A2 B2 HO c0 c1 c2 cz
  go_wp2
  go_loopw [3, 16] (fun a b wr => ∃ i : Nat, i ≤ Q ∧ a = .int .i64 (B + d - 1 + G i) ∧ b = .int .i64 i ∧ Hid (Below w.heap.size w wr) ∧ Hid (Box wr w.heap.size (.int .i64 y) (.int .i64 m) (.int .i64 d))) (fun _ b _ => (100 - intOf b).toNat)
  case atStart => exact ⟨0, Nat.zero_le _, by rw [S0.out]; go_num, rfl, A3, B3⟩
  case round =>
    obtain ⟨i, hi, rfl, rfl, AR, BR⟩ := hrel
    clear A3 B3
    have kz : decide ((i : Int) < (13 : Int)) = true := decide_eq_true (by omega)
    have ix := fun w => HI.out i (by omega) w
    have bi := SB.out i (by omega)
    obtain ⟨bi0, bi1⟩ := bi
    obtain ⟨c0, c1, c2, cz⟩ := BR.out
    by_cases z : i < Q
    · have t := HT.out i (by omega)
      have ke : (zs.getD i 0 == m) = false := by simpa using NE.out i z
      have HLx := Lib.hid (fun w => HL.out (zs.getD i 0) t.1 t.2.1 w)
      obtain ⟨t0, t1, t2, t3, t4⟩ := t
      replace t2 := Lib.hid t2
      clear HL HI HT SB NE P1 S0
      generalize hlenM y (zs.getD i 0) = l at *
      generalize zs.getD i 0 = x at *
      go_wp2_with fail
      refine (HLx.out _).mono ?_
      rintro e w4 ⟨rfl, hb⟩
      have A4 := Lib.hid (down AR.out hb)
      have B4 := Lib.hid (BR.out.keep hb)
      clear hb AR BR c0 c1 c2 cz
      go_wp2
      go_roundw
      case rel => exact ⟨i + 1, z, by rw [t2.out]; go_num, by go_num, A4, B4⟩
      case measure => simp [intOf]; omega
    · obtain rfl : i = Q := by omega
      have ke : (zs.getD i 0 == m) = true := by simpa using P1.out
      have xb := HT.out i (by omega)
      have xb0 := xb.1
      have xb1 := xb.2.1
      clear HL HI HT SB NE P1 S0 xb
      generalize zs.getD i 0 = x at *
      have e : Hid (B + d - 1 + G i = B + G i + d - 1) := by show _ = _; omega
      go_wp2
      go_ret
      exact ⟨by rw [e.out]; rfl, AR.out⟩
set_option maxRecDepth 100000 in
set_option maxHeartbeats 2000000 in
theorem xday (y m d : Int) (hy : I64 y) (hm : I64 m) (hd : I64 d) (w : World) :
    Calls Try.prog 30 #[.agg #[.int .i64 y, .int .i64 m, .int .i64 d]] w fun e w' => e = .returned (.tuple #[.int .i64 (hdN y m d), .int .i64 (hdE y m d)]) ∧ Below w.heap.size w w' := by
  have HV := fun w => xvld y m d hy hm hd w
  unfold hdN hdE hok
  cases h : hvld y m d
  · rw [h] at HV
    replace HV := Lib.hid HV
    simp only [Bool.false_and, Bool.false_eq_true, if_false]
    clear h
    go_enter Try.func30, Try.ntmps30
    go_wp2_with fail
    refine (HV.out _).mono ?_
    rintro e w1 ⟨rfl, hb⟩
    have A1 := Lib.hid (down (grow (here w) _) hb)
    clear hb
    go_wp2
    go_ret2
    exact ⟨rfl, A1.out⟩
  · obtain ⟨hyt, y0, y1, m0, m1, m13, d0, d30⟩ := hvld_bd h
    have db := hday_bd h
    have HF := fun w => xdof y m d hyt m0 m1 d0 d30 w
    rw [h] at HV
    replace HV := Lib.hid HV
    have HI := fun w => xdy (hday y m d) ⟨by omega, by omega⟩ w
    rw [show hfst y m + d - 1 = hday y m d from rfl] at HF
    simp only [Bool.true_and]
    replace HF := Lib.hid HF
    generalize hday y m d = n at *
    obtain ⟨db0, db1⟩ := db
    clear h hyt m1
    cases q : hins n
    all_goals
      rw [q] at HI
      replace HI := Lib.hid HI
      simp only [Bool.false_eq_true, if_false, if_true]
      clear q
      go_enter Try.func30, Try.ntmps30
      go_wp2_with fail
      refine (HV.out _).mono ?_
      rintro e w1 ⟨rfl, hb⟩
      have A1 := Lib.hid (down (grow (here w) _) hb)
      have B1 := Lib.hid (Box.new hb)
      clear hb
      obtain ⟨c0, c1, c2, cz⟩ := B1.out
      go_wp2_with fail
      refine (HF.out _).mono ?_
      rintro e w2 ⟨rfl, hb⟩
      have A2 := Lib.hid (down A1.out hb)
      clear hb A1 B1 c0 c1 c2 cz
      go_wp2_with fail
      refine (HI.out _).mono ?_
      rintro e w3 ⟨rfl, rfl⟩
      go_wp2
      go_ret2
      exact ⟨rfl, A2.out⟩
theorem hest {n Y : Int} (h0 : -2092590 ≤ n) (h : n < hN (Y + 1)) : (n - -2092590) * 25920 * 19 / 179876755 ≤ Y := by
  have a := (hyear (Y + 1)).2.2.1.2
  have m : 19 * hM (Y + 1) ≤ 235 * (Y + 1) - 234 := by unfold hM; omega
  generalize hM (Y + 1) = k at *
  generalize hN (Y + 1) = N at *
  omega
set_option maxRecDepth 100000 in
set_option maxHeartbeats 2000000 in
theorem xdto (n y m D : Int) (h : hvld y m D = true) (hn : hday y m D = n) (w : World) :
    Calls Try.prog 55 #[.int .i64 n] w fun e w' => e = .returned (.agg #[.int .i64 y, .int .i64 m, .int .i64 D]) ∧ Below w.heap.size w w' := by
  obtain ⟨hyt, y0, y1, m0, m1, m13, D0, D30⟩ := hvld_bd h
  have db := hday_bd h
  have di := hday_in h
  have v := hvld_iff.1 h
  have HN := Lib.hid (fun u (u0 : 0 ≤ u) (u1 : u ≤ 20010) w => xnw u (by omega) (by omega) w)
  have HB : Hid (∀ u : Int, 0 ≤ u → u ≤ 20010 → -2110000 ≤ hN u ∧ hN u ≤ 40000000) := fun u u0 u1 => hN_any (by omega) (by omega)
  have HO := fun w => xord y ⟨by omega, by omega⟩ hyt w
  have HL := Lib.hid (fun m (m0 : 1 ≤ m) (m1 : m ≤ 13) w => xlen y m ⟨by omega, by omega⟩ ⟨by omega, by omega⟩ w)
  have cn13 : hcn (hlp y) ≤ 13 := by cases hlp y <;> decide
  have M1' := m1
  rw [hmn_cn hyt] at M1'
  obtain ⟨p0, p1⟩ := hpos_at m0 M1'
  have fa := hord_facts hyt
  have sb : ∀ i : Nat, i ≤ hcn (hlp y) → 0 ≤ hS (hlp y) (hyl y) i ∧ hS (hlp y) (hyl y) i ≤ 400 := fun i hi => hS_bd hi
  have s0 := hS_zero (hlp y) (hyl y)
  have nb := hN_any (y := y) (by omega) (by omega)
  have HI := fun k hk w => hagg_at (hlp y) k hk w
  have sm : ∀ i : Nat, i + 1 ≤ hpos (hlp y) m → hS (hlp y) (hyl y) (i + 1) ≤ hS (hlp y) (hyl y) (hpos (hlp y) m) := fun i hi => by
    have := hS_le (b := hlp y) (l := hyl y) hi (Nat.le_of_lt p0); omega
  have eD : n - hN y + 1 = hS (hlp y) (hyl y) (hpos (hlp y) m) + D := by rw [← hn]; unfold hday hfst; omega
  rw [hn] at db di
  have HLE : Hid (hN (y + 1) ≤ n → False) := fun q => by omega
  have HGE : Hid (∀ u : Int, u ≤ y → hN u ≤ n) := fun u hu => by
    have := hN_le (y := u) (z := y) hu
    omega
  have es := hest (n := n) (Y := y) db.1 di.2.1
  have es0 : 0 ≤ (n - -2092590) * 25920 * 19 / 179876755 := by omega
  have HF := fun w => xfl ((n - -2092590) * 25920 * 19) 179876755 ⟨by omega, by omega⟩ (by omega) (by omega) w
  generalize (n - -2092590) * 25920 * 19 / 179876755 = q at *
  replace HF := Lib.hid HF
  clear hn
  generalize hagg (hlp y) = V at *
  generalize hS (hlp y) (hyl y) = G at *
  generalize hpos (hlp y) m = Q at *
  generalize hcn (hlp y) = c at *
  generalize hord (hlp y) = zs at *
  have HT : Hid (∀ i : Nat, i < c → 1 ≤ zs.getD i 0 ∧ zs.getD i 0 ≤ 13 ∧ G (i + 1) = G i + hlenM y (zs.getD i 0) ∧ 0 ≤ hlenM y (zs.getD i 0) ∧ hlenM y (zs.getD i 0) ≤ 30) := fun i hi => ⟨(fa i hi).1, (fa i hi).2.1, (fa i hi).2.2.2.1, (fa i hi).2.2.2.2.1, (fa i hi).2.2.2.2.2⟩
  have SB := Lib.hid sb
  have SM := Lib.hid sm
  have P1 : Hid (zs.getD Q 0 = m) := p1
  have S0 := Lib.hid s0
  have ED := Lib.hid eD
  have V1 := Lib.hid v
  replace HO := Lib.hid HO
  replace HI := Lib.hid HI
  obtain ⟨db0, db1⟩ := db
  obtain ⟨nb0, nb1⟩ := nb
  clear fa sb sm s0 p1 m1 M1' h di v eD hyt
  obtain ⟨R, hR⟩ : ∃ R : World, w.alloc (.cells #[.int .i64 0, .int .i64 0, .int .i64 0] 35) = R := ⟨_, rfl⟩
  have AR : Hid (Below w.heap.size w R) := by rw [← hR]; exact grow (here w) _
  have BR : Hid (Box R w.heap.size (.int .i64 0) (.int .i64 0) (.int .i64 0)) := by rw [← hR]; exact Box.new (here _)
  have FR : Hid (Free R w.heap.size) := by rw [← hR]; exact Free.new (here _)
  go_enter Try.func55, Try.ntmps55
  go_wp2_with fail
  refine (HF.out _).mono ?_
  rintro e w1 ⟨rfl, hb⟩
  try rw [hR] at hb
  have A1 := Lib.hid (down AR.out hb)
  have B1 := Lib.hid (BR.out.keep hb)
  have F1 := Lib.hid (FR.out.keep BR.out.lt hb)
  clear hb AR BR FR HF hR
  go_wp2
  go_loopw [3] (fun a wr => ∃ u : Int, 0 ≤ u ∧ u ≤ y ∧ a = .int .i64 u ∧ Hid (Below w.heap.size w wr) ∧ Hid (Box wr w.heap.size (.int .i64 0) (.int .i64 0) (.int .i64 0)) ∧ Hid (Free wr w.heap.size)) (fun a _ => (y - intOf a).toNat)
  case atStart => exact ⟨q, es0, es, rfl, A1, B1, F1⟩
  case round =>
    obtain ⟨u, u0, u1, rfl, AR, BR, FR⟩ := hrel
    clear A1 B1 F1 es es0
    have HNu := Lib.hid (fun w => HN.out (u + 1) (by omega) (by omega) w)
    have nu := HB.out (u + 1) (by omega) (by omega)
    obtain ⟨nu0, nu1⟩ := nu
    by_cases z : u < y
    · have c3 : decide (hN (u + 1) ≤ n) = true := decide_eq_true (HGE.out (u + 1) (by omega))
      clear HN HB HLE HGE HT SB SM P1 S0 ED V1 HO HL HI
      generalize hN (u + 1) = x at *
      go_wp2_with fail
      refine (HNu.out _).mono ?_
      rintro e w2 ⟨rfl, hb⟩
      have A2 := Lib.hid (down AR.out hb)
      have B2 := Lib.hid (BR.out.keep hb)
      have F2 := Lib.hid (FR.out.keep BR.out.lt hb)
      clear hb AR BR FR
      go_wp2
      go_roundw
      case rel => exact ⟨u + 1, by omega, by omega, rfl, A2, B2, F2⟩
      case measure => simp [intOf]; omega
    · obtain rfl : u = y := by omega
      have c3 : decide (hN (u + 1) ≤ n) = false := decide_eq_false (fun k => HLE.out k)
      have HNY := Lib.hid (fun w => HN.out u (by omega) (by omega) w)
      clear HN HB HLE HGE
      generalize hN (u + 1) = x at *
      generalize hN u = B at *
      go_wp2_with fail
      refine (HNu.out _).mono ?_
      rintro e w2 ⟨rfl, hb⟩
      have A2 := Lib.hid (down AR.out hb)
      have B2 := Lib.hid (BR.out.keep hb)
      have F2 := Lib.hid (FR.out.keep BR.out.lt hb)
      clear hb AR BR FR HNu nu0 nu1
      go_wp2_with fail
      refine (HNY.out _).mono ?_
      rintro e w3 ⟨rfl, hb⟩
      have A3 := Lib.hid (down A2.out hb)
      have B3 := Lib.hid (B2.out.keep hb)
      have F3 := Lib.hid (F2.out.keep B2.out.lt hb)
      clear hb A2 B2 F2 HNY c3
      have rb := SB.out Q (by omega)
      have eN := ED.out
      have vb := V1.out
      obtain ⟨N, hN⟩ : ∃ N, n - B + 1 = N := ⟨_, rfl⟩
      have Nb : 0 ≤ N ∧ N ≤ 500 := by rw [P1.out] at *; have := hlenM_bd u m; omega
      obtain ⟨Nb0, Nb1⟩ := Nb
      have EN : Hid (N = G Q + D) := by show N = _; omega
      clear rb eN vb ED
      go_wp2_with fail
      refine (HO.out _).mono ?_
      rintro e w4 ⟨rfl, hb⟩
      have A4 := Lib.hid (down (grow A3.out _) hb)
      have B4 := Lib.hid ((B3.out.old _).keep hb)
      have F4 := Lib.hid ((F3.out.keep B3.out.lt (grow (here _) _)).keep (B3.out.old _).lt hb)
      have D4 := Lib.hid (Box.new hb)
      have E4 := Lib.hid (Free.new hb)
      have le : Hid (w.heap.size ≤ w3.heap.size) := A3.out.size
      have ne : Hid (w.heap.size ≠ w3.heap.size) := by show _ ≠ _; have := B3.out.lt; omega
      clear hb A3 B3 F3 HO hN
      generalize w3.heap.size = b at *
      have D4' : Hid (Box w4 b (.int .i64 u) (.int .i64 0) (.int .i64 (N - G 0))) := by
        show Box _ _ _ _ _
        rw [S0.out, Int.sub_zero]; exact D4.out
      clear D4
      go_wp2
      go_loopw [27] (fun a wr => ∃ (i : Nat) (mm : Int), i ≤ Q ∧ a = .int .i64 i ∧ Hid (Below w.heap.size w wr) ∧ Hid (Box wr w.heap.size (.int .i64 0) (.int .i64 0) (.int .i64 0)) ∧ Hid (Free wr w.heap.size) ∧ Hid (Box wr b (.int .i64 u) (.int .i64 mm) (.int .i64 (N - G i))) ∧ Hid (Free wr b)) (fun a _ => (100 - intOf a).toNat)
      case atStart => exact ⟨0, 0, Nat.zero_le _, rfl, A4, B4, F4, D4', E4⟩
      case round =>
        obtain ⟨i, mm, hi, rfl, AR, BR, FR, DR, ER⟩ := hrel
        clear A4 B4 F4 D4' E4 S0
        have kz : decide ((i : Int) < (13 : Int)) = true := decide_eq_true (by omega)
        have ix := fun w => HI.out i (by omega) w
        have bi := SB.out i (by omega)
        obtain ⟨bi0, bi1⟩ := bi
        have t := HT.out i (by omega)
        have HLx := Lib.hid (fun w => HL.out (zs.getD i 0) t.1 t.2.1 w)
        obtain ⟨t0, t1, t2, t3, t4⟩ := t
        have alt : i < Q ∧ decide (N - G i ≤ hlenM u (zs.getD i 0)) = false ∨ i = Q ∧ decide (N - G i ≤ hlenM u (zs.getD i 0)) = true ∧ N - G i = D ∧ zs.getD i 0 = m := by
          by_cases z : i < Q
          · exact .inl ⟨z, decide_eq_false (by have := SM.out i z; have := EN.out; have := V1.out; omega)⟩
          · have q : i = Q := by omega
            subst q
            exact .inr ⟨rfl, decide_eq_true (by rw [P1.out]; have := EN.out; have := V1.out; omega), by have := EN.out; omega, P1.out⟩
        replace t2 := Lib.hid t2
        clear HL HI HT SB SM P1 EN V1
        generalize hlenM u (zs.getD i 0) = l at *
        generalize zs.getD i 0 = x at *
        obtain ⟨w5, hw5⟩ : ∃ w' : World, wr.setCell ⟨b, 1, none⟩ (.int .i64 x) = w' := ⟨_, rfl⟩
        have A5 : Hid (Below w.heap.size w w5) := by rw [← hw5]; exact AR.out.setCell le.out _
        have B5 : Hid (Box w5 w.heap.size (.int .i64 0) (.int .i64 0) (.int .i64 0)) := by rw [← hw5]; exact BR.out.far ne.out.symm _ _
        have F5 : Hid (Free w5 w.heap.size) := by rw [← hw5]; exact FR.out.set _ _
        have D5 : Hid (Box w5 b (.int .i64 u) (.int .i64 x) (.int .i64 (N - G i))) := by rw [← hw5]; exact DR.out.put1 _
        have E5 : Hid (Free w5 b) := by rw [← hw5]; exact ER.out.set _ _
        obtain ⟨r0, r1, r2, rz⟩ := DR.out
        obtain ⟨f0, f1, f2⟩ := ER.out
        obtain ⟨d0', d1', d2', dz⟩ := D5.out
        clear AR BR FR DR ER
        rcases alt with ⟨z, c4⟩ | ⟨rfl, c4, e1, e2⟩
        · go_wp2_with fail
          refine (HLx.out _).mono ?_
          rintro e w6 ⟨rfl, hb⟩
          have A6 := Lib.hid (down A5.out hb)
          have B6 := Lib.hid (B5.out.keep hb)
          have F6 := Lib.hid (F5.out.keep B5.out.lt hb)
          have D6 := Lib.hid (D5.out.keep hb)
          have E6 := Lib.hid (E5.out.keep D5.out.lt hb)
          clear hb A5 B5 F5 D5 E5 d0' d1' d2' dz r0 r1 r2 rz f0 f1 f2 hw5
          obtain ⟨w7, hw7⟩ : ∃ w' : World, w6.setCell ⟨b, 2, none⟩ (.int .i64 (N - G i - l)) = w' := ⟨_, rfl⟩
          have A7 : Hid (Below w.heap.size w w7) := by rw [← hw7]; exact A6.out.setCell le.out _
          have B7 : Hid (Box w7 w.heap.size (.int .i64 0) (.int .i64 0) (.int .i64 0)) := by rw [← hw7]; exact B6.out.far ne.out.symm _ _
          have F7 : Hid (Free w7 w.heap.size) := by rw [← hw7]; exact F6.out.set _ _
          have D7 : Hid (Box w7 b (.int .i64 u) (.int .i64 x) (.int .i64 (N - G i - l))) := by rw [← hw7]; exact D6.out.put2 _
          have E7 : Hid (Free w7 b) := by rw [← hw7]; exact E6.out.set _ _
          obtain ⟨r0, r1, r2, rz⟩ := D6.out
          obtain ⟨f0, f1, f2⟩ := E6.out
          clear A6 B6 F6 D6 E6
          have e3 : Hid (N - G i - l = N - G (i + 1)) := by show _ = _; rw [t2.out]; omega
          rw [e3.out] at D7
          go_wp2
          go_roundw
          case rel => exact ⟨i + 1, x, z, by go_num, A7, B7, F7, D7, E7⟩
          case measure => simp [intOf]; omega
        · subst e2
          rw [e1] at D5 d2' c4 r2
          clear e1 t2 bi0 bi1
          go_wp2_with fail
          refine (HLx.out _).mono ?_
          rintro e w6 ⟨rfl, hb⟩
          have A6 := Lib.hid (down A5.out hb)
          have B6 := Lib.hid (B5.out.keep hb)
          have F6 := Lib.hid (F5.out.keep B5.out.lt hb)
          have D6 := Lib.hid (D5.out.keep hb)
          clear hb A5 B5 F5 D5 E5 d0' d1' d2' dz r0 r1 r2 rz f0 f1 f2 hw5
          obtain ⟨r0, r1, r2, rz⟩ := D6.out
          obtain ⟨b0, b1, b2, bz⟩ := B6.out
          obtain ⟨f0, f1, f2⟩ := F6.out
          go_wp2
          obtain ⟨w9, hw9⟩ : ∃ w9 : World, (((w6.setCell ⟨w.heap.size, 0, none⟩ (.int .i64 u)).setCell ⟨w.heap.size, 1, none⟩ (.int .i64 x)).setCell ⟨w.heap.size, 2, none⟩ (.int .i64 D)) = w9 := ⟨_, rfl⟩
          have B9 : Box w9 w.heap.size (.int .i64 u) (.int .i64 x) (.int .i64 D) := by rw [← hw9]; exact ((B6.out.put0 _).put1 _).put2 _
          have A9 : Below w.heap.size w w9 := by rw [← hw9]; exact ((A6.out.setCell (Nat.le_refl _) _).setCell (Nat.le_refl _) _).setCell (Nat.le_refl _) _
          obtain ⟨e0, e1, e2, -⟩ := B9
          rw [hw9]
          exact bodyPost_ret (v := .agg #[.int .i64 u, .int .i64 x, .int .i64 D]) (by simp [results, Try.results55, go_sem, e0, e1, e2]) rfl ⟨rfl, A9⟩
set_option maxRecDepth 100000 in
set_option maxHeartbeats 2000000 in
theorem xdate_out (n : Int) (hn : I64 n) (h : hins n = false) (w : World) :
    Calls Try.prog 32 #[.int .i64 n] w fun e w' => e = .returned (.tuple #[.agg #[.int .i64 0, .int .i64 0, .int .i64 0], .int .i64 2]) ∧ Below w.heap.size w w' := by
  have HI := fun w => xdy n hn w
  rw [h] at HI
  replace HI := Lib.hid HI
  clear h
  go_enter Try.func32, Try.ntmps32
  go_wp2_with fail
  refine (HI.out _).mono ?_
  rintro e w1 ⟨rfl, rfl⟩
  go_wp2
  exact bodyPost_ret (v := .tuple #[.agg #[.int .i64 0, .int .i64 0, .int .i64 0], .int .i64 2]) (by simp [results, Try.results32, go_sem]) rfl ⟨rfl, grow (here w) _⟩
set_option maxRecDepth 100000 in
set_option maxHeartbeats 2000000 in
theorem xdate_yes (n y m d : Int) (h : hins n = true) (hv : hvld y m d = true) (hn : hday y m d = n) (w : World) :
    Calls Try.prog 32 #[.int .i64 n] w fun e w' => e = .returned (.tuple #[.agg #[.int .i64 y, .int .i64 m, .int .i64 d], .int .i64 0]) ∧ Below w.heap.size w w' := by
  obtain ⟨n0, n1⟩ := hins_iff.1 h
  have HI := fun w => xdy n ⟨by omega, by omega⟩ w
  rw [h] at HI
  replace HI := Lib.hid HI
  have HA := Lib.hid (fun w => xdto n y m d hv hn w)
  clear h hv hn
  obtain ⟨R, hR⟩ : ∃ R : World, w.alloc (.cells #[.int .i64 0, .int .i64 0, .int .i64 0] 35) = R := ⟨_, rfl⟩
  have AR : Hid (Below w.heap.size w R) := by rw [← hR]; exact grow (here w) _
  have BR : Hid (Box R w.heap.size (.int .i64 0) (.int .i64 0) (.int .i64 0)) := by rw [← hR]; exact Box.new (here _)
  have FR : Hid (Free R w.heap.size) := by rw [← hR]; exact Free.new (here _)
  go_enter Try.func32, Try.ntmps32
  go_wp2_with fail
  refine (HI.out _).mono ?_
  rintro e w1 ⟨rfl, rfl⟩
  go_wp2_with fail
  refine (HA.out _).mono ?_
  rintro e w4 ⟨rfl, hb⟩
  have B4 := Lib.hid (BR.out.keep hb)
  have F4 := Lib.hid (FR.out.keep BR.out.lt hb)
  have Z4 := Lib.hid (down AR.out hb)
  clear hb
  obtain ⟨b0, b1, b2, bz⟩ := B4.out
  obtain ⟨f0, f1, f2⟩ := F4.out
  go_wp2
  obtain ⟨w9, hw9⟩ : ∃ w9 : World, (((w4.setCell ⟨w.heap.size, 0, none⟩ (.int .i64 y)).setCell ⟨w.heap.size, 1, none⟩ (.int .i64 m)).setCell ⟨w.heap.size, 2, none⟩ (.int .i64 d)) = w9 := ⟨_, rfl⟩
  have B9 : Box w9 w.heap.size (.int .i64 y) (.int .i64 m) (.int .i64 d) := by rw [← hw9]; exact ((B4.out.put0 _).put1 _).put2 _
  have A9 : Below w.heap.size w w9 := by rw [← hw9]; exact ((Z4.out.setCell (Nat.le_refl _) _).setCell (Nat.le_refl _) _).setCell (Nat.le_refl _) _
  obtain ⟨e0, e1, e2, -⟩ := B9
  rw [hw9]
  exact bodyPost_ret (v := .tuple #[.agg #[.int .i64 y, .int .i64 m, .int .i64 d], .int .i64 0]) (by simp [results, Try.results32, go_sem, e0, e1, e2]) rfl ⟨rfl, A9⟩
theorem Box.fst7 {w w' : World} {o : Obj} {x y z : Value} {t : TypeId} (hb : Below ((w.alloc (.cells #[x, y, z] t)).alloc o).heap.size ((w.alloc (.cells #[x, y, z] t)).alloc o) w') : Box w' w.heap.size x y z :=
  ((Box.new (here (w.alloc (.cells #[x, y, z] t)))).old o).keep hb
/-- An anniversary lies in its year. -/
theorem hann_lt {y m d g : Int} (h : hvld y m d = true) (hg : hyr g = true) : hanN y m d g < hN (g + 1) := by
  obtain ⟨hy, y0, y1, m0, m1, m13, d0, d30⟩ := hvld_bd h
  have v := hvld_iff.1 h
  obtain ⟨k0, k1⟩ := hanM_in h hg
  have k1' := k1
  rw [hmn_cn hg] at k1'
  obtain ⟨p0, p1⟩ := hpos_at k0 k1'
  have e := hS_end (hsix_yr g)
  have c := hS_le (b := hlp g) (l := hyl g) (show hpos (hlp g) (hanM y m g) + 1 ≤ hcn (hlp g) from p0) (Nat.le_refl _)
  have s := hS_succ (hlp g) (hyl g) _ p0
  have bd := hlenB_bd (hlp g) (hyl g) ((hord (hlp g)).getD (hpos (hlp g) (hanM y m g)) 0)
  have yl : hN (g + 1) = hN g + hyl g := by unfold hyl; omega
  by_cases q : d ≤ 29
  · unfold hanN hfst; omega
  · have m6 : m ≠ 6 := fun k => by
      rw [k, hlenM_at hy (by omega) (by rw [← k]; exact m1), show ∀ b l, hlenB b l 6 = 29 from fun b l => by unfold hlenB; rw [if_pos (by omega)]] at v
      omega
    have M6 : hanM y m g ≠ 6 := by
      unfold hanM
      rcases hmn_in hg with ⟨-, b⟩ | ⟨-, b⟩ <;> rw [b] <;> split <;> omega
    have lastp : hpos (hlp g) (hanM y m g) + 2 ≤ hcn (hlp g) := by
      rcases Nat.lt_or_ge (hpos (hlp g) (hanM y m g) + 1) (hcn (hlp g)) with z | z
      · exact z
      · exfalso
        have z2 : hpos (hlp g) (hanM y m g) = hcn (hlp g) - 1 := by omega
        rw [z2] at p1
        apply M6
        rw [← p1]
        cases hlp g <;> rfl
    have c2 := hS_le (b := hlp g) (l := hyl g) lastp (Nat.le_refl _)
    have s2 := hS_succ (hlp g) (hyl g) (hpos (hlp g) (hanM y m g) + 1) (by omega)
    have bd2 := hlenB_bd (hlp g) (hyl g) ((hord (hlp g)).getD (hpos (hlp g) (hanM y m g) + 1) 0)
    unfold hanN hfst; omega
set_option maxRecDepth 100000 in
set_option maxHeartbeats 2000000 in
theorem xann_bad (y m d g : Int) (hy : I64 y) (hm : I64 m) (hd : I64 d) (hg : I64 g) (h : hvld y m d = false ∨ hvld y m d = true ∧ hyr g = false) (w : World) :
    Calls Try.prog 34 #[.agg #[.int .i64 y, .int .i64 m, .int .i64 d], .int .i64 g] w fun e w' => e = .returned (.tuple #[.agg #[.int .i64 0, .int .i64 0, .int .i64 0], .int .i64 2]) ∧ Below w.heap.size w w' := by
  have HV := fun w => xvld y m d hy hm hd w
  have HY := fun w => xyr g hg w
  obtain ⟨hg0, hg1⟩ := hg
  rcases h with h | ⟨h, h2⟩
  · rw [h] at HV
    replace HV := Lib.hid HV
    clear HY h
    go_enter Try.func34, Try.ntmps34
    go_wp2_with fail
    refine (HV.out _).mono ?_
    rintro e w1 ⟨rfl, hb⟩
    have A1 := Lib.hid (down (grow (grow (here w) _) _) hb)
    have D1 := Lib.hid (Box.fst7 hb)
    have C1 := Lib.hid (Box.snd hb)
    have F1 := Lib.hid (Free.snd hb)
    clear hb
    obtain ⟨d0, d1, d2, dz⟩ := D1.out
    obtain ⟨c0, c1, c2, cz⟩ := C1.out
    obtain ⟨f0, f1, f2⟩ := F1.out
    go_wp2
    obtain ⟨w9, hw9⟩ : ∃ w9 : World, (((w1.setCell ⟨w.heap.size + 1, 0, none⟩ (.int .i64 0)).setCell ⟨w.heap.size + 1, 1, none⟩ (.int .i64 0)).setCell ⟨w.heap.size + 1, 2, none⟩ (.int .i64 0)) = w9 := ⟨_, rfl⟩
    have B9 : Box w9 (w.heap.size + 1) (.int .i64 0) (.int .i64 0) (.int .i64 0) := by rw [← hw9]; exact ((C1.out.put0 _).put1 _).put2 _
    have A9 : Below w.heap.size w w9 := by rw [← hw9]; exact ((A1.out.setCell (Nat.le_succ _) _).setCell (Nat.le_succ _) _).setCell (Nat.le_succ _) _
    obtain ⟨e0, e1, e2, -⟩ := B9
    rw [hw9]
    exact bodyPost_ret (v := .tuple #[.agg #[.int .i64 0, .int .i64 0, .int .i64 0], .int .i64 2]) (by simp [results, Try.results34, go_sem, e0, e1, e2]) rfl ⟨rfl, A9⟩
  · rw [h] at HV
    rw [h2] at HY
    replace HV := Lib.hid HV
    replace HY := Lib.hid HY
    clear h h2
    go_enter Try.func34, Try.ntmps34
    go_wp2_with fail
    refine (HV.out _).mono ?_
    rintro e w1 ⟨rfl, hb⟩
    have A1 := Lib.hid (down (grow (grow (here w) _) _) hb)
    have D1 := Lib.hid (Box.fst7 hb)
    have C1 := Lib.hid (Box.snd hb)
    have F1 := Lib.hid (Free.snd hb)
    clear hb
    obtain ⟨d0, d1, d2, dz⟩ := D1.out
    obtain ⟨c0, c1, c2, cz⟩ := C1.out
    obtain ⟨f0, f1, f2⟩ := F1.out
    go_wp2_with fail
    refine (HY.out _).mono ?_
    rintro e w2 ⟨rfl, rfl⟩
    go_wp2
    obtain ⟨w9, hw9⟩ : ∃ w9 : World, (((w1.setCell ⟨w.heap.size + 1, 0, none⟩ (.int .i64 0)).setCell ⟨w.heap.size + 1, 1, none⟩ (.int .i64 0)).setCell ⟨w.heap.size + 1, 2, none⟩ (.int .i64 0)) = w9 := ⟨_, rfl⟩
    have B9 : Box w9 (w.heap.size + 1) (.int .i64 0) (.int .i64 0) (.int .i64 0) := by rw [← hw9]; exact ((C1.out.put0 _).put1 _).put2 _
    have A9 : Below w.heap.size w w9 := by rw [← hw9]; exact ((A1.out.setCell (Nat.le_succ _) _).setCell (Nat.le_succ _) _).setCell (Nat.le_succ _) _
    obtain ⟨e0, e1, e2, -⟩ := B9
    rw [hw9]
    exact bodyPost_ret (v := .tuple #[.agg #[.int .i64 0, .int .i64 0, .int .i64 0], .int .i64 2]) (by simp [results, Try.results34, go_sem, e0, e1, e2]) rfl ⟨rfl, A9⟩
set_option maxRecDepth 100000 in
set_option maxHeartbeats 2000000 in
theorem xann_yes (y m d g Y M D : Int) (h : hvld y m d = true) (hg : hyr g = true) (hv : hvld Y M D = true) (hn : hday Y M D = hanN y m d g) (w : World) :
    Calls Try.prog 34 #[.agg #[.int .i64 y, .int .i64 m, .int .i64 d], .int .i64 g] w fun e w' => e = .returned (.tuple #[.agg #[.int .i64 Y, .int .i64 M, .int .i64 D], .int .i64 0]) ∧ Below w.heap.size w w' := by
  obtain ⟨hyt, y0, y1, m0, m1, m13, d0, d30⟩ := hvld_bd h
  obtain ⟨g0, g1⟩ := hyr_iff.1 hg
  obtain ⟨k0, k1⟩ := hanM_in h hg
  have HV := fun w => xvld y m d ⟨by omega, by omega⟩ ⟨by omega, by omega⟩ ⟨by omega, by omega⟩ w
  have HY := fun w => xyr g ⟨by omega, by omega⟩ w
  have HM := fun w => xmn y ⟨by omega, by omega⟩ w
  have HG := fun w => xmn g ⟨by omega, by omega⟩ w
  have HF := fun w => xdof g (hanM y m g) d hg k0 k1 d0 d30 w
  rw [show hfst g (hanM y m g) + d - 1 = hanN y m d g from rfl] at HF
  have HA := fun w => xdto (hanN y m d g) Y M D hv hn w
  rw [h] at HV
  rw [hg] at HY
  have nb := hmn_bd y
  have ng := hmn_bd g
  have hM : hanM y m g = if m = hmn y then hmn g else m := rfl
  generalize hanN y m d g = n at *
  clear h hg hv hn hyt m1 k0 k1
  rw [hM] at HF
  clear hM
  generalize hmn y = a at *
  generalize hmn g = b at *
  replace HV := Lib.hid HV
  replace HY := Lib.hid HY
  replace HM := Lib.hid HM
  replace HG := Lib.hid HG
  replace HA := Lib.hid HA
  obtain ⟨nb0, nb1⟩ := nb
  obtain ⟨ng0, ng1⟩ := ng
  by_cases q : m = a
  · rw [if_pos q] at HF
    replace HF := Lib.hid HF
    have kq : (m == a) = true := by simpa using q
    clear q
    go_enter Try.func34, Try.ntmps34
    go_wp2_with fail
    refine (HV.out _).mono ?_
    rintro e w1 ⟨rfl, hb⟩
    have A1 := Lib.hid (down (grow (grow (here w) _) _) hb)
    have D1 := Lib.hid (Box.fst7 hb)
    have C1 := Lib.hid (Box.snd hb)
    have F1 := Lib.hid (Free.snd hb)
    clear hb
    obtain ⟨d0, d1, d2, dz⟩ := D1.out
    obtain ⟨c0, c1, c2, cz⟩ := C1.out
    obtain ⟨f0, f1, f2⟩ := F1.out
    go_wp2_with fail
    refine (HY.out _).mono ?_
    rintro e w2 ⟨rfl, rfl⟩
    go_wp2_with fail
    refine (HM.out _).mono ?_
    rintro e w2 ⟨rfl, hb⟩
    have A2 := Lib.hid (down A1.out hb)
    have D2 := Lib.hid (D1.out.keep hb)
    have C2 := Lib.hid (C1.out.keep hb)
    have F2 := Lib.hid (F1.out.keep C1.out.lt hb)
    clear hb A1 D1 C1 F1 d0 d1 d2 dz c0 c1 c2 cz f0 f1 f2
    obtain ⟨d0, d1, d2, dz⟩ := D2.out
    obtain ⟨c0, c1, c2, cz⟩ := C2.out
    obtain ⟨f0, f1, f2⟩ := F2.out
    go_wp2_with fail
    refine (HG.out _).mono ?_
    rintro e w3 ⟨rfl, hb⟩
    have A3 := Lib.hid (down A2.out hb)
    have D3 := Lib.hid (D2.out.keep hb)
    have C3 := Lib.hid (C2.out.keep hb)
    have F3 := Lib.hid (F2.out.keep C2.out.lt hb)
    clear hb A2 D2 C2 F2 d0 d1 d2 dz c0 c1 c2 cz f0 f1 f2
    obtain ⟨d0, d1, d2, dz⟩ := D3.out
    obtain ⟨c0, c1, c2, cz⟩ := C3.out
    obtain ⟨f0, f1, f2⟩ := F3.out
    go_wp2_with fail
    refine (HF.out _).mono ?_
    rintro e w4 ⟨rfl, hb⟩
    have A4 := Lib.hid (down A3.out hb)
    have D4 := Lib.hid (D3.out.keep hb)
    have C4 := Lib.hid (C3.out.keep hb)
    have F4 := Lib.hid (F3.out.keep C3.out.lt hb)
    clear hb A3 D3 C3 F3 d0 d1 d2 dz c0 c1 c2 cz f0 f1 f2
    obtain ⟨d0, d1, d2, dz⟩ := D4.out
    obtain ⟨c0, c1, c2, cz⟩ := C4.out
    obtain ⟨f0, f1, f2⟩ := F4.out
    go_wp2_with fail
    refine (HA.out _).mono ?_
    rintro e w5 ⟨rfl, hb⟩
    have A5 := Lib.hid (down A4.out hb)
    have D5 := Lib.hid (D4.out.keep hb)
    have C5 := Lib.hid (C4.out.keep hb)
    have F5 := Lib.hid (F4.out.keep C4.out.lt hb)
    clear hb A4 D4 C4 F4 d0 d1 d2 dz c0 c1 c2 cz f0 f1 f2
    obtain ⟨d0, d1, d2, dz⟩ := D5.out
    obtain ⟨c0, c1, c2, cz⟩ := C5.out
    obtain ⟨f0, f1, f2⟩ := F5.out
    go_wp2
    obtain ⟨w9, hw9⟩ : ∃ w9 : World, (((w5.setCell ⟨w.heap.size + 1, 0, none⟩ (.int .i64 Y)).setCell ⟨w.heap.size + 1, 1, none⟩ (.int .i64 M)).setCell ⟨w.heap.size + 1, 2, none⟩ (.int .i64 D)) = w9 := ⟨_, rfl⟩
    have B9 : Box w9 (w.heap.size + 1) (.int .i64 Y) (.int .i64 M) (.int .i64 D) := by rw [← hw9]; exact ((C5.out.put0 _).put1 _).put2 _
    have A9 : Below w.heap.size w w9 := by rw [← hw9]; exact ((A5.out.setCell (Nat.le_succ _) _).setCell (Nat.le_succ _) _).setCell (Nat.le_succ _) _
    obtain ⟨e0, e1, e2, -⟩ := B9
    rw [hw9]
    exact bodyPost_ret (v := .tuple #[.agg #[.int .i64 Y, .int .i64 M, .int .i64 D], .int .i64 0]) (by simp [results, Try.results34, go_sem, e0, e1, e2]) rfl ⟨rfl, A9⟩
  · rw [if_neg q] at HF
    replace HF := Lib.hid HF
    have kq : (m == a) = false := by simpa using q
    clear q
    go_enter Try.func34, Try.ntmps34
    go_wp2_with fail
    refine (HV.out _).mono ?_
    rintro e w1 ⟨rfl, hb⟩
    have A1 := Lib.hid (down (grow (grow (here w) _) _) hb)
    have D1 := Lib.hid (Box.fst7 hb)
    have C1 := Lib.hid (Box.snd hb)
    have F1 := Lib.hid (Free.snd hb)
    clear hb
    obtain ⟨d0, d1, d2, dz⟩ := D1.out
    obtain ⟨c0, c1, c2, cz⟩ := C1.out
    obtain ⟨f0, f1, f2⟩ := F1.out
    go_wp2_with fail
    refine (HY.out _).mono ?_
    rintro e w2 ⟨rfl, rfl⟩
    go_wp2_with fail
    refine (HM.out _).mono ?_
    rintro e w2 ⟨rfl, hb⟩
    have A2 := Lib.hid (down A1.out hb)
    have D2 := Lib.hid (D1.out.keep hb)
    have C2 := Lib.hid (C1.out.keep hb)
    have F2 := Lib.hid (F1.out.keep C1.out.lt hb)
    clear hb A1 D1 C1 F1 d0 d1 d2 dz c0 c1 c2 cz f0 f1 f2
    obtain ⟨d0, d1, d2, dz⟩ := D2.out
    obtain ⟨c0, c1, c2, cz⟩ := C2.out
    obtain ⟨f0, f1, f2⟩ := F2.out
    go_wp2_with fail
    refine (HF.out _).mono ?_
    rintro e w3 ⟨rfl, hb⟩
    have A3 := Lib.hid (down A2.out hb)
    have D3 := Lib.hid (D2.out.keep hb)
    have C3 := Lib.hid (C2.out.keep hb)
    have F3 := Lib.hid (F2.out.keep C2.out.lt hb)
    clear hb A2 D2 C2 F2 d0 d1 d2 dz c0 c1 c2 cz f0 f1 f2
    obtain ⟨d0, d1, d2, dz⟩ := D3.out
    obtain ⟨c0, c1, c2, cz⟩ := C3.out
    obtain ⟨f0, f1, f2⟩ := F3.out
    go_wp2_with fail
    refine (HA.out _).mono ?_
    rintro e w4 ⟨rfl, hb⟩
    have A4 := Lib.hid (down A3.out hb)
    have D4 := Lib.hid (D3.out.keep hb)
    have C4 := Lib.hid (C3.out.keep hb)
    have F4 := Lib.hid (F3.out.keep C3.out.lt hb)
    clear hb A3 D3 C3 F3 d0 d1 d2 dz c0 c1 c2 cz f0 f1 f2
    obtain ⟨d0, d1, d2, dz⟩ := D4.out
    obtain ⟨c0, c1, c2, cz⟩ := C4.out
    obtain ⟨f0, f1, f2⟩ := F4.out
    go_wp2
    obtain ⟨w9, hw9⟩ : ∃ w9 : World, (((w4.setCell ⟨w.heap.size + 1, 0, none⟩ (.int .i64 Y)).setCell ⟨w.heap.size + 1, 1, none⟩ (.int .i64 M)).setCell ⟨w.heap.size + 1, 2, none⟩ (.int .i64 D)) = w9 := ⟨_, rfl⟩
    have B9 : Box w9 (w.heap.size + 1) (.int .i64 Y) (.int .i64 M) (.int .i64 D) := by rw [← hw9]; exact ((C4.out.put0 _).put1 _).put2 _
    have A9 : Below w.heap.size w w9 := by rw [← hw9]; exact ((A4.out.setCell (Nat.le_succ _) _).setCell (Nat.le_succ _) _).setCell (Nat.le_succ _) _
    obtain ⟨e0, e1, e2, -⟩ := B9
    rw [hw9]
    exact bodyPost_ret (v := .tuple #[.agg #[.int .i64 Y, .int .i64 M, .int .i64 D], .int .i64 0]) (by simp [results, Try.results34, go_sem, e0, e1, e2]) rfl ⟨rfl, A9⟩
theorem uhleap (y : Int) (hy : I64 y) (w : World) (ht : Tabs w) :
    Calls Try.prog 17 #[.int .i64 y] w fun e w' => e = .returned (.bool (hyr y && hlp y)) ∧ Below w.heap.size w w' := xlp y hy w
theorem uhmonths (y : Int) (hy : I64 y) (w : World) (ht : Tabs w) :
    Calls Try.prog 19 #[.int .i64 y] w fun e w' => e = .returned (.int .i64 (hmn y)) ∧ Below w.heap.size w w' := xmn y hy w
theorem uhyl (y : Int) (hy : I64 y) (w : World) (ht : Tabs w) :
    Calls Try.prog 21 #[.int .i64 y] w fun e w' => e = .returned (.int .i64 (hylN y)) ∧ Below w.heap.size w w' := xyl y hy w
theorem uhlen (y m : Int) (hy : I64 y) (hm : I64 m) (w : World) (ht : Tabs w) :
    Calls Try.prog 28 #[.int .i64 y, .int .i64 m] w fun e w' => e = .returned (.int .i64 (hlenM y m)) ∧ Below w.heap.size w w' := xlen y m hy hm w
theorem uhmol (y m : Int) (hy : I64 y) (hm : I64 m) (w : World) (ht : Tabs w) :
    Calls Try.prog 26 #[.int .i64 y, .int .i64 m] w fun e w' => e = .returned (.tuple #[.int .i64 (hmolN y m), .int .i64 (hmolR y m), .int .i64 (hmolE y m)]) ∧ Below w.heap.size w w' := xmol y m hy hm w
theorem uhday (y m d : Int) (hy : I64 y) (hm : I64 m) (hd : I64 d) (w : World) (ht : Tabs w) :
    Calls Try.prog 30 #[.agg #[.int .i64 y, .int .i64 m, .int .i64 d]] w fun e w' => e = .returned (.tuple #[.int .i64 (hdN y m d), .int .i64 (hdE y m d)]) ∧ Below w.heap.size w w' := xday y m d hy hm hd w
theorem uhel (y : Int) (hy : I64 y) (w : World) (ht : Tabs w) :
    Calls Try.prog 15 #[.int .i64 y] w fun e w' => e = .returned (.tuple #[.int .i64 (helN y), .int .i64 (hyE y)]) ∧ Below w.heap.size w w' := xelp y hy w
theorem uhnew (y : Int) (hy : I64 y) (w : World) (ht : Tabs w) :
    Calls Try.prog 16 #[.int .i64 y] w fun e w' => e = .returned (.tuple #[.int .i64 (hnwN y), .int .i64 (hyE y)]) ∧ Below w.heap.size w w' := xnew y hy w
theorem uhdate_out (n : Int) (hn : I64 n) (h : hins n = false) (w : World) (ht : Tabs w) :
    Calls Try.prog 32 #[.int .i64 n] w fun e w' => e = .returned (.tuple #[.agg #[.int .i64 0, .int .i64 0, .int .i64 0], .int .i64 2]) ∧ Below w.heap.size w w' := xdate_out n hn h w
theorem uhdate_yes (n y m d : Int) (h : hins n = true) (hv : hvld y m d = true) (hn : hday y m d = n) (w : World) (ht : Tabs w) :
    Calls Try.prog 32 #[.int .i64 n] w fun e w' => e = .returned (.tuple #[.agg #[.int .i64 y, .int .i64 m, .int .i64 d], .int .i64 0]) ∧ Below w.heap.size w w' := xdate_yes n y m d h hv hn w
theorem uhann_bad (y m d g : Int) (hy : I64 y) (hm : I64 m) (hd : I64 d) (hg : I64 g) (h : hvld y m d = false ∨ hyr g = false ∨ hvld y m d = true ∧ hyr g = true ∧ 5212335 ≤ hanN y m d g) (w : World) (ht : Tabs w) :
    Calls Try.prog 34 #[.agg #[.int .i64 y, .int .i64 m, .int .i64 d], .int .i64 g] w fun e w' => e = .returned (.tuple #[.agg #[.int .i64 0, .int .i64 0, .int .i64 0], .int .i64 2]) ∧ Below w.heap.size w w' := by
  refine xann_bad y m d g hy hm hd hg ?_ w
  cases q : hvld y m d
  · exact .inl rfl
  · right
    refine ⟨rfl, ?_⟩
    rcases h with h | h | ⟨-, h, h2⟩
    · rw [q] at h; cases h
    · exact h
    · exfalso
      have a := hann_lt q h
      obtain ⟨g0, g1⟩ := hyr_iff.1 h
      have b := hN_bd (y := g + 1) (by omega) (by omega)
      omega
theorem uhann_yes (y m d g Y M D : Int) (h : hvld y m d = true) (hg : hyr g = true) (hv : hvld Y M D = true) (hn : hday Y M D = hanN y m d g) (w : World) (ht : Tabs w) :
    Calls Try.prog 34 #[.agg #[.int .i64 y, .int .i64 m, .int .i64 d], .int .i64 g] w fun e w' => e = .returned (.tuple #[.agg #[.int .i64 Y, .int .i64 M, .int .i64 D], .int .i64 0]) ∧ Below w.heap.size w w' := xann_yes y m d g Y M D h hg hv hn w
end Go.Proofs.Ytpkkhkkanpcniaa

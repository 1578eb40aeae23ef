/- Contracts of the reference's functions on dates. -/
import Derived.Test.YtdhedkcbkchpgaaDoorRefA
namespace Go.Proofs.YtdhedkcbkchpgaaDoor
open Go.RowKit
set_option linter.unusedVariables false

/-- An int. -/
def I64 (n : Int) : Prop := -9223372036854775808 ≤ n ∧ n ≤ 9223372036854775807
theorem qleft {P : Program} {f : FuncId} {args : Array Value} {w : World} {n : Nat} {v : Value}
    (h : Calls P f args (w.drewN n) fun e w' => e = .returned v ∧ w.drewN n = w') : Calls P f args (w.drewN n) fun e w'' => e = .returned v ∧ ∃ m, w'' = w.drewN m :=
  h.mono fun _ _ ⟨he, hm⟩ => ⟨he, n, hm.symm⟩
theorem below_drewN {B : Nat} {a w : World} (h : Below B a w) (n : Nat) : Below B a (w.drewN n) := ⟨h.os, h.tape, h.output, h.size, h.block⟩
theorem vld_split {y m d : Int} : vld y m d = (decide (1 ≤ d) && decide (d ≤ lenM y m)) := by unfold vld; simp
theorem refvalid (y m d : Int) (hy : I64 y) (hm : I64 m) (hd : I64 d) (w : World) :
    Calls Tryd.prog 16 #[.agg #[.int .i64 y, .int .i64 m, .int .i64 d]] w fun e w' => e = .returned (.bool (vld y m d)) ∧ Below w.heap.size w w' := by
  have HL := Lib.hid (fun w => reflen y m hy.1 hy.2 hm.1 hm.2 w)
  rw [vld_split]
  generalize lenM y m = l at *
  by_cases a : 1 ≤ d
  · have k : decide (1 ≤ d) = true := decide_eq_true a
    rw [k]
    go_enter Tryd.func16, Tryd.ntmps16
    go_wp2
    go_quiet ((go_at_call 20; exact qleft (HL.out _)))
    go_wp2
    go_ret
    exact ⟨rfl, below_drewN ((Below.refl _ _).alloc (Nat.le_refl _) _) _⟩
  · have k : decide (1 ≤ d) = false := decide_eq_false a
    rw [k]
    go_enter Tryd.func16, Tryd.ntmps16
    go_wp2
    go_quiet (fail)
    go_wp2
    go_ret
    exact ⟨rfl, below_drewN ((Below.refl _ _).alloc (Nat.le_refl _) _) _⟩

/-- A boxed struct of three cells is still there. -/
theorem box_cells {w w1 : World} {a b c : Value} {t : TypeId} (hb : Below (w.alloc (.cells #[a, b, c] t)).heap.size (w.alloc (.cells #[a, b, c] t)) w1) :
    w1.cell? ⟨w.heap.size, 0, none⟩ = some a ∧ w1.cell? ⟨w.heap.size, 1, none⟩ = some b ∧ w1.cell? ⟨w.heap.size, 2, none⟩ = some c := by
  have hs : w.heap.size < (w.alloc (.cells #[a, b, c] t)).heap.size := by simp
  refine ⟨?_, ?_, ?_⟩
  · rw [hb.cell (p := ⟨w.heap.size, 0, none⟩) hs, World.cell?_alloc_new]; rfl
  · rw [hb.cell (p := ⟨w.heap.size, 1, none⟩) hs, World.cell?_alloc_new]; rfl
  · rw [hb.cell (p := ⟨w.heap.size, 2, none⟩) hs, World.cell?_alloc_new]; rfl
theorem box_below {w w1 : World} {o : Obj} (hb : Below (w.alloc o).heap.size (w.alloc o) w1) : Below w.heap.size w w1 :=
  ((Below.refl _ _).alloc (Nat.le_refl _) _).trans (hb.mono (by simp))
theorem refyearday_no (y m d : Int) (hy : I64 y) (hm : I64 m) (hd : I64 d) (h : vld y m d = false) (w : World) :
    Calls Tryd.prog 24 #[.agg #[.int .i64 y, .int .i64 m, .int .i64 d]] w fun e w' => e = .returned (.int .i64 0) ∧ Below w.heap.size w w' := by
  have HV := fun w => refvalid y m d hy hm hd w
  rw [h] at HV
  replace HV := Lib.hid HV
  go_enter Tryd.func24, Tryd.ntmps24
  go_wp2_with fail
  refine (HV.out _).mono ?_
  rintro e w1 ⟨rfl, hb⟩
  have hb2 := box_below hb
  obtain ⟨c0, c1, c2⟩ := box_cells hb
  go_wp2
  go_ret
  exact ⟨rfl, hb2⟩
set_option maxHeartbeats 400000 in
theorem refyearday_yes (y m d : Int) (h : vld y m d = true) (w : World) :
    Calls Tryd.prog 24 #[.agg #[.int .i64 y, .int .i64 m, .int .i64 d]] w fun e w' => e = .returned (.int .i64 (cum y m + d)) ∧ Below w.heap.size w w' := by
  obtain ⟨y0, y1, m0, m1, d0, d1⟩ := vld_bd h
  have HV := fun w => refvalid y m d ⟨by omega, by omega⟩ ⟨by omega, by omega⟩ ⟨by omega, by omega⟩ w
  rw [h] at HV
  replace HV := Lib.hid HV
  clear h
  go_enter Tryd.func24, Tryd.ntmps24
  go_wp2_with fail
  refine (HV.out _).mono ?_
  rintro e w1 ⟨rfl, hb⟩
  have hb2 := box_below hb
  obtain ⟨c0, c1, c2⟩ := box_cells hb
  clear hb HV
  go_wp2
  go_loop [3, 4] (fun a b => ∃ (k n : Int), 1 ≤ k ∧ k ≤ m ∧ 0 ≤ n ∧ n ≤ 366 ∧ Hid (n = cum y k) ∧ a = .int .i64 (d + n) ∧ b = .int .i64 k) (fun _ b => (m - intOf b).toNat)
  case atStart => exact ⟨1, 0, by omega, m0, by omega, by omega, (cum_one y).symm, by rw [Int.add_zero], rfl⟩
  case round =>
    obtain ⟨k, n, k0, k1, n0, n1, HC, rfl, rfl⟩ := hrel
    by_cases z : k < m
    · have kz : decide (k < m) = true := decide_eq_true z
      have HS := cum_succ y0 y1 k0 (by omega)
      have hl := lenM_in y0 y1 k0 (show k ≤ 12 by omega)
      have hbd := cum_bd y0 y1 (m := k + 1) (by omega) (by omega)
      rw [HS, ← HC.out] at hbd
      have HC' : Hid (n + lenM y k = cum y (k + 1)) := by show n + lenM y k = cum y (k + 1); rw [HS, ← HC.out]
      have HL := Lib.hid (fun w => reflen y k (by omega) (by omega) (by omega) (by omega) w)
      clear HS HC
      generalize lenM y k = l at *
      obtain ⟨hl0, hl1⟩ := hl
      obtain ⟨hb0, hb1⟩ := hbd
      go_wp2_with fail
      refine (HL.out _).mono ?_
      rintro e w' ⟨rfl, rfl⟩
      go_wp2
      go_round
      case rel => exact ⟨k + 1, n + l, by omega, by omega, by omega, by omega, HC', by rw [Int.add_assoc], rfl⟩
      case measure => simp [intOf]; omega
    · obtain rfl : k = m := by omega
      have kz : decide (k < k) = false := decide_eq_false z
      have HE : Hid (cum y k + d = d + n) := by show cum y k + d = d + n; rw [← HC.out]; omega
      clear HC
      go_wp2
      go_ret
      exact ⟨by rw [HE.out]; rfl, hb2⟩
theorem refyearday (y m d : Int) (hy : I64 y) (hm : I64 m) (hd : I64 d) (w : World) :
    Calls Tryd.prog 24 #[.agg #[.int .i64 y, .int .i64 m, .int .i64 d]] w fun e w' => e = .returned (.int .i64 (ydy y m d)) ∧ Below w.heap.size w w' := by
  unfold ydy
  by_cases h : vld y m d = true
  · rw [if_pos h]; exact refyearday_yes y m d h w
  · rw [if_neg h]; exact refyearday_no y m d hy hm hd (by simpa using h) w
end Go.Proofs.YtdhedkcbkchpgaaDoor

/- The contract of the reference's Date. -/
import Derived.Test.YtdhedkcbkchpgaaDoorRefB
namespace Go.Proofs.YtdhedkcbkchpgaaDoor
open Go.RowKit
set_option linter.unusedVariables false

theorem refdate_no (n : Int) (hn : I64 n) (h : n < -719162 ∨ 2932897 ≤ n) (w : World) :
    Calls Tryd.prog 28 #[.int .i64 n] w fun e w' => e = .returned (.tuple #[.agg #[.int .i64 0, .int .i64 0, .int .i64 0], .int .i64 2]) ∧ Below w.heap.size w w' := by
  rcases h with h | h
  · have k : decide (n < -719162) = true := decide_eq_true h
    go_enter Tryd.func28, Tryd.ntmps28
    go_wp2
    exact bodyPost_ret (v := .tuple #[.agg #[.int .i64 0, .int .i64 0, .int .i64 0], .int .i64 2]) (by simp [results, Tryd.results28, go_sem]) rfl ⟨rfl, (Below.refl _ _).alloc (Nat.le_refl _) _⟩
  · have k : decide (n < -719162) = false := decide_eq_false (by omega)
    have k2 : decide (2932897 ≤ n) = true := decide_eq_true h
    go_enter Tryd.func28, Tryd.ntmps28
    go_wp2
    exact bodyPost_ret (v := .tuple #[.agg #[.int .i64 0, .int .i64 0, .int .i64 0], .int .i64 2]) (by simp [results, Tryd.results28, go_sem]) rfl ⟨rfl, (Below.refl _ _).alloc (Nat.le_refl _) _⟩
theorem guess_low {y n : Int} (y0 : 1 ≤ y) (y1 : y ≤ 9999) (h0 : first y ≤ n) (h1 : n < first (y + 1)) : (n + 719162) / 366 + 1 ≤ y := by
  have s := first_succ y0 y1
  have l := lp_01 y
  unfold first at *
  omega
theorem guess_first {n : Int} (h0 : -719162 ≤ n) : first ((n + 719162) / 366 + 1) ≤ n := by
  unfold first; omega
set_option maxHeartbeats 1000000 in
theorem refdate_yes (n y m d : Int) (h : vld y m d = true) (hn : dayN y m d = n) (w : World) :
    Calls Tryd.prog 28 #[.int .i64 n] w fun e w' => e = .returned (.tuple #[.agg #[.int .i64 y, .int .i64 m, .int .i64 d], .int .i64 0]) ∧ Below w.heap.size w w' := by
  obtain ⟨y0, y1, m0, m1, d0, d1⟩ := vld_bd h
  obtain ⟨r0, r1⟩ := day_range h
  obtain ⟨a0, a1, a2⟩ := day_in h
  have hlen := vld_iff.1 h
  rw [hn] at r0 r1 a0 a1 a2
  have g0 := guess_low y0 y1 a0 a1
  have g1 := guess_first r0
  have k : decide (n < -719162) = false := decide_eq_false (by omega)
  have k2 : decide (2932897 ≤ n) = false := decide_eq_false (by omega)
  have gp : 1 ≤ (n + 719162) / 366 + 1 := by omega
  replace a2 := Lib.hid a2
  clear hn h
  go_enter Tryd.func28, Tryd.ntmps28
  go_wp2
  go_loop [4] (fun a => ∃ z : Int, 1 ≤ z ∧ z ≤ y ∧ Hid (first z ≤ n) ∧ a = .int .i64 z) (fun a => (y - intOf a).toNat)
  case atStart => exact ⟨_, gp, g0, g1, rfl⟩
  case round =>
    obtain ⟨z, z0, z1, hz, rfl⟩ := hrel
    have HF := Lib.hid (fun w => reffirst (z + 1) (by omega) (by omega) w)
    by_cases c : z < y
    · have q : first (z + 1) ≤ n := by have := first_le (y := z + 1) (z := y) (by omega) (by omega) (by omega); omega
      have kq : decide (first (z + 1) ≤ n) = true := decide_eq_true q
      have q' : Hid (first (z + 1) ≤ n) := q
      clear hz a0 a1 g1 q
      go_wp2_with fail
      refine (HF.out _).mono ?_
      rintro e w' ⟨rfl, rfl⟩
      go_wp2
      go_round
      case rel => exact ⟨z + 1, by omega, by omega, q', rfl⟩
      case measure => simp [intOf]; omega
    · obtain rfl : z = y := by omega
      have kq : decide (first (z + 1) ≤ n) = false := decide_eq_false (by omega)
      have HG := Lib.hid (fun w => reffirst z z0 (by omega) w)
      have hb := cum_bd z0 y1 m0 (show m ≤ 13 by omega)
      have lo := first_le (y := 1) (z := z) (by omega) z0 (by omega)
      rw [first_one] at lo
      have e5 : Hid (n - first z + 1 = cum z m + d) := by show n - first z + 1 = _; have := a2.out; omega
      have hb' : 0 ≤ cum z m + d ∧ cum z m + d ≤ 400 := by omega
      clear a0 a1 g0 g1 gp c hz
      have flo : -719162 ≤ first z := by omega
      have fhi : first z ≤ 2932897 := by have := first_le (y := z) (z := 10000) z0 (by omega) (by omega); rw [first_last] at this; omega
      go_wp2_with fail
      refine (HF.out _).mono ?_
      rintro e w' ⟨rfl, rfl⟩
      go_wp2_with fail
      refine (HG.out _).mono ?_
      rintro e w' ⟨rfl, rfl⟩
      go_wp2
      go_loop [5, 6] (fun a b => ∃ j x : Int, 1 ≤ j ∧ j ≤ m ∧ Hid (x + cum z j = cum z m + d) ∧ 0 ≤ x ∧ x ≤ 400 ∧ a = .int .i64 x ∧ b = .int .i64 j) (fun _ b => (m - intOf b).toNat)
      case atStart => exact ⟨1, n - first z + 1, by omega, m0, by show n - first z + 1 + cum z 1 = _; rw [cum_one, e5.out]; omega, by have := e5.out; omega, by have := e5.out; omega, rfl, rfl⟩
      case round =>
        obtain ⟨j, x, j0, j1, hx, x0, x1, rfl, rfl⟩ := hrel
        have HL := Lib.hid (fun w => reflen z j (by omega) (by omega) (by omega) (by omega) w)
        by_cases c : j < m
        · have s := cum_succ z0 y1 j0 (show j ≤ 12 by omega)
          have mo := cum_mono z0 y1 (m - (j + 1)).toNat (j + 1) (by omega) (by omega)
          rw [show j + 1 + ((m - (j + 1)).toNat : Int) = m by omega] at mo
          have q : lenM z j < x := by have := hx.out; omega
          have kq : decide (lenM z j < x) = true := decide_eq_true q
          have hx' : Hid (x - lenM z j + cum z (j + 1) = cum z m + d) := by show _ = _; rw [s]; have := hx.out; omega
          have hl := lenM_in z0 y1 j0 (show j ≤ 12 by omega)
          obtain ⟨hl0, hl1⟩ := hl
          have xl : 0 ≤ x - lenM z j := by omega
          clear s mo hx q hb hlen
          go_wp2_with fail
          refine (HL.out _).mono ?_
          rintro e w' ⟨rfl, rfl⟩
          go_wp2_with fail
          refine (HL.out _).mono ?_
          rintro e w' ⟨rfl, rfl⟩
          go_wp2
          go_round
          case rel => exact ⟨j + 1, x - lenM z j, by omega, by omega, hx', xl, by omega, rfl, rfl⟩
          case measure => simp [intOf]; omega
        · obtain rfl : j = m := by omega
          have xd : x = d := by have := hx.out; omega
          subst xd
          have kq : decide (lenM z j < x) = false := decide_eq_false (by omega)
          clear hx c
          go_wp2_with fail
          refine (HL.out _).mono ?_
          rintro e w' ⟨rfl, rfl⟩
          go_wp2
          exact bodyPost_ret (v := .tuple #[.agg #[.int .i64 z, .int .i64 j, .int .i64 x], .int .i64 0]) (by simp [results, Tryd.results28, go_sem]) rfl ⟨rfl, (Below.refl _ _).alloc (Nat.le_refl _) _⟩
end Go.Proofs.YtdhedkcbkchpgaaDoor

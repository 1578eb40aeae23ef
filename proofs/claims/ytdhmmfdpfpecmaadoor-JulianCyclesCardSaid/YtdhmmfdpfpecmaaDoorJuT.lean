/- Contracts of civiltimeref05: Date. -/
import Derived.Test.YtdhmmfdpfpecmaaDoorJuR
namespace Go.Proofs.YtdhmmfdpfpecmaaDoor
open Go.RowKit
set_option linter.unusedVariables false

theorem dyB_no {n : Int} (h : n < -719162 ∨ 2932897 ≤ n) : dyB n = false := by rw [← Bool.not_eq_true, dyB_iff]; omega
theorem dyB_yes {n : Int} (h0 : -719162 ≤ n) (h1 : n < 2932897) : dyB n = true := dyB_iff.2 ⟨h0, h1⟩
theorem rjdate_no (n : Int) (hn : I64 n) (h : n < -719162 ∨ 2932897 ≤ n) (w : World) :
    Calls Tryd.prog 20 #[.int .i64 n] w fun e w' => e = .returned (.tuple #[.agg #[.int .i64 0, .int .i64 0, .int .i64 0], .int .i64 2]) ∧ Below w.heap.size w w' := by
  have HR := fun w => rjright n hn.1 hn.2 w
  rw [dyB_no h] at HR
  replace HR := Lib.hid HR
  clear h
  go_enter Tryd.func20, Tryd.ntmps20
  go_wp2_with fail
  refine (HR.out _).mono ?_
  rintro e w' ⟨rfl, rfl⟩
  go_wp2
  exact bodyPost_ret (v := .tuple #[.agg #[.int .i64 0, .int .i64 0, .int .i64 0], .int .i64 2]) (by simp [results, Tryd.results20, go_sem]) rfl ⟨rfl, (Below.refl _ _).alloc (Nat.le_refl _) _⟩
/-- The parts of a day in cycles of four years. -/
theorem jquot {n y : Int} (y0 : 1 ≤ y) (y1 : y ≤ 9999) (r0 : -719162 ≤ n) (a0 : jfirst y ≤ n) (a1 : n < jfirst (y + 1)) :
    ∃ q x k : Int, (n + 719164) / 1461 = q ∧ (n + 719164) % 1461 = x ∧ 0 ≤ q ∧ q ≤ 2500 ∧ 0 ≤ x ∧ x ≤ 1460 ∧ 0 ≤ k ∧ k ≤ 3 ∧ y = 4 * q + 1 + k ∧ x - 365 * k = n - jfirst y ∧ (k < 3 → x - 365 * k < 365) ∧ 0 ≤ x - 365 * k := by
  have s := jfirst_succ y0 y1
  have e := jlp_eq y0 y1
  refine ⟨_, _, y - 1 - 4 * ((n + 719164) / 1461), rfl, rfl, ?_⟩
  unfold jfirst at *
  omega
set_option maxHeartbeats 1000000 in
theorem rjdate_yes (n y m d : Int) (h : jvld y m d = true) (hn : jdayN y m d = n) (r0 : -719162 ≤ n) (r1 : n < 2932897) (w : World) :
    Calls Tryd.prog 20 #[.int .i64 n] w fun e w' => e = .returned (.tuple #[.agg #[.int .i64 y, .int .i64 m, .int .i64 d], .int .i64 0]) ∧ Below w.heap.size w w' := by
  obtain ⟨y0, y1, m0, m1, d0, d1⟩ := jvld_bd h
  obtain ⟨a0, a1, a2⟩ := jday_in h
  have hlen := jvld_iff.1 h
  rw [hn] at a0 a1 a2
  obtain ⟨q, x, k, hq, hx, q0, q1, x0, x1, k0, k1, hy, hk, hk3, hk0⟩ := jquot y0 y1 r0 a0 a1
  have HR := fun w => rjright n (by omega) (by omega) w
  rw [dyB_yes r0 r1] at HR
  replace HR := Lib.hid HR
  have e5 : x - 365 * k = jcum y m + d - 1 := by omega
  have hb := jcum_bd y0 y1 m0 (show m ≤ 13 by omega)
  clear a0 a1 a2 hn h hk
  replace hk3 := Lib.hid hk3
  replace hk0 := Lib.hid hk0
  replace hy := Lib.hid hy
  replace e5 := Lib.hid e5
  replace hb := Lib.hid hb
  replace hlen := Lib.hid hlen
  have p0 : 0 ≤ n + 719164 := by omega
  go_enter Tryd.func20, Tryd.ntmps20
  go_wp2_with fail
  refine (HR.out _).mono ?_
  rintro e w' ⟨rfl, rfl⟩
  go_wp2
  go_loop [4, 5, 6] (fun a b c => ∃ j : Int, 0 ≤ j ∧ j ≤ k ∧ a = .int .i64 (x - 365 * j) ∧ b = .int .i64 (4 * q + 1 + j) ∧ c = .int .i64 j) (fun _ _ c => (k - intOf c).toNat)
  case atStart => exact ⟨0, by omega, k0, by simp [hx], by simp, rfl⟩
  case round =>
    obtain ⟨j, j0, j1, rfl, rfl, rfl⟩ := hrel
    by_cases c : j < k
    · have c3 : decide (j < 3) = true := decide_eq_true (by omega)
      have cx : decide (365 ≤ x - 365 * j) = true := decide_eq_true (by have := hk0.out; omega)
      have cx0 : 365 ≤ x - 365 * j := of_decide_eq_true cx
      go_wp2
      go_round
      case rel => exact ⟨j + 1, by omega, by omega, by congr 1; omega, by congr 1; omega, rfl⟩
      case measure => simp [intOf]; omega
    · obtain rfl : j = k := by omega
      have e6 : Hid (4 * q + 1 + j = y) := hy.out.symm
      have y0' : 1 ≤ 4 * q + 1 + j := by rw [e6.out]; exact y0
      have y1' : 4 * q + 1 + j ≤ 9999 := by rw [e6.out]; exact y1
      obtain ⟨Y, hY⟩ : ∃ Y, 4 * q + 1 + j = Y := ⟨_, rfl⟩
      obtain ⟨X, hX⟩ : ∃ X, x - 365 * j = X := ⟨_, rfl⟩
      have hX0 : 0 ≤ X ∧ X ≤ 400 := by have := e5.out; have := hb.out; omega
      obtain ⟨X0, X1⟩ := hX0
      have eY : Hid (Y = y) := by show Y = y; rw [← hY]; exact e6.out
      have eX : Hid (X = jcum y m + d - 1) := by show X = _; rw [← hX]; exact e5.out
      have hk3' := hk3.out
      rw [hX] at hk3'
      have hcase : (decide (j < 3) = true ∧ decide (365 ≤ X) = false) ∨ decide (j < 3) = false := by
        by_cases z : j < 3
        · have := hk3' z; exact Or.inl ⟨decide_eq_true z, decide_eq_false (by omega)⟩
        · exact Or.inr (decide_eq_false z)
      clear hk3 hk3' hk0 e6 y0' y1' hy e5 hq hx c j1
      rw [hX, hY]
      obtain rfl : Y = y := eY.out
      clear hX hY eY
      rcases hcase with ⟨z3, zx⟩ | z3
      all_goals
        go_wp2
        go_loop [4, 7] (fun a b => ∃ i u : Int, 1 ≤ i ∧ i ≤ m ∧ Hid (u + jcum Y i = jcum Y m + d - 1) ∧ 0 ≤ u ∧ u ≤ 400 ∧ a = .int .i64 u ∧ b = .int .i64 i) (fun _ b => (m - intOf b).toNat)
        case atStart => exact ⟨1, X, by omega, m0, by show X + jcum Y 1 = _; rw [jcum_one, eX.out]; omega, X0, X1, rfl, rfl⟩
        case round =>
          obtain ⟨i, u, i0, i1, hu, u0, u1, rfl, rfl⟩ := hrel
          have HL := Lib.hid (fun w => rjlen Y i (by omega) (by omega) (by omega) (by omega) w)
          by_cases c : i < m
          · have s := jcum_succ y0 y1 i0 (show i ≤ 12 by omega)
            have mo := jcum_mono y0 y1 (m - (i + 1)).toNat (i + 1) (by omega) (by omega)
            rw [show i + 1 + ((m - (i + 1)).toNat : Int) = m by omega] at mo
            have v : jlenM Y i ≤ u := by have := hu.out; omega
            have kq : decide (jlenM Y i ≤ u) = true := decide_eq_true v
            have hu' : Hid (u - jlenM Y i + jcum Y (i + 1) = jcum Y m + d - 1) := by show _ = _; rw [s]; have := hu.out; omega
            have hl := jlenM_in y0 y1 i0 (show i ≤ 12 by omega)
            obtain ⟨hl0, hl1⟩ := hl
            clear s mo hu
            go_wp2_with fail
            refine (HL.out _).mono ?_
            rintro e w' ⟨rfl, rfl⟩
            go_wp2_with fail
            refine (HL.out _).mono ?_
            rintro e w' ⟨rfl, rfl⟩
            go_wp2
            go_round
            case rel => exact ⟨i + 1, u - jlenM Y i, by omega, by omega, hu', by omega, by omega, rfl, rfl⟩
            case measure => simp [intOf]; omega
          · obtain rfl : i = m := by omega
            have ud : u + 1 = d := by have := hu.out; omega
            have kq : decide (jlenM Y i ≤ u) = false := decide_eq_false (by have := hlen.out; omega)
            clear hu c hb hlen eX
            go_wp2_with fail
            refine (HL.out _).mono ?_
            rintro e w' ⟨rfl, rfl⟩
            go_wp2
            exact bodyPost_ret (v := .tuple #[.agg #[.int .i64 Y, .int .i64 i, .int .i64 d], .int .i64 0]) (by simp [results, Tryd.results20, go_sem]) rfl ⟨rfl, (Below.refl _ _).alloc (Nat.le_refl _) _⟩
end Go.Proofs.YtdhmmfdpfpecmaaDoor

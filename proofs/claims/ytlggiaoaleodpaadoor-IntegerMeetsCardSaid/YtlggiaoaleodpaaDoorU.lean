/- The contract of bits.Div64's remainder. -/
import Derived.Test.YtlggiaoaleodpaaDoorD
import Derived.Test.YtlggiaoaleodpaaDoorV
import Derived.Test.YtlggiaoaleodpaaDoorShelfThree
namespace Go.Proofs.YtlggiaoaleodpaaDoor
open Go.RowKit
set_option linter.unusedVariables false
def DivPost (R : Int) (w : World) (e : Ending) (w' : World) : Prop := ∃ q, e = .returned (.tuple #[.int .u64 q, .int .u64 R]) ∧ w = w'
set_option maxRecDepth 100000 in
set_option maxHeartbeats 4000000 in
theorem div64_any (hi lo y s p t Y H T A L v1 v0 u1 u0' R : Int) (h0 : 1 ≤ hi) (h1 : hi < y) (h2 : y ≤ 9223372036854775807) (l0 : 0 ≤ lo) (l1 : lo < 18446744073709551616) (s0 : 1 ≤ s) (s1 : s ≤ 63)
    (hp : (2 : Int) ^ s.toNat = p) (ht : (2 : Int) ^ (64 - s).toNat = t) (e1 : IntKind.u64.wrap (y * p) = Y) (e2 : IntKind.u64.wrap (hi * p) = H) (e3 : lo / t = T) (e4 : bits .or .u64 H T = A) (e5 : IntKind.u64.wrap (lo * p) = L)
    (e6 : Y / 4294967296 = v1) (e7 : bits .and .u64 Y 4294967295 = v0) (e8 : L / 4294967296 = u1) (e9 : bits .and .u64 L 4294967295 = u0')
    (Y1 : Y < 18446744073709551616) (A0 : 0 ≤ A) (A1 : A < Y) (L0 : 0 ≤ L) (L1 : L < 18446744073709551616)
    (hY : Y = v1 * 4294967296 + v0) (v10 : 2147483648 ≤ v1) (v11 : v1 < 4294967296) (v00 : 0 ≤ v0) (v01 : v0 < 4294967296) (u0 : 0 ≤ u1) (u1' : u1 < 4294967296) (z0 : 0 ≤ u0') (z1 : u0' < 4294967296)
    (hR : ((A * 4294967296 + u1) % Y * 4294967296 + u0') % Y / p = R) (w : World)
    (HZ : ∀ w, Calls Tryd.prog 69 #[.int .u64 y] w fun e w' => e = .returned (.int .i64 s) ∧ w' = w) :
    Calls Tryd.prog 54 #[.int .u64 hi, .int .u64 lo, .int .u64 y] w (DivPost R w) := by
  have k1 : (y == 0) = false := by simp; omega
  have k2 : (hi == 0) = false := by simp; omega
  have k3 : decide (y ≤ hi) = false := decide_eq_false (by omega)
  replace HZ := Lib.hid (fun w => (HZ w).mono fun e w' (h : e = .returned (.int .i64 s) ∧ w' = w) => (⟨h.1, h.2.symm⟩ : e = .returned (.int .i64 s) ∧ w = w'))
  obtain ⟨ds, qs0, qs1, qm0, qm1, rs1⟩ := D_start hY v10 v00 v01 A0 A1 u1'
  have rs0 : 0 ≤ A - A / v1 * v1 := by omega
  have rs1 : A - A / v1 * v1 < 4294967296 := by omega
  replace hY := Lib.hid hY
  replace hR := Lib.hid hR
  replace ds := Lib.hid ds
  go_enter Tryd.func54, Tryd.ntmps54
  go_wp2_with fail
  refine (HZ.out _).mono ?_
  rintro e w' ⟨rfl, rfl⟩
  go_wp2_with fail
  go_loop [15, 16] (fun a b => ∃ q r : Int, 0 ≤ q ∧ q ≤ 4294967297 ∧ 0 ≤ r ∧ r < 4294967296 ∧ DInv A Y v1 u1 q r ∧ a = .int .u64 q ∧ b = .int .u64 r) (fun a _ => (intOf a).toNat)
  case atStart => exact ⟨_, _, qs0, qs1, rs0, rs1, ds.out, rfl, rfl⟩
  case round =>
    obtain ⟨q, r, q0, q1, r0, r1, HI, rfl, rfl⟩ := hrel
    have qv0 : 0 ≤ q * v0 := Int.mul_nonneg q0 v00
    by_cases g1 : 4294967296 ≤ q
    · have HB := D_body hY.out v10 v00 A1 u0 u1' HI (.inl g1)
      have kg1 : decide (4294967296 ≤ q) = true := decide_eq_true g1
      by_cases g3 : 4294967296 ≤ r + v1
      · have HX := D_break hY.out v10 v00 v01 u0 HB (by omega) g3
        have kg3 : decide (4294967296 ≤ r + v1) = true := decide_eq_true g3
        clear HI HB
        obtain ⟨qq, hqq⟩ : ∃ qq, q - 1 = qq := ⟨_, rfl⟩
        rw [hqq] at HX
        have qq0 : 0 ≤ qq := by omega
        have qq1 : qq ≤ 4294967296 := by omega
        have e10 := D_wrap (by omega) Y1 HX
        have R10 : 0 ≤ (A * 4294967296 + u1) % Y := Int.emod_nonneg _ (by omega)
        have R11 : (A * 4294967296 + u1) % Y < Y := Int.emod_lt_of_pos _ (by omega)
        obtain ⟨R1, hR1⟩ : ∃ R1, (A * 4294967296 + u1) % Y = R1 := ⟨_, rfl⟩
        have hR2 := hR.out
        rw [hR1] at e10 R10 R11 hR2
        have R20 : 0 ≤ (R1 * 4294967296 + u0') % Y := Int.emod_nonneg _ (by omega)
        have R21 : (R1 * 4294967296 + u0') % Y < Y := Int.emod_lt_of_pos _ (by omega)
        obtain ⟨R2, hR4⟩ : ∃ R2, (R1 * 4294967296 + u0') % Y = R2 := ⟨_, rfl⟩
        rw [hR4] at R20 R21 hR2
        have hR4 := Lib.hid hR4
        have hR3 := Lib.hid hR2
        clear hR2 HX hR1
        clear ds qs0 qs1 qm0 qm1 rs0 rs1
        obtain ⟨ds, qs0, qs1, qm0, qm1, rs1⟩ := D_start hY.out v10 v00 v01 R10 R11 z1
        have rs0 : 0 ≤ R1 - R1 / v1 * v1 := by omega
        have rs1 : R1 - R1 / v1 * v1 < 4294967296 := by omega
        replace ds := Lib.hid ds
        go_wp2_with fail
        go_loop [18, 16] (fun a b => ∃ q r : Int, 0 ≤ q ∧ q ≤ 4294967297 ∧ 0 ≤ r ∧ r < 4294967296 ∧ DInv R1 Y v1 u0' q r ∧ a = .int .u64 q ∧ b = .int .u64 r) (fun a _ => (intOf a).toNat)
        case atStart => exact ⟨_, _, qs0, qs1, rs0, rs1, ds.out, rfl, rfl⟩
        case round =>
          obtain ⟨d, r, q0, q1, r0, r1, HI, rfl, rfl⟩ := hrel
          have qv0 : 0 ≤ d * v0 := Int.mul_nonneg q0 v00
          by_cases g1 : 4294967296 ≤ d
          · have HB := D_body hY.out v10 v00 R11 z0 z1 HI (.inl g1)
            have kg1 : decide (4294967296 ≤ d) = true := decide_eq_true g1
            by_cases g3 : 4294967296 ≤ r + v1
            · have HX := D_break hY.out v10 v00 v01 z0 HB (by omega) g3
              have kg3 : decide (4294967296 ≤ r + v1) = true := decide_eq_true g3
              clear HI HB
              obtain ⟨qq, hqq⟩ : ∃ qq, d - 1 = qq := ⟨_, rfl⟩
              rw [hqq] at HX
              have qq0 : 0 ≤ qq := by omega
              have qq1 : qq ≤ 4294967296 := by omega
              have e11 := D_wrap (by omega) Y1 HX
              rw [hR4.out] at e11
              clear HX
              go_wp2
              go_ret2
              exact ⟨_, by rw [← hR3.out]; rfl, rfl⟩
            · have kg3 : decide (4294967296 ≤ r + v1) = false := decide_eq_false g3
              replace HB := Lib.hid HB
              clear HI
              go_wp2
              go_round
              case rel => exact ⟨d - 1, r + v1, by omega, by omega, by omega, by omega, HB.out, rfl, rfl⟩
              case measure => simp [intOf]; omega
          · have kg1 : decide (4294967296 ≤ d) = false := decide_eq_false g1
            have qv1 : d * v0 ≤ 4294967295 * v0 := Int.mul_le_mul_of_nonneg_right (by omega) v00
            by_cases g2 : 4294967296 * r + u0' < d * v0
            · have HB := D_body hY.out v10 v00 R11 z0 z1 HI (.inr g2)
              have kg2 : decide (4294967296 * r + u0' < d * v0) = true := decide_eq_true g2
              have qp : 1 ≤ d := by
                rcases Int.lt_or_le d 1 with z | z
                · have : d = 0 := by omega
                  rw [this, Int.zero_mul] at g2; omega
                · exact z
              by_cases g3 : 4294967296 ≤ r + v1
              · have HX := D_break hY.out v10 v00 v01 z0 HB (by omega) g3
                have kg3 : decide (4294967296 ≤ r + v1) = true := decide_eq_true g3
                clear HI HB
                obtain ⟨qq, hqq⟩ : ∃ qq, d - 1 = qq := ⟨_, rfl⟩
                rw [hqq] at HX
                have qq0 : 0 ≤ qq := by omega
                have qq1 : qq ≤ 4294967296 := by omega
                have e11 := D_wrap (by omega) Y1 HX
                rw [hR4.out] at e11
                clear HX
                go_wp2
                go_ret2
                exact ⟨_, by rw [← hR3.out]; rfl, rfl⟩
              · have kg3 : decide (4294967296 ≤ r + v1) = false := decide_eq_false g3
                replace HB := Lib.hid HB
                clear HI
                go_wp2
                go_round
                case rel => exact ⟨d - 1, r + v1, by omega, by omega, by omega, by omega, HB.out, rfl, rfl⟩
                case measure => simp [intOf]; omega
            · have kg2 : decide (4294967296 * r + u0' < d * v0) = false := decide_eq_false g2
              have HX := D_exit hY.out v10 v00 HI (by omega)
              clear HI
              have qq0 : 0 ≤ d := by omega
              have qq1 : d ≤ 4294967296 := by omega
              have e11 := D_wrap (by omega) Y1 HX
              rw [hR4.out] at e11
              clear HX
              go_wp2
              go_ret2
              exact ⟨_, by rw [← hR3.out]; rfl, rfl⟩
      · have kg3 : decide (4294967296 ≤ r + v1) = false := decide_eq_false g3
        replace HB := Lib.hid HB
        clear HI
        go_wp2
        go_round
        case rel => exact ⟨q - 1, r + v1, by omega, by omega, by omega, by omega, HB.out, rfl, rfl⟩
        case measure => simp [intOf]; omega
    · have kg1 : decide (4294967296 ≤ q) = false := decide_eq_false g1
      have qv1 : q * v0 ≤ 4294967295 * v0 := Int.mul_le_mul_of_nonneg_right (by omega) v00
      by_cases g2 : 4294967296 * r + u1 < q * v0
      · have HB := D_body hY.out v10 v00 A1 u0 u1' HI (.inr g2)
        have kg2 : decide (4294967296 * r + u1 < q * v0) = true := decide_eq_true g2
        have qp : 1 ≤ q := by
          rcases Int.lt_or_le q 1 with z | z
          · have : q = 0 := by omega
            rw [this, Int.zero_mul] at g2; omega
          · exact z
        by_cases g3 : 4294967296 ≤ r + v1
        · have HX := D_break hY.out v10 v00 v01 u0 HB (by omega) g3
          have kg3 : decide (4294967296 ≤ r + v1) = true := decide_eq_true g3
          clear HI HB
          obtain ⟨qq, hqq⟩ : ∃ qq, q - 1 = qq := ⟨_, rfl⟩
          rw [hqq] at HX
          have qq0 : 0 ≤ qq := by omega
          have qq1 : qq ≤ 4294967296 := by omega
          have e10 := D_wrap (by omega) Y1 HX
          have R10 : 0 ≤ (A * 4294967296 + u1) % Y := Int.emod_nonneg _ (by omega)
          have R11 : (A * 4294967296 + u1) % Y < Y := Int.emod_lt_of_pos _ (by omega)
          obtain ⟨R1, hR1⟩ : ∃ R1, (A * 4294967296 + u1) % Y = R1 := ⟨_, rfl⟩
          have hR2 := hR.out
          rw [hR1] at e10 R10 R11 hR2
          have R20 : 0 ≤ (R1 * 4294967296 + u0') % Y := Int.emod_nonneg _ (by omega)
          have R21 : (R1 * 4294967296 + u0') % Y < Y := Int.emod_lt_of_pos _ (by omega)
          obtain ⟨R2, hR4⟩ : ∃ R2, (R1 * 4294967296 + u0') % Y = R2 := ⟨_, rfl⟩
          rw [hR4] at R20 R21 hR2
          have hR4 := Lib.hid hR4
          have hR3 := Lib.hid hR2
          clear hR2 HX hR1
          clear ds qs0 qs1 qm0 qm1 rs0 rs1
          obtain ⟨ds, qs0, qs1, qm0, qm1, rs1⟩ := D_start hY.out v10 v00 v01 R10 R11 z1
          have rs0 : 0 ≤ R1 - R1 / v1 * v1 := by omega
          have rs1 : R1 - R1 / v1 * v1 < 4294967296 := by omega
          replace ds := Lib.hid ds
          go_wp2_with fail
          go_loop [18, 16] (fun a b => ∃ q r : Int, 0 ≤ q ∧ q ≤ 4294967297 ∧ 0 ≤ r ∧ r < 4294967296 ∧ DInv R1 Y v1 u0' q r ∧ a = .int .u64 q ∧ b = .int .u64 r) (fun a _ => (intOf a).toNat)
          case atStart => exact ⟨_, _, qs0, qs1, rs0, rs1, ds.out, rfl, rfl⟩
          case round =>
            obtain ⟨d, r, q0, q1, r0, r1, HI, rfl, rfl⟩ := hrel
            have qv0 : 0 ≤ d * v0 := Int.mul_nonneg q0 v00
            by_cases g1 : 4294967296 ≤ d
            · have HB := D_body hY.out v10 v00 R11 z0 z1 HI (.inl g1)
              have kg1 : decide (4294967296 ≤ d) = true := decide_eq_true g1
              by_cases g3 : 4294967296 ≤ r + v1
              · have HX := D_break hY.out v10 v00 v01 z0 HB (by omega) g3
                have kg3 : decide (4294967296 ≤ r + v1) = true := decide_eq_true g3
                clear HI HB
                obtain ⟨qq, hqq⟩ : ∃ qq, d - 1 = qq := ⟨_, rfl⟩
                rw [hqq] at HX
                have qq0 : 0 ≤ qq := by omega
                have qq1 : qq ≤ 4294967296 := by omega
                have e11 := D_wrap (by omega) Y1 HX
                rw [hR4.out] at e11
                clear HX
                go_wp2
                go_ret2
                exact ⟨_, by rw [← hR3.out]; rfl, rfl⟩
              · have kg3 : decide (4294967296 ≤ r + v1) = false := decide_eq_false g3
                replace HB := Lib.hid HB
                clear HI
                go_wp2
                go_round
                case rel => exact ⟨d - 1, r + v1, by omega, by omega, by omega, by omega, HB.out, rfl, rfl⟩
                case measure => simp [intOf]; omega
            · have kg1 : decide (4294967296 ≤ d) = false := decide_eq_false g1
              have qv1 : d * v0 ≤ 4294967295 * v0 := Int.mul_le_mul_of_nonneg_right (by omega) v00
              by_cases g2 : 4294967296 * r + u0' < d * v0
              · have HB := D_body hY.out v10 v00 R11 z0 z1 HI (.inr g2)
                have kg2 : decide (4294967296 * r + u0' < d * v0) = true := decide_eq_true g2
                have qp : 1 ≤ d := by
                  rcases Int.lt_or_le d 1 with z | z
                  · have : d = 0 := by omega
                    rw [this, Int.zero_mul] at g2; omega
                  · exact z
                by_cases g3 : 4294967296 ≤ r + v1
                · have HX := D_break hY.out v10 v00 v01 z0 HB (by omega) g3
                  have kg3 : decide (4294967296 ≤ r + v1) = true := decide_eq_true g3
                  clear HI HB
                  obtain ⟨qq, hqq⟩ : ∃ qq, d - 1 = qq := ⟨_, rfl⟩
                  rw [hqq] at HX
                  have qq0 : 0 ≤ qq := by omega
                  have qq1 : qq ≤ 4294967296 := by omega
                  have e11 := D_wrap (by omega) Y1 HX
                  rw [hR4.out] at e11
                  clear HX
                  go_wp2
                  go_ret2
                  exact ⟨_, by rw [← hR3.out]; rfl, rfl⟩
                · have kg3 : decide (4294967296 ≤ r + v1) = false := decide_eq_false g3
                  replace HB := Lib.hid HB
                  clear HI
                  go_wp2
                  go_round
                  case rel => exact ⟨d - 1, r + v1, by omega, by omega, by omega, by omega, HB.out, rfl, rfl⟩
                  case measure => simp [intOf]; omega
              · have kg2 : decide (4294967296 * r + u0' < d * v0) = false := decide_eq_false g2
                have HX := D_exit hY.out v10 v00 HI (by omega)
                clear HI
                have qq0 : 0 ≤ d := by omega
                have qq1 : d ≤ 4294967296 := by omega
                have e11 := D_wrap (by omega) Y1 HX
                rw [hR4.out] at e11
                clear HX
                go_wp2
                go_ret2
                exact ⟨_, by rw [← hR3.out]; rfl, rfl⟩
        · have kg3 : decide (4294967296 ≤ r + v1) = false := decide_eq_false g3
          replace HB := Lib.hid HB
          clear HI
          go_wp2
          go_round
          case rel => exact ⟨q - 1, r + v1, by omega, by omega, by omega, by omega, HB.out, rfl, rfl⟩
          case measure => simp [intOf]; omega
      · have kg2 : decide (4294967296 * r + u1 < q * v0) = false := decide_eq_false g2
        have HX := D_exit hY.out v10 v00 HI (by omega)
        clear HI
        have qq0 : 0 ≤ q := by omega
        have qq1 : q ≤ 4294967296 := by omega
        have e10 := D_wrap (by omega) Y1 HX
        have R10 : 0 ≤ (A * 4294967296 + u1) % Y := Int.emod_nonneg _ (by omega)
        have R11 : (A * 4294967296 + u1) % Y < Y := Int.emod_lt_of_pos _ (by omega)
        obtain ⟨R1, hR1⟩ : ∃ R1, (A * 4294967296 + u1) % Y = R1 := ⟨_, rfl⟩
        have hR2 := hR.out
        rw [hR1] at e10 R10 R11 hR2
        have R20 : 0 ≤ (R1 * 4294967296 + u0') % Y := Int.emod_nonneg _ (by omega)
        have R21 : (R1 * 4294967296 + u0') % Y < Y := Int.emod_lt_of_pos _ (by omega)
        obtain ⟨R2, hR4⟩ : ∃ R2, (R1 * 4294967296 + u0') % Y = R2 := ⟨_, rfl⟩
        rw [hR4] at R20 R21 hR2
        have hR4 := Lib.hid hR4
        have hR3 := Lib.hid hR2
        clear hR2 HX hR1
        clear ds qs0 qs1 qm0 qm1 rs0 rs1
        obtain ⟨ds, qs0, qs1, qm0, qm1, rs1⟩ := D_start hY.out v10 v00 v01 R10 R11 z1
        have rs0 : 0 ≤ R1 - R1 / v1 * v1 := by omega
        have rs1 : R1 - R1 / v1 * v1 < 4294967296 := by omega
        replace ds := Lib.hid ds
        go_wp2_with fail
        go_loop [18, 16] (fun a b => ∃ q r : Int, 0 ≤ q ∧ q ≤ 4294967297 ∧ 0 ≤ r ∧ r < 4294967296 ∧ DInv R1 Y v1 u0' q r ∧ a = .int .u64 q ∧ b = .int .u64 r) (fun a _ => (intOf a).toNat)
        case atStart => exact ⟨_, _, qs0, qs1, rs0, rs1, ds.out, rfl, rfl⟩
        case round =>
          obtain ⟨d, r, q0, q1, r0, r1, HI, rfl, rfl⟩ := hrel
          have qv0 : 0 ≤ d * v0 := Int.mul_nonneg q0 v00
          by_cases g1 : 4294967296 ≤ d
          · have HB := D_body hY.out v10 v00 R11 z0 z1 HI (.inl g1)
            have kg1 : decide (4294967296 ≤ d) = true := decide_eq_true g1
            by_cases g3 : 4294967296 ≤ r + v1
            · have HX := D_break hY.out v10 v00 v01 z0 HB (by omega) g3
              have kg3 : decide (4294967296 ≤ r + v1) = true := decide_eq_true g3
              clear HI HB
              obtain ⟨q, hq⟩ : ∃ q, d - 1 = q := ⟨_, rfl⟩
              rw [hq] at HX
              have q0 : 0 ≤ q := by omega
              have q1 : q ≤ 4294967296 := by omega
              have e11 := D_wrap (by omega) Y1 HX
              rw [hR4.out] at e11
              clear HX
              go_wp2
              go_ret2
              exact ⟨_, by rw [← hR3.out]; rfl, rfl⟩
            · have kg3 : decide (4294967296 ≤ r + v1) = false := decide_eq_false g3
              replace HB := Lib.hid HB
              clear HI
              go_wp2
              go_round
              case rel => exact ⟨d - 1, r + v1, by omega, by omega, by omega, by omega, HB.out, rfl, rfl⟩
              case measure => simp [intOf]; omega
          · have kg1 : decide (4294967296 ≤ d) = false := decide_eq_false g1
            have qv1 : d * v0 ≤ 4294967295 * v0 := Int.mul_le_mul_of_nonneg_right (by omega) v00
            by_cases g2 : 4294967296 * r + u0' < d * v0
            · have HB := D_body hY.out v10 v00 R11 z0 z1 HI (.inr g2)
              have kg2 : decide (4294967296 * r + u0' < d * v0) = true := decide_eq_true g2
              have qp : 1 ≤ d := by
                rcases Int.lt_or_le d 1 with z | z
                · have : d = 0 := by omega
                  rw [this, Int.zero_mul] at g2; omega
                · exact z
              by_cases g3 : 4294967296 ≤ r + v1
              · have HX := D_break hY.out v10 v00 v01 z0 HB (by omega) g3
                have kg3 : decide (4294967296 ≤ r + v1) = true := decide_eq_true g3
                clear HI HB
                obtain ⟨q, hq⟩ : ∃ q, d - 1 = q := ⟨_, rfl⟩
                rw [hq] at HX
                have q0 : 0 ≤ q := by omega
                have q1 : q ≤ 4294967296 := by omega
                have e11 := D_wrap (by omega) Y1 HX
                rw [hR4.out] at e11
                clear HX
                go_wp2
                go_ret2
                exact ⟨_, by rw [← hR3.out]; rfl, rfl⟩
              · have kg3 : decide (4294967296 ≤ r + v1) = false := decide_eq_false g3
                replace HB := Lib.hid HB
                clear HI
                go_wp2
                go_round
                case rel => exact ⟨d - 1, r + v1, by omega, by omega, by omega, by omega, HB.out, rfl, rfl⟩
                case measure => simp [intOf]; omega
            · have kg2 : decide (4294967296 * r + u0' < d * v0) = false := decide_eq_false g2
              have HX := D_exit hY.out v10 v00 HI (by omega)
              clear HI
              have q0 : 0 ≤ d := by omega
              have q1 : d ≤ 4294967296 := by omega
              have e11 := D_wrap (by omega) Y1 HX
              rw [hR4.out] at e11
              clear HX
              go_wp2
              go_ret2
              exact ⟨_, by rw [← hR3.out]; rfl, rfl⟩
end Go.Proofs.YtlggiaoaleodpaaDoor

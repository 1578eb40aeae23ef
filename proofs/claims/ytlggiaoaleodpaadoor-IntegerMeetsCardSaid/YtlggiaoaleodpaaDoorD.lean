/- Contracts of integer.inverse, productMod (products below 2^64) and Meet. -/
import Derived.Test.YtlggiaoaleodpaaDoorC
namespace Go.Proofs.YtlggiaoaleodpaaDoor
open Go.RowKit

/-- What holds at the head of each round of integer.inverse: 'X' is what the rounds that are left return. -/
def InvRel (m X : Int) (r s x y : Int) : Prop := small m r s x y ∧ ∃ n, s.toNat < n ∧ invLoop n r s x y = X
theorem invRel_step {m X r s x y : Int} (hs : 1 ≤ s) (hr : 1 ≤ r) (h : InvRel m X r s x y) : InvRel m X s (r % s) y (x - r / s * y) := by
  obtain ⟨a, n, hn, e⟩ := h
  refine ⟨(small_step hs hr a).1, n - 1, ?_, ?_⟩
  · have := Int.emod_lt_of_pos r (show 0 < s by omega); have := Int.emod_nonneg r (show s ≠ 0 by omega); omega
  · obtain ⟨k, rfl⟩ : ∃ k, n = k + 1 := ⟨n - 1, by omega⟩
    unfold invLoop at e
    rw [if_neg (by omega)] at e
    exact e
theorem invRel_end {m X r x y : Int} (h : InvRel m X r 0 x y) : x = X := by
  obtain ⟨_, n, hn, e⟩ := h
  obtain ⟨k, rfl⟩ : ∃ k, n = k + 1 := ⟨n - 1, by omega⟩
  unfold invLoop at e
  rw [if_pos rfl] at e
  exact e
set_option maxHeartbeats 400000 in
theorem inverse_all (a m : Int) (h0 : 1 ≤ a) (h1 : a ≤ 9223372036854775807) (h2 : 1 ≤ m) (h3 : m ≤ 9223372036854775807) (w : World) :
    Calls Tryd.prog 32 #[.int .i64 a, .int .i64 m] w fun e w' => e = .returned (.int .i64 (inv a m)) ∧ ∃ n, w' = w.drewN n := by
  have HS : InvRel m (invLoop (m.toNat + 1) a m 1 0) a m 1 0 := ⟨small_start h2, _, by omega, rfl⟩
  have HI : inv a m = dR (invLoop (m.toNat + 1) a m 1 0) m := by unfold inv; rw [dR_pos (by omega)]
  generalize invLoop (m.toNat + 1) a m 1 0 = X at *
  rw [HI]
  clear HI
  go_enter Tryd.func32, Tryd.ntmps32
  go_wp2
  go_loop [5, 6, 7, 8] (fun u v t z => ∃ r s x y : Int, 1 ≤ r ∧ r ≤ 9223372036854775807 ∧ 0 ≤ s ∧ s ≤ 9223372036854775807 ∧ InvRel m X r s x y ∧ u = .int .i64 r ∧ v = .int .i64 s ∧ t = .int .i64 x ∧ z = .int .i64 y) (fun _ v _ _ => (intOf v).toNat)
  case atStart => exact ⟨a, m, 1, 0, h0, h1, by omega, h3, HS, rfl, rfl, rfl, rfl⟩
  case round =>
    obtain ⟨r, s, x, y, r0, r1, s0, s1, HR, rfl, rfl, rfl, rfl⟩ := hrel
    obtain ⟨x0, x1, y0, y1⟩ := small_bd s0 r0 HR.1
    by_cases hs : s = 0
    · subst hs
      obtain rfl := invRel_end HR
      clear HR HS
      go_wp2_with fail
      refine (mod_all _ _ (by omega) (by omega) (by omega) h3 _).mono ?_
      rintro e w' ⟨rfl, n, rfl⟩
      go_wp2
      go_ret
      exact ⟨rfl, _, rfl⟩
    · have hs' : (s != 0) = true := by simpa using hs
      have hn := invRel_step (by omega) r0 HR
      obtain ⟨-, b0, b1⟩ := small_step (show 1 ≤ s by omega) r0 HR.1
      obtain ⟨-, -, c0, c1⟩ := small_bd (Int.emod_nonneg r hs) (show 1 ≤ s by omega) hn.1
      have d := Int.mul_ediv_add_emod r s
      have d1 := Int.emod_lt_of_pos r (show 0 < s by omega)
      have d2 := Int.emod_nonneg r hs
      have d3 : r - r / s * s = r % s := by rw [Int.mul_comm]; omega
      have e0 : 0 ≤ r / s * s := Int.mul_nonneg (Int.ediv_nonneg (by omega) (by omega)) (by omega)
      have e1 : r / s * s ≤ r := by omega
      clear HR HS d
      go_wp2
      go_round
      case rel => exact ⟨s, r % s, y, x - r / s * y, by omega, s1, d2, by omega, hn, rfl, by first | rfl | rw [d3], rfl, rfl⟩
      case measure => simp [intOf]; omega

theorem div64_low (lo y : Int) (h0 : 0 ≤ lo) (h1 : lo < 18446744073709551616) (h2 : 1 ≤ y) (h3 : y < 18446744073709551616) (w : World) :
    Calls Tryd.prog 54 #[.int .u64 0, .int .u64 lo, .int .u64 y] w fun e w' => e = .returned (.tuple #[.int .u64 (lo / y), .int .u64 (lo % y)]) ∧ ∃ n, w' = w.drewN n := by
  have hy : (y == 0) = false := by simp; omega
  go_enter Tryd.func54, Tryd.ntmps54
  go_wp2
  go_quiet (fail)
  go_wp2
  go_ret2
  exact ⟨rfl, _, rfl⟩
theorem rem64_low (lo y : Int) (h0 : 0 ≤ lo) (h1 : lo < 18446744073709551616) (h2 : 1 ≤ y) (h3 : y < 18446744073709551616) (w : World) :
    Calls Tryd.prog 42 #[.int .u64 0, .int .u64 lo, .int .u64 y] w fun e w' => e = .returned (.int .u64 (lo % y)) ∧ ∃ n, w' = w.drewN n := by
  have hy : (y == 0) = false := by simp; omega
  have hd := Int.ediv_nonneg h0 (show 0 ≤ y by omega)
  go_enter Tryd.func42, Tryd.ntmps42
  go_wp2_with (go_at_call 54; refine (div64_low _ _ h0 h1 h2 h3 _).mono ?_; rintro e w' ⟨rfl, n, rfl⟩)
  go_ret
  exact ⟨rfl, _, rfl⟩
/-- What integer.productMod returns: below a bound for which its remainder of 128 bits is known. -/
def ProdMod (C : Int) : Prop := ∀ (a b m : Int) (w : World), 0 ≤ a → a < m → 0 ≤ b → b < m → 1 ≤ m → m ≤ C →
    Calls Tryd.prog 31 #[.int .i64 a, .int .i64 b, .int .i64 m] w fun e w' => e = .returned (.int .i64 (a * b % m)) ∧ ∃ n, w' = w.drewN n
theorem prodMod_low : ProdMod 2147483647 := by
  intro a b m w a0 a1 b0 b1 m0 m1
  have p0 : 0 ≤ a * b := Int.mul_nonneg a0 b0
  have p1 : a * b ≤ 2147483647 * 2147483647 := Int.mul_le_mul (by omega) (by omega) b0 (by omega)
  have r0 := Int.emod_nonneg (a * b) (show m ≠ 0 by omega)
  have r1 := Int.emod_lt_of_pos (a * b) (show 0 < m by omega)
  have HM := Lib.hid (fun w => mul64_at a b 0 (a * b) a0 (by omega) b0 (by omega) (by omega) p0 (by omega) w)
  have HR := Lib.hid (fun w => rem64_low (a * b) m p0 (by omega) m0 (by omega) w)
  generalize a * b = p at *
  go_enter Tryd.func31, Tryd.ntmps31
  go_wp2_with fail
  refine (HM.out _).mono ?_
  rintro e w' ⟨rfl, rfl⟩
  go_wp2_with fail
  refine (HR.out _).mono ?_
  rintro e w' ⟨rfl, n, rfl⟩
  go_wp2
  go_ret
  exact ⟨rfl, _, rfl⟩
end Go.Proofs.YtlggiaoaleodpaaDoor

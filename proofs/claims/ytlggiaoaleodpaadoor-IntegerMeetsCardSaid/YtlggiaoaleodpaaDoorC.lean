/- Contracts of integer.Gcd, Lcm, Meet and of what they call. -/
import Derived.Test.YtlggiaoaleodpaaDoorA
import Derived.Test.YtlggiaoaleodpaaDoorB
namespace Go.Proofs.YtlggiaoaleodpaaDoor
open Go.RowKit

theorem drew2 (w : World) (n m : Nat) : ∃ k, (w.drewN n).drewN m = w.drewN k := ⟨n + m, by rw [World.drewN_drewN]⟩
set_option maxHeartbeats 400000 in
theorem gcd_all (a b : Int) (h0 : -9223372036854775808 ≤ a) (h1 : a ≤ 9223372036854775807) (h2 : -9223372036854775808 ≤ b) (h3 : b ≤ 9223372036854775807) (w : World) :
    Calls Tryd.prog 21 #[.int .i64 a, .int .i64 b] w fun e w' => e = .returned (.int .i64 (gR a b)) ∧ ∃ n, w' = w.drewN n := by
  obtain ⟨gx, gx'⟩ := mg_bd h0 h1
  obtain ⟨gy, gy'⟩ := mg_bd h2 h3
  have HM := Lib.hid (fun w => mag_all a h0 h1 w)
  have HN := Lib.hid (fun w => mag_all b h2 h3 w)
  have HG := Lib.hid (gcd_mg a b)
  obtain ⟨G, hG⟩ : ∃ G, Int.gcd a b = G := ⟨_, rfl⟩
  have HR : gR a b = if (G : Int) ≤ 9223372036854775807 then (G : Int) else 0 := by unfold gR; rw [hG]
  replace HR := Lib.hid HR
  rw [hG] at HG
  clear hG h0 h1 h2 h3
  generalize mg a = x at *
  generalize mg b = y at *
  have HQ := Lib.hid HG
  clear HG
  go_enter Tryd.func21, Tryd.ntmps21
  go_wp2_with fail
  refine (HM.out _).mono ?_
  rintro e w' ⟨rfl, rfl⟩
  go_wp2_with fail
  refine (HN.out _).mono ?_
  rintro e w' ⟨rfl, rfl⟩
  go_wp2
  go_loopw [5, 6] (fun s t wr => ∃ x y : Int, 0 ≤ x ∧ x ≤ 9223372036854775808 ∧ 0 ≤ y ∧ y ≤ 9223372036854775808 ∧ Hid (Int.gcd x y = G) ∧ s = .int .u64 x ∧ t = .int .u64 y ∧ ∃ n, wr = w.drewN n) (fun _ t _ => (intOf t).toNat)
  case atStart => exact ⟨x, y, gx, gx', gy, gy', HQ, rfl, rfl, 0, rfl⟩
  case round =>
    obtain ⟨x, y, gx, gx', gy, gy', HQ, rfl, rfl, n, rfl⟩ := hrel
    by_cases hy : y = 0
    · subst hy
      have hx : (G : Int) = x := by have := gcd_zero_right gx; rw [HQ.out] at this; exact this
      have HX := Lib.hid hx
      clear hx
      by_cases big : 9223372036854775807 < x
      · go_wp2
        go_ret
        exact ⟨by rw [HR.out, HX.out, if_neg (by omega)]; rfl, n, rfl⟩
      · go_wp2
        go_ret
        exact ⟨by rw [HR.out, HX.out, if_pos (by omega)]; rfl, n, rfl⟩
    · have hy' : (y != 0) = true := by simpa using hy
      have hlt := Int.emod_lt_of_pos x (show 0 < y by omega)
      have hge := Int.emod_nonneg x hy
      have HS := Lib.hid ((gcd_step gx gy).trans HQ.out)
      go_wp2
      go_quiet (fail)
      go_wp2
      go_roundw
      case rel => exact ⟨y, x % y, gy, gy', hge, by omega, HS, rfl, rfl, drew2 _ _ _⟩
      case measure => simp [intOf]; omega

/-- What integer.Lcm returns, and its error number. -/
def lR (a b : Int) : Int := if a < 1 ∨ b < 1 then 0 else xV (a / gR a b * b)
def lE (a b : Int) : Int := if a < 1 ∨ b < 1 then 2 else xE (a / gR a b * b)
theorem gR_pos {a b : Int} (ha : 1 ≤ a) (h1 : a ≤ 9223372036854775807) : 1 ≤ gR a b ∧ gR a b ≤ a := by
  have hd : (Int.gcd a b : Int) ∣ a := Int.gcd_dvd_left a b
  have hle := Int.le_of_dvd (by omega) hd
  have hpos : 0 < Int.gcd a b := Int.gcd_pos_of_ne_zero_left b (by omega)
  unfold gR
  rw [if_pos (by omega)]
  omega
set_option maxHeartbeats 400000 in
theorem lcm_all (a b : Int) (h0 : -9223372036854775808 ≤ a) (h1 : a ≤ 9223372036854775807) (h2 : -9223372036854775808 ≤ b) (h3 : b ≤ 9223372036854775807) (w : World) :
    Calls Tryd.prog 22 #[.int .i64 a, .int .i64 b] w fun e w' => e = .returned (.tuple #[.int .i64 (lR a b), .int .i64 (lE a b)]) ∧ ∃ n, w' = w.drewN n := by
  by_cases ha : a < 1
  · unfold lR lE
    rw [if_pos (Or.inl ha), if_pos (Or.inl ha)]
    have k : decide (a < 1) = true := by simpa using ha
    go_enter Tryd.func22, Tryd.ntmps22
    go_wp2
    go_ret2
    exact ⟨rfl, 0, rfl⟩
  · by_cases hb : b < 1
    · unfold lR lE
      rw [if_pos (Or.inr hb), if_pos (Or.inr hb)]
      have k : decide (a < 1) = false := by simpa using ha
      have k2 : decide (b < 1) = true := by simpa using hb
      go_enter Tryd.func22, Tryd.ntmps22
      go_wp2
      go_ret2
      exact ⟨rfl, 0, rfl⟩
    · have k : decide (a < 1) = false := by simpa using ha
      have k2 : decide (b < 1) = false := by simpa using hb
      obtain ⟨g1, g2⟩ := gR_pos (b := b) (show 1 ≤ a by omega) h1
      have qb : 0 ≤ a / gR a b ∧ a / gR a b ≤ a := ⟨Int.ediv_nonneg (by omega) (by omega), Int.ediv_le_self _ (by omega)⟩
      obtain ⟨q0, q1⟩ := qb
      have HL : lR a b = xV (a / gR a b * b) := by unfold lR; rw [if_neg (by omega)]
      have HE : lE a b = xE (a / gR a b * b) := by unfold lE; rw [if_neg (by omega)]
      rw [HL, HE]
      clear HL HE
      have HG := Lib.hid (fun w => gcd_all a b h0 h1 h2 h3 w)
      generalize gR a b = g at *
      go_enter Tryd.func22, Tryd.ntmps22
      go_wp2_with fail
      refine (HG.out _).mono ?_
      rintro e w' ⟨rfl, n, rfl⟩
      go_wp2_with fail
      refine (mul_all _ _ (by omega) (by omega) h2 h3 _).mono ?_
      rintro e w' ⟨rfl, m, rfl⟩
      go_wp2
      go_ret2
      exact ⟨rfl, _, rfl⟩
end Go.Proofs.YtlggiaoaleodpaaDoor

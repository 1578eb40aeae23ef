/- Contracts of the reference's functions on divisors. -/
import Derived.Test.YtlggiaoaleodpaaDoorE
import Derived.Test.YtlggiaoaleodpaaDoorY
namespace Go.Proofs.YtlggiaoaleodpaaDoor
open Go.RowKit
set_option linter.unusedVariables false

theorem refdiv_zero (a : Int) (w : World) :
    Calls Tryd.prog 43 #[.int .i64 a, .int .i64 0] w fun e w' => e = .returned (.tuple #[.int .i64 0, .int .i64 0, .int .i64 10]) ∧ w' = w.drewN 0 := by
  go_enter Tryd.func43, Tryd.ntmps43
  go_wp2
  go_ret3
  exact ⟨rfl, rfl⟩
theorem refdiv_big (w : World) :
    Calls Tryd.prog 43 #[.int .i64 (-9223372036854775808), .int .i64 (-1)] w fun e w' => e = .returned (.tuple #[.int .i64 0, .int .i64 0, .int .i64 9]) ∧ w' = w.drewN 0 := by
  go_enter Tryd.func43, Tryd.ntmps43
  go_wp2
  go_ret3
  exact ⟨rfl, rfl⟩
set_option maxHeartbeats 400000 in
theorem refdiv_any (a b : Int) (h0 : -9223372036854775808 ≤ a) (h1 : a ≤ 9223372036854775807) (h2 : -9223372036854775808 ≤ b) (h3 : b ≤ 9223372036854775807) (hb : b ≠ 0) (hx : ¬ (a = -9223372036854775808 ∧ b = -1)) (w : World) :
    Calls Tryd.prog 43 #[.int .i64 a, .int .i64 b] w fun e w' => e = .returned (.tuple #[.int .i64 (a.fdiv b), .int .i64 (a.fmod b), .int .i64 0]) ∧ ∃ n, w' = w.drewN n := by
  have hz : (b == 0) = false := by simpa using hb
  have hq := tq_bd h0 h1 hx hb
  have hr := tr_bd (a := a) hb
  have ht := tq_half (b := b) h0 h1
  have he := fdm_exact (a := a) hb
  have hs := fdm_same (a := a) hb
  have ho := fdm_other (a := a) hb
  obtain ⟨c, hc⟩ : ∃ c, (a == -9223372036854775808) = c := ⟨_, rfl⟩
  obtain ⟨d, hd⟩ : ∃ d, (b == -1) = d := ⟨_, rfl⟩
  have hcd : (c && d) = false := by
    subst hc; subst hd; rw [Bool.and_eq_false_iff]; simp only [beq_eq_false_iff_ne]; omega
  generalize a.fdiv b = Q at *
  generalize a.fmod b = R at *
  obtain ⟨q, eq⟩ : ∃ q, a.tdiv b = q := ⟨_, rfl⟩
  obtain ⟨r, er⟩ : ∃ r, a.tmod b = r := ⟨_, rfl⟩
  rw [eq] at hq he hs ho ht
  rw [er] at hr he hs ho ht
  obtain ⟨hq0, hq1⟩ := hq
  obtain ⟨hr0, -, -⟩ := hr
  have hr2 : -9223372036854775808 ≤ r := by omega
  have hr3 : r ≤ 9223372036854775807 := by omega
  have g : Q = q ∧ R = r ∧ r = 0 ∨ Q = q ∧ R = r ∧ (0 < r ∧ 0 < b ∨ r < 0 ∧ b < 0) ∨ Q = q - 1 ∧ R = r + b ∧ (0 < r ∧ b < 0 ∨ r < 0 ∧ 0 < b) := by
    by_cases z : r = 0
    · left; have := he z; omega
    · by_cases z' : 0 < r ∧ 0 < b ∨ r < 0 ∧ b < 0
      · right; left; have := hs z'; omega
      · right; right; have z2 : 0 < r ∧ b < 0 ∨ r < 0 ∧ 0 < b := by omega
        have := ho z2; omega
  clear he hs ho
  rcases g with ⟨rfl, rfl, rfl⟩ | ⟨rfl, rfl, g⟩ | ⟨rfl, rfl, g⟩
  · clear ht
    cases c <;> cases d <;> (try cases hcd) <;> (go_enter Tryd.func43, Tryd.ntmps43; go_wp2; go_quiet (fail); go_wp2; go_ret3; exact ⟨rfl, _, rfl⟩)
  · clear ht
    rcases g with ⟨g1, g2⟩ | ⟨g1, g2⟩
    · have k1 : decide (R < 0) = false := by simp; omega
      have k2 : decide (b < 0) = false := by simp; omega
      have k3 : (R != 0) = true := by simp; omega
      cases c <;> cases d <;> (try cases hcd) <;> (go_enter Tryd.func43, Tryd.ntmps43; go_wp2; go_quiet (fail); go_wp2; go_ret3; exact ⟨rfl, _, rfl⟩)
    · have k1 : decide (R < 0) = true := by simp; omega
      have k2 : decide (b < 0) = true := by simp; omega
      have k3 : (R != 0) = true := by simp; omega
      cases c <;> cases d <;> (try cases hcd) <;> (go_enter Tryd.func43, Tryd.ntmps43; go_wp2; go_quiet (fail); go_wp2; go_ret3; exact ⟨rfl, _, rfl⟩)
  · obtain ⟨t1, t2⟩ := ht (by omega)
    clear ht
    rcases g with ⟨g1, g2⟩ | ⟨g1, g2⟩
    · have k1 : decide (r < 0) = false := by simp; omega
      have k2 : decide (b < 0) = true := by simp; omega
      have k3 : (r != 0) = true := by simp; omega
      cases c <;> cases d <;> (try cases hcd) <;> (go_enter Tryd.func43, Tryd.ntmps43; go_wp2; go_quiet (fail); go_wp2; go_ret3; exact ⟨rfl, _, rfl⟩)
    · have k1 : decide (r < 0) = true := by simp; omega
      have k2 : decide (b < 0) = false := by simp; omega
      have k3 : (r != 0) = true := by simp; omega
      cases c <;> cases d <;> (try cases hcd) <;> (go_enter Tryd.func43, Tryd.ntmps43; go_wp2; go_quiet (fail); go_wp2; go_ret3; exact ⟨rfl, _, rfl⟩)

theorem refdiv_all (a b : Int) (h0 : -9223372036854775808 ≤ a) (h1 : a ≤ 9223372036854775807) (h2 : -9223372036854775808 ≤ b) (h3 : b ≤ 9223372036854775807) (w : World) :
    Calls Tryd.prog 43 #[.int .i64 a, .int .i64 b] w fun e w' => e = .returned (.tuple #[.int .i64 (dQ a b), .int .i64 (dR a b), .int .i64 (dE a b)]) ∧ ∃ n, w' = w.drewN n := by
  by_cases hb : b = 0
  · subst hb
    refine (refdiv_zero a w).mono fun e w' ⟨he, hw⟩ => ⟨?_, 0, hw⟩
    rw [he]; unfold dQ dR dE; simp
  · by_cases hx : a = -9223372036854775808 ∧ b = -1
    · obtain ⟨rfl, rfl⟩ := hx
      refine (refdiv_big w).mono fun e w' ⟨he, hw⟩ => ⟨?_, 0, hw⟩
      rw [he]; unfold dQ dR dE; simp
    · refine (refdiv_any a b h0 h1 h2 h3 hb hx w).mono fun e w' ⟨he, hw⟩ => ⟨?_, hw⟩
      rw [he]; unfold dQ dR dE; simp [hb, hx]
theorem refmod_all (a b : Int) (h0 : -9223372036854775808 ≤ a) (h1 : a ≤ 9223372036854775807) (h2 : -9223372036854775808 ≤ b) (h3 : b ≤ 9223372036854775807) (w : World) :
    Calls Tryd.prog 35 #[.int .i64 a, .int .i64 b] w fun e w' => e = .returned (.int .i64 (dR a b)) ∧ ∃ n, w' = w.drewN n := by
  go_enter Tryd.func35, Tryd.ntmps35
  go_wp2_with (go_at_call 43; refine (refdiv_all _ _ h0 h1 h2 h3 _).mono ?_; rintro e w' ⟨rfl, n, rfl⟩)
  go_ret
  exact ⟨rfl, _, rfl⟩

theorem gcd_tstep (x y : Int) : Int.gcd y (x.tmod y) = Int.gcd x y := by
  show Nat.gcd y.natAbs (x.tmod y).natAbs = Nat.gcd x.natAbs y.natAbs
  rw [Int.natAbs_tmod, Nat.gcd_comm, Nat.gcd_comm x.natAbs, Nat.gcd_rec y.natAbs x.natAbs]
set_option maxHeartbeats 400000 in
theorem refgcd_all (a b : Int) (h0 : -9223372036854775808 ≤ a) (h1 : a ≤ 9223372036854775807) (h2 : -9223372036854775808 ≤ b) (h3 : b ≤ 9223372036854775807) (w : World) :
    Calls Tryd.prog 34 #[.int .i64 a, .int .i64 b] w fun e w' => e = .returned (.int .i64 (gR a b)) ∧ ∃ n, w' = w.drewN n := by
  obtain ⟨G, hG⟩ : ∃ G, Int.gcd a b = G := ⟨_, rfl⟩
  have HR : gR a b = if (G : Int) ≤ 9223372036854775807 then (G : Int) else 0 := by unfold gR; rw [hG]
  replace HR := Lib.hid HR
  replace hG := Lib.hid hG
  go_enter Tryd.func34, Tryd.ntmps34
  go_wp2
  go_loopw [0, 1] (fun s t wr => ∃ x y : Int, -9223372036854775808 ≤ x ∧ x ≤ 9223372036854775807 ∧ -9223372036854775808 ≤ y ∧ y ≤ 9223372036854775807 ∧ Hid (Int.gcd x y = G) ∧ s = .int .i64 x ∧ t = .int .i64 y ∧ ∃ n, wr = w.drewN n) (fun _ t _ => (intOf t).natAbs)
  case atStart => exact ⟨a, b, h0, h1, h2, h3, hG, rfl, rfl, 0, rfl⟩
  case round =>
    obtain ⟨x, y, x0, x1, y0, y1, HQ, rfl, rfl, n, rfl⟩ := hrel
    by_cases hy : y = 0
    · subst hy
      have hx : (G : Int) = x.natAbs := by have := HQ.out; simp [Int.gcd] at this; omega
      clear HQ
      by_cases z : x = -9223372036854775808
      · have HX : Hid (gR a b = 0) := by
          have := HR.out; rw [hx, if_neg (by omega)] at this; exact this
        subst z
        clear hx
        go_wp2
        go_ret
        exact ⟨by rw [HX.out]; rfl, n, rfl⟩
      · have kz : (x == -9223372036854775808) = false := by simpa using z
        by_cases p : x < 0
        · have HX : Hid (gR a b = -x) := by
            have := HR.out; rw [hx, if_pos (by omega)] at this; exact this.trans (by omega)
          have kp : decide (x < 0) = true := decide_eq_true p
          have x2 : -9223372036854775807 ≤ x := by omega
          clear hx z
          go_wp2
          go_ret
          exact ⟨by rw [HX.out]; rfl, n, rfl⟩
        · have HX : Hid (gR a b = x) := by
            have := HR.out; rw [hx, if_pos (by omega)] at this; exact this.trans (by omega)
          have kp : decide (x < 0) = false := decide_eq_false p
          clear hx z
          go_wp2
          go_ret
          exact ⟨by rw [HX.out]; rfl, n, rfl⟩
    · have hy' : (y != 0) = true := by simpa using hy
      by_cases m : y = -1
      · subst m
        have HX : Hid (gR a b = 1) := by
          have hx : (G : Int) = 1 := by have := HQ.out; simp [Int.gcd] at this; omega
          have := HR.out; rw [hx, if_pos (by omega)] at this; exact this
        clear HQ
        go_wp2
        go_ret
        exact ⟨by rw [HX.out]; rfl, n, rfl⟩
      · have km : (y == -1) = false := by simpa using m
        have tb := (tr_bd (a := x) hy).1
        have HS := Lib.hid ((gcd_tstep x y).trans HQ.out)
        obtain ⟨r, hr⟩ : ∃ r, x.tmod y = r := ⟨_, rfl⟩
        rw [hr] at tb HS
        clear HQ
        go_wp2
        go_quiet (fail)
        go_wp2
        go_roundw
        case rel => exact ⟨y, r, y0, y1, by omega, by omega, HS, rfl, rfl, drew2 _ _ _⟩
        case measure => simp [intOf]; omega
set_option maxHeartbeats 400000 in
theorem reflcm_all (a b : Int) (h0 : -9223372036854775808 ≤ a) (h1 : a ≤ 9223372036854775807) (h2 : -9223372036854775808 ≤ b) (h3 : b ≤ 9223372036854775807) (w : World) :
    Calls Tryd.prog 33 #[.int .i64 a, .int .i64 b] w fun e w' => e = .returned (.tuple #[.int .i64 (lR a b), .int .i64 (lE a b)]) ∧ ∃ n, w' = w.drewN n := by
  by_cases ha : a < 1
  · unfold lR lE
    rw [if_pos (Or.inl ha), if_pos (Or.inl ha)]
    have k : decide (a < 1) = true := by simpa using ha
    go_enter Tryd.func33, Tryd.ntmps33
    go_wp2
    go_ret2
    exact ⟨rfl, 0, rfl⟩
  · by_cases hb : b < 1
    · unfold lR lE
      rw [if_pos (Or.inr hb), if_pos (Or.inr hb)]
      have k : decide (a < 1) = false := by simpa using ha
      have k2 : decide (b < 1) = true := by simpa using hb
      go_enter Tryd.func33, Tryd.ntmps33
      go_wp2
      go_ret2
      exact ⟨rfl, 0, rfl⟩
    · have k : decide (a < 1) = false := by simpa using ha
      have k2 : decide (b < 1) = false := by simpa using hb
      obtain ⟨g1, g2⟩ := gR_pos (b := b) (show 1 ≤ a by omega) h1
      have qb : 0 ≤ a / gR a b ∧ a / gR a b ≤ a := ⟨Int.ediv_nonneg (by omega) (by omega), Int.ediv_le_self _ (by omega)⟩
      obtain ⟨q0, q1⟩ := qb
      have HL : lR a b = xV (a / gR a b * b) := by unfold lR; rw [if_neg (by omega)]
      have HE : lE a b = xE (a / gR a b * b) := by unfold lE; rw [if_neg (by omega)]
      rw [HL, HE]
      clear HL HE
      have HG := Lib.hid (fun w => refgcd_all a b h0 h1 h2 h3 w)
      generalize gR a b = g at *
      go_enter Tryd.func33, Tryd.ntmps33
      go_wp2_with fail
      refine (HG.out _).mono ?_
      rintro e w' ⟨rfl, n, rfl⟩
      go_wp2_with fail
      refine (refmul_all _ _ (by omega) (by omega) h2 h3 _).mono ?_
      rintro e w' ⟨rfl, rfl⟩
      go_wp2
      go_ret2
      exact ⟨rfl, _, rfl⟩

/-- What holds at the head of each round of the reference's multiplication. -/
def TimesRel (N n out x b : Int) : Prop := (out + x * b) % n = N % n
theorem times_step {N n out x b : Int} (b0 : 0 < b) (h : TimesRel N n out x b) : TimesRel N n (if b % 2 = 1 then (out + x) % n else out) ((x + x) % n) (b / 2) := by
  unfold TimesRel at *
  rw [← h]
  have e := Int.mul_ediv_add_emod b 2
  have dx := Int.mul_ediv_add_emod (x + x) n
  have hx : ∀ o : Int, (o + (x + x) % n * (b / 2)) % n = (o + (x + x) * (b / 2)) % n := by
    intro o
    rw [Int.add_emod, Int.mul_emod, Int.emod_emod, ← Int.mul_emod, ← Int.add_emod]
  rcases Int.emod_two_eq b with k | k
  · rw [if_neg (by omega), hx]
    have : out + x * b = out + (x + x) * (b / 2) := by
      have : b = 2 * (b / 2) := by omega
      rw [Int.add_mul]
      have : x * b = x * (b / 2) + x * (b / 2) := by rw [← Int.mul_add]; congr 1; omega
      omega
    rw [this]
  · rw [if_pos k, hx]
    have : out + x * b = out + x + (x + x) * (b / 2) := by
      rw [Int.add_mul]
      have : x * b = x * (b / 2) + x * (b / 2) + x := by
        have f : x * b = x * (b / 2 + b / 2 + 1) := by congr 1; omega
        rw [f, Int.mul_add, Int.mul_add, Int.mul_one]
      omega
    rw [this, Int.emod_add_emod]
set_option maxHeartbeats 400000 in
theorem times_all (a b m : Int) (a0 : 0 ≤ a) (a1 : a < m) (b0 : 0 ≤ b) (b1 : b < m) (m1 : m ≤ 9223372036854775807) (w : World) :
    Calls Tryd.prog 36 #[.int .i64 a, .int .i64 b, .int .i64 m] w fun e w' => e = .returned (.int .i64 (a * b % m)) ∧ ∃ n, w' = w.drewN n := by
  have HS : Hid (TimesRel (a * b) m 0 a b) := by show (0 + a * b) % m = a * b % m; rw [Int.zero_add]
  generalize a * b = N at *
  have hm : ¬ m = 0 := by omega
  go_enter Tryd.func36, Tryd.ntmps36
  go_wp2
  go_loop [1, 7, 8] (fun u v t => ∃ b out x : Int, 0 ≤ b ∧ b < m ∧ 0 ≤ out ∧ out < m ∧ 0 ≤ x ∧ x < m ∧ Hid (TimesRel N m out x b) ∧ u = .int .i64 b ∧ v = .int .u64 out ∧ t = .int .u64 x) (fun u _ _ => (intOf u).toNat)
  case atStart => exact ⟨b, 0, a, b0, b1, by omega, by omega, a0, a1, HS, rfl, rfl, rfl⟩
  case round =>
    obtain ⟨b, out, x, b0, b1, o0, o1, x0, x1, HR, rfl, rfl, rfl⟩ := hrel
    have c0 := Int.emod_nonneg (x + x) hm
    have c1 := Int.emod_lt_of_pos (x + x) (show 0 < m by omega)
    have d0 := Int.emod_nonneg (out + x) hm
    have d1 := Int.emod_lt_of_pos (out + x) (show 0 < m by omega)
    by_cases z : 0 < b
    · have kz : decide (0 < b) = true := decide_eq_true z
      have HT := times_step z HR.out
      by_cases o : b % 2 = 1
      · rw [if_pos o] at HT
        replace HT := Lib.hid HT
        clear HR
        have ko : (b % 2 == 1) = true := by simpa using o
        go_wp2
        go_round
        case rel => exact ⟨b / 2, (out + x) % m, (x + x) % m, by omega, by omega, d0, d1, c0, c1, HT, rfl, rfl, rfl⟩
        case measure => simp [intOf]; omega
      · rw [if_neg o] at HT
        replace HT := Lib.hid HT
        clear HR
        have ko : (b % 2 == 1) = false := by simpa using o
        go_wp2
        go_round
        case rel => exact ⟨b / 2, out, (x + x) % m, by omega, by omega, o0, o1, c0, c1, HT, rfl, rfl, rfl⟩
        case measure => simp [intOf]; omega
    · obtain rfl : b = 0 := by omega
      have HN : Hid (N % m = out) := by
        have h : (out + x * 0) % m = N % m := HR.out
        rw [Int.mul_zero, Int.add_zero, Int.emod_eq_of_lt o0 o1] at h
        exact h.symm
      clear HR
      go_wp2
      go_ret
      exact ⟨by rw [HN.out]; rfl, 0, rfl⟩
/-- What holds at the head of each round of the reference's inverse. -/
def RInv (a m r s x y : Int) : Prop := small m r s x y ∧ m ∣ a * x - r ∧ m ∣ a * y - s ∧ Int.gcd r s = 1
theorem rinv_step {a m r s x y : Int} (hr : 1 ≤ r) (hs : 1 < s) (h : RInv a m r s x y) : RInv a m s (r % s) y (x - r / s * y) ∧ 1 ≤ r % s := by
  obtain ⟨h1, h2, h3, h4⟩ := h
  have e := Int.mul_ediv_add_emod r s
  have g := Int.emod_nonneg r (show s ≠ 0 by omega)
  have co : Int.gcd s (r % s) = 1 := by rw [gcd_step (by omega) (by omega)]; exact h4
  refine ⟨⟨(small_step (by omega) hr h1).1, h3, ?_, co⟩, ?_⟩
  · have t : a * (x - r / s * y) - r % s = (a * x - r) - r / s * (a * y - s) := by
      have u : r % s = r - s * (r / s) := by omega
      rw [u, Int.mul_sub, Int.mul_sub, Int.mul_left_comm a, Int.mul_comm s]; omega
    rw [t]
    exact Int.dvd_sub h2 (Int.dvd_mul_of_dvd_right h3)
  · rcases Int.lt_or_le (r % s) 1 with z | z
    · have : r % s = 0 := by omega
      rw [this] at co
      have := gcd_zero_right (show 0 ≤ s by omega)
      rw [co] at this; omega
    · exact z
set_option maxHeartbeats 400000 in
theorem refinverse_all (a m v : Int) (a0 : 0 ≤ a) (a1 : a < m) (m1 : m ≤ 9223372036854775807) (co : Int.gcd a m = 1) (v0 : 0 ≤ v) (v1 : v < m) (hv : m ∣ a * v - 1) (w : World) :
    Calls Tryd.prog 37 #[.int .i64 a, .int .i64 m] w fun e w' => e = .returned (.int .i64 v) ∧ ∃ n, w' = w.drewN n := by
  by_cases k : m = 1
  · subst k
    obtain rfl : v = 0 := by omega
    go_enter Tryd.func37, Tryd.ntmps37
    go_wp2
    go_ret
    exact ⟨rfl, 0, rfl⟩
  · have km : (m == 1) = false := by simpa using k
    have am : a % m = a := Int.emod_eq_of_lt a0 a1
    have ap : 1 ≤ a := by
      rcases Int.lt_or_le a 1 with z | z
      · obtain rfl : a = 0 := by omega
        simp [Int.gcd] at co; omega
      · exact z
    have HS : Hid (RInv a m m a 0 1) := ⟨⟨0, 1, by omega, by omega, by omega, by omega, .inr ⟨by omega, rfl⟩⟩, ⟨-1, by omega⟩, ⟨0, by omega⟩, by rw [Int.gcd_comm]; exact co⟩
    have hm : ¬ m = 0 := by omega
    replace hv := Lib.hid hv
    go_enter Tryd.func37, Tryd.ntmps37
    go_wp2
    go_quiet (fail)
    go_wp2
    go_loop [5, 6, 7, 8] (fun u v t z => ∃ r s x y : Int, 1 ≤ r ∧ r ≤ 9223372036854775807 ∧ 1 ≤ s ∧ s ≤ 9223372036854775807 ∧ Hid (RInv a m r s x y) ∧ u = .int .i64 r ∧ v = .int .i64 s ∧ t = .int .i64 x ∧ z = .int .i64 y) (fun _ v _ _ => (intOf v).toNat)
    case atStart => exact ⟨m, a, 0, 1, by omega, m1, ap, by omega, HS, rfl, by first | rfl | rw [am], rfl, rfl⟩
    case round =>
      obtain ⟨r, s, x, y, r0, r1, s0, s1, HR, rfl, rfl, rfl, rfl⟩ := hrel
      obtain ⟨x0, x1, y0, y1⟩ := small_bd (show 0 ≤ s by omega) r0 HR.out.1
      by_cases hs : s = 1
      · subst hs
        have HV : Hid (dR y m = v) := by
          have h3 := HR.out.2.2.1
          show dR y m = v
          rw [dR_pos (by omega)]
          refine below_eq ?_ (Int.emod_nonneg _ hm) (Int.emod_lt_of_pos _ (by omega)) v0 v1
          have e : y % m - v = (y % m - y) + (y - v) := by omega
          rw [e]
          exact Int.dvd_add ⟨-(y / m), by have := Int.mul_ediv_add_emod y m; rw [Int.mul_neg]; omega⟩ (inv_unique h3 hv.out)
        have HM := fun w => refmod_all y m (by omega) (by omega) (by omega) m1 w
        rw [HV.out] at HM
        replace HM := Lib.hid HM
        clear HR HS HV
        go_wp2_with fail
        refine (HM.out _).mono ?_
        rintro e w' ⟨rfl, n, rfl⟩
        go_wp2
        go_ret
        exact ⟨rfl, _, rfl⟩
      · obtain ⟨hn, d0⟩ := rinv_step r0 (show 1 < s by omega) HR.out
        obtain ⟨-, b0, b1⟩ := small_step s0 r0 HR.out.1
        obtain ⟨-, -, c0, c1⟩ := small_bd (show 0 ≤ r % s by omega) s0 hn.1
        have d := Int.mul_ediv_add_emod r s
        have d1 := Int.emod_lt_of_pos r (show 0 < s by omega)
        have d3 : r - r / s * s = r % s := by rw [Int.mul_comm]; omega
        have e0 : 0 ≤ r / s * s := Int.mul_nonneg (Int.ediv_nonneg (by omega) (by omega)) (by omega)
        have e1 : r / s * s ≤ r := by omega
        have ks : decide (1 < s) = true := decide_eq_true (by omega)
        replace hn := Lib.hid hn
        clear HR HS d
        go_wp2
        go_round
        case rel => exact ⟨s, r % s, y, x - r / s * y, s0, s1, d0, by omega, hn, rfl, by first | rfl | rw [d3], rfl, rfl⟩
        case measure => simp [intOf]; omega
theorem refmeet_no (a m b n : Int) (h0 : -9223372036854775808 ≤ a) (h1 : a ≤ 9223372036854775807) (h2 : -9223372036854775808 ≤ m) (h3 : m ≤ 9223372036854775807)
    (h4 : -9223372036854775808 ≤ b) (h5 : b ≤ 9223372036854775807) (h6 : -9223372036854775808 ≤ n) (h7 : n ≤ 9223372036854775807) (hl : lE m n ≠ 0) (w : World) :
    Calls Tryd.prog 24 #[.int .i64 a, .int .i64 m, .int .i64 b, .int .i64 n] w fun e w' => e = .returned (.tuple #[.int .i64 0, .int .i64 0, .bool false]) ∧ ∃ n, w' = w.drewN n := by
  have HL := Lib.hid (fun w => reflcm_all m n h2 h3 h6 h7 w)
  generalize lR m n = l at *
  generalize lE m n = f at *
  have k : (f != 0) = true := by simpa using hl
  clear hl
  go_enter Tryd.func24, Tryd.ntmps24
  go_wp2_with fail
  refine (HL.out _).mono ?_
  rintro e w' ⟨rfl, n, rfl⟩
  go_wp2
  go_ret3
  exact ⟨rfl, _, rfl⟩
set_option maxRecDepth 100000 in
set_option maxHeartbeats 1000000 in
theorem refmeet_yes (a m b n : Int) (h0 : -9223372036854775808 ≤ a) (h1 : a ≤ 9223372036854775807) (h3 : m ≤ 9223372036854775807)
    (h4 : -9223372036854775808 ≤ b) (h5 : b ≤ 9223372036854775807) (h7 : n ≤ 9223372036854775807) (hl : lE m n = 0) (w : World) :
    Calls Tryd.prog 24 #[.int .i64 a, .int .i64 m, .int .i64 b, .int .i64 n] w fun e w' =>
      e = .returned (if (dR b n - dR a m).tmod (gR m n) = 0 then .tuple #[.int .i64 (dR a m + meetK (dR a m) m (dR b n) n (gR m n) * m), .int .i64 (lR m n), .bool true] else .tuple #[.int .i64 0, .int .i64 0, .bool false]) ∧ ∃ n, w' = w.drewN n := by
  obtain ⟨m1, n1, le, lb⟩ := lE_ok hl
  obtain ⟨g1, em, en, M1, N1, co⟩ := gcd_parts m1 h3 n1
  have g2 := (gR_pos (b := n) m1 h3).2
  obtain ⟨-, -, hv⟩ := inv_spec (show 0 ≤ m / gR m n by omega) (show 0 < n / gR m n by omega) co
  have HL := Lib.hid (fun w => reflcm_all m n (by omega) (by omega) (by omega) (by omega) w)
  have HA := Lib.hid (fun w => refmod_all a m h0 h1 (by omega) (by omega) w)
  have HB := Lib.hid (fun w => refmod_all b n h4 h5 (by omega) (by omega) w)
  have HG := Lib.hid (fun w => refgcd_all m n (by omega) (by omega) (by omega) (by omega) w)
  have a0 : 0 ≤ dR a m ∧ dR a m < m := by rw [dR_pos (by omega)]; exact ⟨Int.emod_nonneg _ (by omega), Int.emod_lt_of_pos _ (by omega)⟩
  have b0 : 0 ≤ dR b n ∧ dR b n < n := by rw [dR_pos (by omega)]; exact ⟨Int.emod_nonneg _ (by omega), Int.emod_lt_of_pos _ (by omega)⟩
  rw [hl] at HL
  generalize dR a m = A at *
  generalize dR b n = B at *
  obtain ⟨a0, a1⟩ := a0
  obtain ⟨b0, b1⟩ := b0
  have KM0 : (B - A).tmod (gR m n) = 0 → 0 ≤ A + meetK A m B n (gR m n) * m ∧ A + meetK A m B n (gR m n) * m < m / gR m n * n := fun h => by
    obtain ⟨x, y, -, -⟩ := meet_solves (B := B) m1 h3 n1 a0 a1 h
    exact ⟨x, y⟩
  have HP := fun w => refmod_all A (gR m n) (by omega) (by omega) (by omega) (by omega) w
  have HQ := fun w => refmod_all B (gR m n) (by omega) (by omega) (by omega) (by omega) w
  have cond : (B - A).tmod (gR m n) = 0 ↔ dR A (gR m n) = dR B (gR m n) := by
    rw [dR_pos (by omega), dR_pos (by omega), ← Int.dvd_iff_tmod_eq_zero]
    constructor
    · intro h
      have := Int.emod_eq_emod_iff_emod_sub_eq_zero.2 (Int.dvd_iff_emod_eq_zero.1 h)
      exact this.symm
    · intro h
      exact Int.dvd_of_emod_eq_zero (Int.emod_eq_emod_iff_emod_sub_eq_zero.1 h.symm)
  have tb := tq_bd (a := B - A) (b := gR m n) (by omega) (by omega) (by omega) (by omega)
  have N2 : n / gR m n ≤ n := Int.ediv_le_self _ (by omega)
  have M2 : m / gR m n ≤ m := Int.ediv_le_self _ (by omega)
  have HT := Lib.hid (fun w => refmod_all ((B - A).tdiv (gR m n)) (n / gR m n) tb.1 tb.2 (by omega) (by omega) w)
  have HM := fun w => refmod_all (m / gR m n) (n / gR m n) (by omega) (by omega) (by omega) (by omega) w
  rw [dR_pos (by omega)] at HM
  replace HM := Lib.hid HM
  have k1 : 0 ≤ dR ((B - A).tdiv (gR m n)) (n / gR m n) ∧ dR ((B - A).tdiv (gR m n)) (n / gR m n) < n / gR m n := by rw [dR_pos (by omega)]; exact ⟨Int.emod_nonneg _ (by omega), Int.emod_lt_of_pos _ (by omega)⟩
  have k2 : 0 ≤ inv (m / gR m n) (n / gR m n) ∧ inv (m / gR m n) (n / gR m n) < n / gR m n := by unfold inv; exact ⟨Int.emod_nonneg _ (by omega), Int.emod_lt_of_pos _ (by omega)⟩
  have mm0 := Int.emod_nonneg (m / gR m n) (show n / gR m n ≠ 0 by omega)
  have mm1 := Int.emod_lt_of_pos (m / gR m n) (show 0 < n / gR m n by omega)
  have HV := Lib.hid (fun w => refinverse_all (m / gR m n % (n / gR m n)) (n / gR m n) (inv (m / gR m n) (n / gR m n)) mm0 mm1 (by omega) (by rw [Int.gcd_comm, gcd_step (by omega) (by omega)]; exact co) k2.1 k2.2 (by
    have e := Int.mul_ediv_add_emod (m / gR m n) (n / gR m n)
    have t : m / gR m n % (n / gR m n) * inv (m / gR m n) (n / gR m n) - 1 = (m / gR m n * inv (m / gR m n) (n / gR m n) - 1) - n / gR m n * (m / gR m n / (n / gR m n) * inv (m / gR m n) (n / gR m n)) := by
      have u : m / gR m n % (n / gR m n) = m / gR m n - n / gR m n * (m / gR m n / (n / gR m n)) := by omega
      rw [u, Int.sub_mul, Int.mul_assoc]; omega
    rw [t]
    exact Int.dvd_sub hv (Int.dvd_mul_right _ _)) w)
  have HK := Lib.hid (fun w => times_all _ _ (n / gR m n) k1.1 k1.2 k2.1 k2.2 (by omega) w)
  unfold meetK at *
  generalize dR A (gR m n) = P at *
  generalize dR B (gR m n) = Q at *
  replace HP := Lib.hid HP
  replace HQ := Lib.hid HQ
  generalize lR m n = l at *
  generalize gR m n = g at *
  generalize dR ((B - A).tdiv g) (n / g) = x1 at *
  generalize inv (m / g) (n / g) = x2 at *
  have K0 := Int.emod_nonneg (x1 * x2) (show n / g ≠ 0 by omega)
  have K1 := Int.emod_lt_of_pos (x1 * x2) (show 0 < n / g by omega)
  generalize x1 * x2 % (n / g) = K at *
  have hg0 : ¬ g = 0 := by omega
  obtain ⟨tb0, tb1⟩ := tb
  have KM1 : 0 ≤ m * K := Int.mul_nonneg (by omega) K0
  have ec : K * m = m * K := Int.mul_comm _ _
  rw [ec] at *
  obtain ⟨T, hT⟩ : ∃ T, (B - A).tdiv g = T := ⟨_, rfl⟩
  obtain ⟨M, hM⟩ : ∃ M, m / g = M := ⟨_, rfl⟩
  obtain ⟨N, hN⟩ : ∃ N, n / g = N := ⟨_, rfl⟩
  obtain ⟨MM, hMM⟩ : ∃ MM, M % N = MM := ⟨_, rfl⟩
  rw [hM, hN, hMM] at HM HV
  rw [hM] at KM0 M1 M2 lb le
  rw [hN] at HT HK N1 N2
  rw [hT] at HT tb0 tb1
  subst le
  by_cases z : (B - A).tmod g = 0
  · obtain rfl := cond.1 z
    obtain ⟨r0, r1⟩ := KM0 z
    rw [if_pos z]
    clear cond KM0 z ec
    have r2 : A + m * K < M * n := by have e := Int.mul_comm K m; omega
    clear r0 r1
    go_enter Tryd.func24, Tryd.ntmps24
    go_wp2_with fail
    refine (HL.out _).mono ?_
    rintro e w' ⟨rfl, k1, rfl⟩
    go_wp2_with fail
    refine (HG.out _).mono ?_
    rintro e w' ⟨rfl, k2, rfl⟩
    go_wp2_with fail
    refine (HA.out _).mono ?_
    rintro e w' ⟨rfl, k3, rfl⟩
    go_wp2_with fail
    refine (HB.out _).mono ?_
    rintro e w' ⟨rfl, k4, rfl⟩
    go_wp2_with fail
    refine (HP.out _).mono ?_
    rintro e w' ⟨rfl, k5, rfl⟩
    go_wp2_with fail
    refine (HQ.out _).mono ?_
    rintro e w' ⟨rfl, k6, rfl⟩
    go_wp2_with fail
    generalize hW : w.drewN (k1 + k2 + k3 + k4 + k5 + k6) = W
    replace hW := Lib.hid hW
    go_quiet ((first | (go_at_call 35; first | (with_reducible exact Calls.quiet_of (HT.out _)) | exact Calls.quiet_of (HM.out _)) | (go_at_call 37; exact Calls.quiet_of (HV.out _)) | (go_at_call 36; exact Calls.quiet_of (HK.out _))))
    go_wp2
    go_ret3
    exact ⟨rfl, by rw [← hW.out]; exact drew2 _ _ _⟩
  · have z' : (P != Q) = true := by simpa using fun h => z (cond.2 h)
    rw [if_neg z]
    clear cond KM0 z ec
    go_enter Tryd.func24, Tryd.ntmps24
    go_wp2_with fail
    refine (HL.out _).mono ?_
    rintro e w' ⟨rfl, k1, rfl⟩
    go_wp2_with fail
    refine (HG.out _).mono ?_
    rintro e w' ⟨rfl, k2, rfl⟩
    go_wp2_with fail
    refine (HA.out _).mono ?_
    rintro e w' ⟨rfl, k3, rfl⟩
    go_wp2_with fail
    refine (HB.out _).mono ?_
    rintro e w' ⟨rfl, k4, rfl⟩
    go_wp2_with fail
    refine (HP.out _).mono ?_
    rintro e w' ⟨rfl, k5, rfl⟩
    go_wp2_with fail
    refine (HQ.out _).mono ?_
    rintro e w' ⟨rfl, k6, rfl⟩
    go_wp2_with fail
    go_ret3
    exact ⟨rfl, _, rfl⟩
end Go.Proofs.YtlggiaoaleodpaaDoor

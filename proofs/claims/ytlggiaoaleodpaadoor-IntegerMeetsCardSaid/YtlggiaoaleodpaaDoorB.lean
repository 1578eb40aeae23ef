/- Contracts of integer.Mul, and of the reference's sums and products. -/
import Derived.Test.YtlggiaoaleodpaaDoorShelf
import Derived.Test.YtlggiaoaleodpaaDoorPlain
import Derived.WalkKit
import Derived.Outline
import Derived.Lib.Hide
import Derived.Deep.QuietTactic
import Derived.BigQuiet
namespace Go.Proofs.YtlggiaoaleodpaaDoor
open Go.RowKit

theorem mag_all (a : Int) (h0 : -9223372036854775808 ≤ a) (h1 : a ≤ 9223372036854775807) (w : World) :
    Calls Tryd.prog 30 #[.int .i64 a] w fun e w' => e = .returned (.int .u64 (mg a)) ∧ w = w' := by
  rcases mg_cases a with ⟨h, e⟩ | ⟨h, e⟩
  · rw [e]
    have hw : IntKind.u64.wrap (-IntKind.u64.wrap a) = -a := by rw [IntKind.wrap_u64, IntKind.wrap_u64]; omega
    go_enter Tryd.func30, Tryd.ntmps30
    go_wp2
    go_ret
    exact ⟨rfl, rfl⟩
  · rw [e]
    have h' : ¬ a < 0 := by omega
    go_enter Tryd.func30, Tryd.ntmps30
    go_wp2
    go_ret
    exact ⟨rfl, rfl⟩
theorem mul64_at (x y H L : Int) (h0 : 0 ≤ x) (h1 : x < 18446744073709551616) (h2 : 0 ≤ y) (h3 : y < 18446744073709551616) (e : x * y = H * 18446744073709551616 + L) (l0 : 0 ≤ L) (l1 : L < 18446744073709551616) (w : World) :
    Calls Tryd.prog 29 #[.int .u64 x, .int .u64 y] w fun e w' => e = .returned (.tuple #[.int .u64 H, .int .u64 L]) ∧ w = w' := by
  obtain ⟨n, rfl⟩ := Int.eq_ofNat_of_zero_le h0
  obtain ⟨m, rfl⟩ := Int.eq_ofNat_of_zero_le h2
  refine (Tryd.bits_Mul64 n m (by omega) (by omega) w).mono fun e' w' ⟨he, hw⟩ => ⟨?_, hw.symm⟩
  rw [he]
  have a1 : ((n * m / 18446744073709551616 : Nat) : Int) = H := by rw [Int.natCast_ediv, Int.natCast_mul, e]; omega
  have a2 : ((n * m % 18446744073709551616 : Nat) : Int) = L := by rw [Int.natCast_emod, Int.natCast_mul, e]; omega
  rw [a1, a2]
set_option maxHeartbeats 400000 in
theorem mul_all (a b : Int) (h0 : -9223372036854775808 ≤ a) (h1 : a ≤ 9223372036854775807) (h2 : -9223372036854775808 ≤ b) (h3 : b ≤ 9223372036854775807) (w : World) :
    Calls Tryd.prog 18 #[.int .i64 a, .int .i64 b] w fun e w' => e = .returned (.tuple #[.int .i64 (xV (a * b)), .int .i64 (xE (a * b))]) ∧ ∃ n, w' = w.drewN n := by
  have gx := mg_bd h0 h1
  have gy := mg_bd h2 h3
  have gm := mg_mul_nonneg h0 h1 h2 h3
  have gs := mg_mul (a := a) (b := b)
  have cM := fun w => mag_all a h0 h1 w
  have cN := fun w => mag_all b h2 h3 w
  have cP := fun H L => mul64_at (mg a) (mg b) H L gx.1 (by omega) gy.1 (by omega)
  generalize mg a = x at *
  generalize mg b = y at *
  generalize a * b = p at *
  generalize x * y = m at *
  obtain ⟨H, L, e, l0, l1⟩ : ∃ H L : Int, m = H * 18446744073709551616 + L ∧ 0 ≤ L ∧ L < 18446744073709551616 := ⟨m / 18446744073709551616, m % 18446744073709551616, by omega, by omega, by omega⟩
  have HM := Lib.hid cM
  have HN := Lib.hid cN
  have HP := Lib.hid (cP H L e l0 l1)
  clear cM cN cP gx gy
  obtain ⟨s, hs⟩ : ∃ s, decide (a < 0) = s := ⟨_, rfl⟩
  obtain ⟨t, ht⟩ : ∃ t, decide (b < 0) = t := ⟨_, rfl⟩
  have hp : (s = t → p = m) ∧ (s ≠ t → p = -m) := by
    subst hs; subst ht
    constructor
    · intro h; rw [decide_eq_decide] at h; omega
    · intro h; rw [Ne, decide_eq_decide] at h; omega
  clear gs
  by_cases big : 18446744073709551616 ≤ m
  · have q : ¬ (-9223372036854775808 ≤ p ∧ p ≤ 9223372036854775807) := by
      by_cases h : s = t
      · have := hp.1 h; omega
      · have := hp.2 h; omega
    rw [xV_out q, xE_out q]
    have hH : (H != 0) = true := by simp; omega
    clear hp q e gm big
    cases s <;> cases t
    all_goals
        go_enter Tryd.func18, Tryd.ntmps18
        go_wp2_with fail
        refine (HM.out _).mono ?_
        rintro e w' ⟨rfl, rfl⟩
        go_wp2_with fail
        refine (HN.out _).mono ?_
        rintro e w' ⟨rfl, rfl⟩
        go_wp2_with fail
        refine (HP.out _).mono ?_
        rintro e w' ⟨rfl, rfl⟩
        go_wp2
        go_ret2
        exact ⟨rfl, 0, rfl⟩
  · have hH : H = 0 := by omega
    subst hH
    have hL : L = m := by omega
    subst hL
    clear e big
    by_cases q : -9223372036854775808 ≤ p ∧ p ≤ 9223372036854775807
    · rw [xV_in q, xE_in q]
      obtain ⟨q0, q1⟩ := q
      cases s <;> cases t
      · obtain rfl := hp.1 rfl
        clear hp
        have k : decide (9223372036854775807 < p) = false := by simp; omega
        go_enter Tryd.func18, Tryd.ntmps18
        go_wp2_with fail
        refine (HM.out _).mono ?_
        rintro e w' ⟨rfl, rfl⟩
        go_wp2_with fail
        refine (HN.out _).mono ?_
        rintro e w' ⟨rfl, rfl⟩
        go_wp2_with fail
        refine (HP.out _).mono ?_
        rintro e w' ⟨rfl, rfl⟩
        go_wp2
        go_ret2
        exact ⟨rfl, 0, rfl⟩
      · obtain rfl := hp.2 (by simp)
        clear hp
        have k : decide (9223372036854775808 < L) = false := by simp; omega
        have hw : IntKind.i64.wrap (IntKind.u64.wrap (-L)) = -L := by rw [IntKind.wrap_u64, IntKind.wrap_i64]; omega
        go_enter Tryd.func18, Tryd.ntmps18
        go_wp2_with fail
        refine (HM.out _).mono ?_
        rintro e w' ⟨rfl, rfl⟩
        go_wp2_with fail
        refine (HN.out _).mono ?_
        rintro e w' ⟨rfl, rfl⟩
        go_wp2_with fail
        refine (HP.out _).mono ?_
        rintro e w' ⟨rfl, rfl⟩
        go_wp2
        go_ret2
        exact ⟨rfl, 0, rfl⟩
      · obtain rfl := hp.2 (by simp)
        clear hp
        have k : decide (9223372036854775808 < L) = false := by simp; omega
        have hw : IntKind.i64.wrap (IntKind.u64.wrap (-L)) = -L := by rw [IntKind.wrap_u64, IntKind.wrap_i64]; omega
        go_enter Tryd.func18, Tryd.ntmps18
        go_wp2_with fail
        refine (HM.out _).mono ?_
        rintro e w' ⟨rfl, rfl⟩
        go_wp2_with fail
        refine (HN.out _).mono ?_
        rintro e w' ⟨rfl, rfl⟩
        go_wp2_with fail
        refine (HP.out _).mono ?_
        rintro e w' ⟨rfl, rfl⟩
        go_wp2
        go_ret2
        exact ⟨rfl, 0, rfl⟩
      · obtain rfl := hp.1 rfl
        clear hp
        have k : decide (9223372036854775807 < p) = false := by simp; omega
        go_enter Tryd.func18, Tryd.ntmps18
        go_wp2_with fail
        refine (HM.out _).mono ?_
        rintro e w' ⟨rfl, rfl⟩
        go_wp2_with fail
        refine (HN.out _).mono ?_
        rintro e w' ⟨rfl, rfl⟩
        go_wp2_with fail
        refine (HP.out _).mono ?_
        rintro e w' ⟨rfl, rfl⟩
        go_wp2
        go_ret2
        exact ⟨rfl, 0, rfl⟩
    · rw [xV_out q, xE_out q]
      cases s <;> cases t
      · obtain rfl := hp.1 rfl
        clear hp
        have k : decide (9223372036854775807 < p) = true := by simp; omega
        go_enter Tryd.func18, Tryd.ntmps18
        go_wp2_with fail
        refine (HM.out _).mono ?_
        rintro e w' ⟨rfl, rfl⟩
        go_wp2_with fail
        refine (HN.out _).mono ?_
        rintro e w' ⟨rfl, rfl⟩
        go_wp2_with fail
        refine (HP.out _).mono ?_
        rintro e w' ⟨rfl, rfl⟩
        go_wp2
        go_ret2
        exact ⟨rfl, 0, rfl⟩
      · obtain rfl := hp.2 (by simp)
        clear hp
        have k : decide (9223372036854775808 < L) = true := by simp; omega
        go_enter Tryd.func18, Tryd.ntmps18
        go_wp2_with fail
        refine (HM.out _).mono ?_
        rintro e w' ⟨rfl, rfl⟩
        go_wp2_with fail
        refine (HN.out _).mono ?_
        rintro e w' ⟨rfl, rfl⟩
        go_wp2_with fail
        refine (HP.out _).mono ?_
        rintro e w' ⟨rfl, rfl⟩
        go_wp2
        go_ret2
        exact ⟨rfl, 0, rfl⟩
      · obtain rfl := hp.2 (by simp)
        clear hp
        have k : decide (9223372036854775808 < L) = true := by simp; omega
        go_enter Tryd.func18, Tryd.ntmps18
        go_wp2_with fail
        refine (HM.out _).mono ?_
        rintro e w' ⟨rfl, rfl⟩
        go_wp2_with fail
        refine (HN.out _).mono ?_
        rintro e w' ⟨rfl, rfl⟩
        go_wp2_with fail
        refine (HP.out _).mono ?_
        rintro e w' ⟨rfl, rfl⟩
        go_wp2
        go_ret2
        exact ⟨rfl, 0, rfl⟩
      · obtain rfl := hp.1 rfl
        clear hp
        have k : decide (9223372036854775807 < p) = true := by simp; omega
        go_enter Tryd.func18, Tryd.ntmps18
        go_wp2_with fail
        refine (HM.out _).mono ?_
        rintro e w' ⟨rfl, rfl⟩
        go_wp2_with fail
        refine (HN.out _).mono ?_
        rintro e w' ⟨rfl, rfl⟩
        go_wp2_with fail
        refine (HP.out _).mono ?_
        rintro e w' ⟨rfl, rfl⟩
        go_wp2
        go_ret2
        exact ⟨rfl, 0, rfl⟩

theorem refadd_all (a b : Int) (h0 : -9223372036854775808 ≤ a) (h1 : a ≤ 9223372036854775807) (h2 : -9223372036854775808 ≤ b) (h3 : b ≤ 9223372036854775807) (w : World) :
    Calls Tryd.prog 19 #[.int .i64 a, .int .i64 b] w fun e w' => e = .returned (.tuple #[.int .i64 (xV (a + b)), .int .i64 (xE (a + b))]) ∧ w = w' := by
  obtain ⟨S, hS⟩ : ∃ S, wrap64 (a + b) = S := ⟨_, rfl⟩
  have q : (-9223372036854775808 ≤ a + b ∧ a + b ≤ 9223372036854775807) ∧ S = a + b ∨ ¬ (-9223372036854775808 ≤ a + b ∧ a + b ≤ 9223372036854775807) ∧ (a < 0 ∧ b < 0 ∧ 0 ≤ S ∨ 0 ≤ a ∧ 0 ≤ b ∧ S < 0) := by
    have := hS; unfold wrap64 at this; omega
  rcases q with ⟨q, e⟩ | ⟨q, ⟨k1, k2, k3⟩ | ⟨k1, k2, k3⟩⟩
  · rw [xV_in q, xE_in q]
    obtain ⟨q0, q1⟩ := q
    subst e
    clear hS
    obtain ⟨s, hs⟩ : ∃ s, decide (a < 0) = s := ⟨_, rfl⟩
    obtain ⟨t, ht⟩ : ∃ s, decide (b < 0) = s := ⟨_, rfl⟩
    obtain ⟨u, hu⟩ : ∃ s, decide (a + b < 0) = s := ⟨_, rfl⟩
    have k : ((s == t) && !(u == s)) = false := by
      subst hs; subst ht; subst hu
      by_cases u : a < 0 <;> by_cases v : b < 0 <;> by_cases x : a + b < 0 <;> simp [u, v, x] <;> omega
    cases s <;> cases t <;> cases u <;> (try cases k)
    all_goals
      go_enter Tryd.func19, Tryd.ntmps19
      go_wp2
      go_ret2
      exact ⟨rfl, rfl⟩
  · rw [xV_out q, xE_out q]
    have e1 : decide (a < 0) = true := by simpa using k1
    have e2 : decide (b < 0) = true := by simpa using k2
    have e3 : decide (S < 0) = false := by simpa using k3
    clear q
    go_enter Tryd.func19, Tryd.ntmps19
    go_wp2
    go_ret2
    exact ⟨rfl, rfl⟩
  · rw [xV_out q, xE_out q]
    have e1 : decide (a < 0) = false := by simpa using k1
    have e2 : decide (b < 0) = false := by simpa using k2
    have e3 : decide (S < 0) = true := by simpa using k3
    clear q
    go_enter Tryd.func19, Tryd.ntmps19
    go_wp2
    go_ret2
    exact ⟨rfl, rfl⟩
set_option maxHeartbeats 400000 in
theorem refmul_all (a b : Int) (h0 : -9223372036854775808 ≤ a) (h1 : a ≤ 9223372036854775807) (h2 : -9223372036854775808 ≤ b) (h3 : b ≤ 9223372036854775807) (w : World) :
    Calls Tryd.prog 20 #[.int .i64 a, .int .i64 b] w fun e w' => e = .returned (.tuple #[.int .i64 (xV (a * b)), .int .i64 (xE (a * b))]) ∧ w = w' := by
  by_cases az : a = 0
  · subst az
    rw [Int.zero_mul]
    go_enter Tryd.func20, Tryd.ntmps20
    go_wp2
    go_ret2
    exact ⟨rfl, rfl⟩
  by_cases bz : b = 0
  · subst bz
    rw [Int.mul_zero]
    have e1 : (a == 0) = false := by simpa using az
    go_enter Tryd.func20, Tryd.ntmps20
    go_wp2
    go_ret2
    exact ⟨rfl, rfl⟩
  by_cases s1 : a = -9223372036854775808 ∧ b = -1
  · obtain ⟨rfl, rfl⟩ := s1
    rw [xV_out (by decide), xE_out (by decide)]
    go_enter Tryd.func20, Tryd.ntmps20
    go_wp2
    go_ret2
    exact ⟨rfl, rfl⟩
  by_cases s2 : b = -9223372036854775808 ∧ a = -1
  · obtain ⟨rfl, rfl⟩ := s2
    rw [xV_out (by decide), xE_out (by decide)]
    go_enter Tryd.func20, Tryd.ntmps20
    go_wp2
    go_ret2
    exact ⟨rfl, rfl⟩
  have e1 : (a == 0) = false := by simpa using az
  have e2 : (b == 0) = false := by simpa using bz
  obtain ⟨c1, hc1⟩ : ∃ c, (a == -9223372036854775808) = c := ⟨_, rfl⟩
  obtain ⟨d1, hd1⟩ : ∃ c, (b == -1) = c := ⟨_, rfl⟩
  obtain ⟨c2, hc2⟩ : ∃ c, (b == -9223372036854775808) = c := ⟨_, rfl⟩
  obtain ⟨d2, hd2⟩ : ∃ c, (a == -1) = c := ⟨_, rfl⟩
  have e3 : (c1 && d1) = false := by subst hc1; subst hd1; rw [Bool.and_eq_false_iff]; simp only [beq_eq_false_iff_ne]; omega
  have e4 : (c2 && d2) = false := by subst hc2; subst hd2; rw [Bool.and_eq_false_iff]; simp only [beq_eq_false_iff_ne]; omega
  have mb := mul_back (a := a) bz h2 h3
  have tb := tq_bd (a := wrap64 (a * b)) (b := b) (by unfold wrap64; omega) (by unfold wrap64; omega) (by unfold wrap64; rintro ⟨x, rfl⟩; omega) bz
  obtain ⟨p, hp⟩ : ∃ p, wrap64 (a * b) = p := ⟨_, rfl⟩
  rw [hp] at mb tb
  obtain ⟨t, ht⟩ : ∃ t, p.tdiv b = t := ⟨_, rfl⟩
  rw [ht] at mb tb
  obtain ⟨t0, t1⟩ := tb
  have P : (if ta : t = a then a * b = p else True) := by
    split
    · have := mb.1 (by assumption); rw [← hp]; unfold wrap64; omega
    · trivial
  clear s1 s2 az
  by_cases ta : t = a
  · rw [xV_in (mb.1 ta), xE_in (mb.1 ta)]
    rw [dif_pos ta] at P
    rw [P]
    subst ta
    clear mb P
    have hp' : wrap64 (t * b) = p := hp
    cases c1 <;> cases d1 <;> (try cases e3) <;> cases c2 <;> cases d2 <;> (try cases e4)
    all_goals
      go_enter Tryd.func20, Tryd.ntmps20
      go_wp2
      go_ret2
      exact ⟨by show Ending.returned (.tuple #[.int .i64 (wrap64 (t * b)), .int .i64 0]) = _; rw [hp], rfl⟩
  · rw [xV_out (mt mb.2 ta), xE_out (mt mb.2 ta)]
    have ta' : (t != a) = true := by simpa using ta
    clear mb P
    cases c1 <;> cases d1 <;> (try cases e3) <;> cases c2 <;> cases d2 <;> (try cases e4)
    all_goals
      go_enter Tryd.func20, Tryd.ntmps20
      go_wp2
      go_ret2
      exact ⟨rfl, rfl⟩
end Go.Proofs.YtlggiaoaleodpaaDoor

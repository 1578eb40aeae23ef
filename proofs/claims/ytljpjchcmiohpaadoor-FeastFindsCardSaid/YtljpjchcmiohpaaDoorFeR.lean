/- Contracts of civiltimeref08. -/
import Derived.Test.YtljpjchcmiohpaaDoorFeMath
import Derived.Test.YtljpjchcmiohpaaDoorLRefA
import Derived.Deep.Cut
namespace Go.Proofs.YtljpjchcmiohpaaDoor
open Go.RowKit
set_option linter.unusedVariables false

theorem rfyr (y : Int) (hy : I64 y) (w : World) :
    Calls Tryd.prog 14 #[.int .i64 y] w fun e w' => e = .returned (.bool (yrB y)) ∧ w = w' := by
  obtain ⟨h0, h1⟩ := hy
  rw [yrB_eq]
  obtain ⟨a, ha⟩ : ∃ a, decide (1 ≤ y) = a := ⟨_, rfl⟩
  obtain ⟨b, hb⟩ : ∃ a, decide (y ≤ 9999) = a := ⟨_, rfl⟩
  rw [ha, hb]
  cases a <;> cases b
  all_goals
    go_enter Tryd.func14, Tryd.ntmps14
    go_wp2
    go_ret
    exact ⟨rfl, rfl⟩
theorem rfgold (y : Int) (y0 : 1 ≤ y) (y1 : y ≤ 9999) (w : World) :
    Calls Tryd.prog 15 #[.int .i64 y] w fun e w' => e = .returned (.int .i64 (fG y)) ∧ w = w' := by
  go_enter Tryd.func15, Tryd.ntmps15
  go_wp2
  go_ret
  exact ⟨rfl, rfl⟩
set_option maxRecDepth 100000 in
set_option maxHeartbeats 1000000 in
theorem rfepact (y : Int) (y0 : 1 ≤ y) (y1 : y ≤ 9999) (w : World) :
    Calls Tryd.prog 16 #[.int .i64 y] w fun e w' => e = .returned (.int .i64 (fE y)) ∧ w = w' := by
  have HG := Lib.hid (fun w => rfgold y y0 y1 w)
  have gb := fG_bd y
  have e : Hid (fE y = (8 + y / 100 / 4 - y / 100 + (8 * (y / 100) + 13) / 25 + 11 * (fG y - 1) + 300) % 30) := by show _ = _; unfold fE fG; omega
  rw [e.out]
  clear e
  have cb : 0 ≤ y / 100 ∧ y / 100 ≤ 99 := by omega
  obtain ⟨c, hc⟩ : ∃ c, y / 100 = c := ⟨_, rfl⟩
  rw [hc] at cb ⊢
  obtain ⟨q, hq⟩ : ∃ q, c / 4 = q := ⟨_, rfl⟩
  obtain ⟨r, hr⟩ : ∃ r, (8 * c + 13) / 25 = r := ⟨_, rfl⟩
  have qb : 0 ≤ q ∧ q ≤ 24 := by omega
  have rb : 0 ≤ r ∧ r ≤ 33 := by omega
  rw [hq, hr]
  generalize fG y = g at *
  obtain ⟨g0, g1⟩ := gb
  obtain ⟨c0, c1⟩ := cb
  obtain ⟨q0, q1⟩ := qb
  obtain ⟨r0, r1⟩ := rb
  go_enter Tryd.func16, Tryd.ntmps16
  go_wp2_with fail
  refine (HG.out _).mono ?_
  rintro e w1 ⟨rfl, rfl⟩
  go_wp2
  go_ret
  exact ⟨rfl, rfl⟩
theorem fe_bd {y : Int} (y0 : 1 ≤ y) (y1 : y ≤ 9999) : (0 ≤ y % 19 ∧ y % 19 ≤ 18) ∧ (0 ≤ y / 100 ∧ y / 100 ≤ 99) ∧ (0 ≤ y % 100 ∧ y % 100 ≤ 99) ∧ (0 ≤ y / 100 / 4 ∧ y / 100 / 4 ≤ 24) ∧ (0 ≤ (y / 100 + 8) / 25 ∧ (y / 100 + 8) / 25 ≤ 4) ∧
    (0 ≤ (y / 100 - (y / 100 + 8) / 25 + 1) / 3 ∧ (y / 100 - (y / 100 + 8) / 25 + 1) / 3 ≤ 33) ∧ (0 ≤ y / 100 % 4 ∧ y / 100 % 4 ≤ 3) ∧ (0 ≤ y % 100 / 4 ∧ y % 100 / 4 ≤ 24) ∧ (0 ≤ y % 100 % 4 ∧ y % 100 % 4 ≤ 3) ∧
    (0 ≤ fn y / 31 ∧ fn y / 31 ≤ 9) ∧ (0 ≤ fn y % 31 ∧ fn y % 31 ≤ 30) ∧ 0 ≤ 19 * (y % 19) + y / 100 - y / 100 / 4 - (y / 100 - (y / 100 + 8) / 25 + 1) / 3 + 15 ∧ 0 ≤ 32 + 2 * (y / 100 % 4) + 2 * (y % 100 / 4) - fh y - y % 100 % 4 ∧ 0 ≤ y / 100 - (y / 100 + 8) / 25 + 1 ∧
    (0 ≤ fm y ∧ fm y ≤ 1) := by
  have nb := fn_bd y
  have hb := fh_bd y
  have mb := fm_at y
  refine ⟨by omega, by omega, by omega, by omega, by omega, ?_, by omega, by omega, by omega, by omega, by omega, ?_, ?_, by omega, by omega⟩
  · clear nb hb mb; omega
  · clear nb hb mb; omega
  · clear nb mb; omega
set_option maxRecDepth 100000 in
set_option maxHeartbeats 1000000 in
theorem rfeaster (y : Int) (y0 : 1 ≤ y) (y1 : y ≤ 9999) (w : World) :
    Calls Tryd.prog 19 #[.int .i64 y] w fun e w' => e = .returned (.int .i64 (feN y)) ∧ Below w.heap.size w w' := by
  have R := fe_rule y0 y1
  have HD := fun w => refday_yes y (fn y / 31) (fn y % 31 + 1) R.1 w
  rw [R.2] at HD
  have fb := feN_in y0 y1
  have nb := fn_bd y
  have hb := fh_bd y
  have lb := fl_bd y
  obtain ⟨ab, bb, cb, qb, sb, tb, ub, vb, xb, ib, jb, k1, k2, k3, mb⟩ := fe_bd y0 y1
  have eh2 : (19 * (y % 19) + y / 100 - y / 100 / 4 - (y / 100 - (y / 100 + 8) / 25 + 1) / 3 + 15) % 30 = fh y := rfl
  have el2 : (32 + 2 * (y / 100 % 4) + 2 * (y % 100 / 4) - fh y - y % 100 % 4) % 7 = fl y := rfl
  have em2 : (y % 19 + 11 * fh y + 22 * fl y) / 451 = fm y := rfl
  have en2 : fh y + fl y - 7 * fm y + 114 = fn y := rfl
  obtain ⟨-, -, -, F0, F1⟩ := fb
  clear R
  generalize feN y = F at *
  generalize fn y = n at *
  generalize fm y = m at *
  generalize fl y = l at *
  generalize fh y = h at *
  obtain ⟨a, ha⟩ : ∃ a, y % 19 = a := ⟨_, rfl⟩
  obtain ⟨b, hB⟩ : ∃ b, y / 100 = b := ⟨_, rfl⟩
  obtain ⟨c, hC⟩ : ∃ c, y % 100 = c := ⟨_, rfl⟩
  rw [ha] at em2 ab k1
  rw [ha, hB] at eh2
  rw [hB] at bb qb sb tb ub k3 k1 k2
  rw [hC] at cb vb xb k2
  rw [hB, hC] at el2
  obtain ⟨q, hq⟩ : ∃ q, b / 4 = q := ⟨_, rfl⟩
  obtain ⟨s, hs⟩ : ∃ s, (b + 8) / 25 = s := ⟨_, rfl⟩
  obtain ⟨t, ht⟩ : ∃ t, (b - (b + 8) / 25 + 1) / 3 = t := ⟨_, rfl⟩
  obtain ⟨u, hu⟩ : ∃ u, b % 4 = u := ⟨_, rfl⟩
  obtain ⟨v, hv⟩ : ∃ v, c / 4 = v := ⟨_, rfl⟩
  obtain ⟨x, hx⟩ : ∃ x, c % 4 = x := ⟨_, rfl⟩
  rw [hq, ht] at eh2 k1
  rw [hu, hv, hx] at el2 k2
  rw [hq] at qb
  rw [ht] at tb
  rw [hs] at sb ht k3
  rw [hu] at ub
  rw [hv] at vb
  rw [hx] at xb
  obtain ⟨i, hi⟩ : ∃ i, n / 31 = i := ⟨_, rfl⟩
  obtain ⟨j, hj⟩ : ∃ j, n % 31 = j := ⟨_, rfl⟩
  rw [hi, hj] at HD
  rw [hi] at ib
  rw [hj] at jb
  replace HD := Lib.hid HD
  have S1 : Hid (y % 19 = a ∧ y / 100 = b ∧ y % 100 = c) := ⟨ha, hB, hC⟩
  have S2 : Hid ((0 ≤ a ∧ a ≤ 18) ∧ (0 ≤ b ∧ b ≤ 99) ∧ (0 ≤ q ∧ q ≤ 24) ∧ (0 ≤ s ∧ s ≤ 4) ∧ (0 ≤ t ∧ t ≤ 33) ∧ b / 4 = q ∧ (b + 8) / 25 = s ∧ (b - s + 1) / 3 = t ∧ 0 ≤ b - s + 1 ∧ 0 ≤ 19 * a + b - q - t + 15 ∧ (19 * a + b - q - t + 15) % 30 = h) := ⟨ab, bb, qb, sb, tb, hq, hs, ht, k3, k1, eh2⟩
  have S3 : Hid ((0 ≤ b ∧ b ≤ 99) ∧ (0 ≤ c ∧ c ≤ 99) ∧ (0 ≤ u ∧ u ≤ 3) ∧ (0 ≤ v ∧ v ≤ 24) ∧ (0 ≤ x ∧ x ≤ 3) ∧ (0 ≤ h ∧ h ≤ 29) ∧ b % 4 = u ∧ c / 4 = v ∧ c % 4 = x ∧ 0 ≤ 32 + 2 * u + 2 * v - h - x ∧ (32 + 2 * u + 2 * v - h - x) % 7 = l) := ⟨bb, cb, ub, vb, xb, hb, hu, hv, hx, k2, el2⟩
  have S4 : Hid ((0 ≤ a ∧ a ≤ 18) ∧ (0 ≤ h ∧ h ≤ 29) ∧ (0 ≤ l ∧ l ≤ 6) ∧ (a + 11 * h + 22 * l) / 451 = m) := ⟨ab, hb, lb, em2⟩
  have S5 : Hid ((0 ≤ h ∧ h ≤ 29) ∧ (0 ≤ l ∧ l ≤ 6) ∧ (0 ≤ m ∧ m ≤ 1) ∧ h + l - 7 * m + 114 = n) := ⟨hb, lb, mb, en2⟩
  have S6 : Hid ((114 ≤ n ∧ n ≤ 148) ∧ (0 ≤ i ∧ i ≤ 9) ∧ (0 ≤ j ∧ j ≤ 30) ∧ n / 31 = i ∧ n % 31 = j) := ⟨nb, ib, jb, hi, hj⟩
  clear ha hB hC ab bb cb qb sb tb ub vb xb ib jb k1 k2 k3 mb nb hb lb hq hs ht hu hv hx hi hj eh2 el2 em2 en2
  go_enter Tryd.func19, Tryd.ntmps19
  obtain ⟨z1, z2, z3⟩ := S1.out
  go_upto_region 2 with (fail)
  try simp only [z1, z2, z3]
  clear z1 z2 z3 S1
  obtain ⟨⟨z1, z2⟩, ⟨z3, z4⟩, ⟨z5, z6⟩, ⟨z7, z8⟩, ⟨z9, z10⟩, z11, z12, z13, z14, z15, z16⟩ := S2.out
  go_upto_region 3 with (fail)
  try simp only [z11, z12, z13, z16]
  clear z1 z2 z3 z4 z5 z6 z7 z8 z9 z10 z11 z12 z13 z14 z15 z16 S2
  obtain ⟨⟨z1, z2⟩, ⟨z3, z4⟩, ⟨z5, z6⟩, ⟨z7, z8⟩, ⟨z9, z10⟩, ⟨z11, z12⟩, z13, z14, z15, z16, z17⟩ := S3.out
  go_upto_region 4 with (fail)
  try simp only [z13, z14, z15, z17]
  clear z1 z2 z3 z4 z5 z6 z7 z8 z9 z10 z11 z12 z13 z14 z15 z16 z17 S3
  obtain ⟨⟨z1, z2⟩, ⟨z3, z4⟩, ⟨z5, z6⟩, z7⟩ := S4.out
  go_upto_region 5 with (fail)
  try simp only [z7]
  clear z1 z2 z3 z4 z5 z6 z7 S4
  obtain ⟨⟨z1, z2⟩, ⟨z3, z4⟩, ⟨z5, z6⟩, z7⟩ := S5.out
  go_upto_region 6 with (fail)
  try simp only [z7]
  clear z1 z2 z3 z4 z5 z6 z7 S5
  obtain ⟨⟨z1, z2⟩, ⟨z3, z4⟩, ⟨z5, z6⟩, z7, z8⟩ := S6.out
  go_wp2_with fail
  refine (HD.out _).mono ?_
  rintro e w1 ⟨rfl, hb⟩
  go_wp2
  go_ret
  exact ⟨rfl, hb⟩
set_option maxRecDepth 100000 in
set_option maxHeartbeats 1000000 in
theorem rfsun (d : Int) (d0 : -719163 ≤ d) (d1 : d < 2932890) (w : World) :
    Calls Tryd.prog 37 #[.int .i64 d] w fun e w' => e = .returned (.int .i64 (fS d)) ∧ w = w' := by
  have HW := Lib.hid (fun x (x0 : -719162 ≤ x) (x1 : x < 2932897) w => refweekday x (by omega) (by omega) w)
  have s := fS_in d
  have u : Hid (∀ x, d < x → x ≤ d + 7 → (x + 719162) % 7 = 6 → x = fS d) := fun x => fS_only
  generalize fS d = S at *
  have s2 := Lib.hid s.2.2
  obtain ⟨sa, sb, -⟩ := s
  go_enter Tryd.func37, Tryd.ntmps37
  go_wp2
  go_loop [0] (fun a => ∃ x : Int, d < x ∧ x ≤ S ∧ a = .int .i64 x) (fun a => (S - intOf a).toNat)
  case atStart => exact ⟨d + 1, by omega, by omega, rfl⟩
  case round =>
    obtain ⟨x, x0, x1, rfl⟩ := hrel
    have HWx := fun w => HW.out x (by omega) (by omega) w
    have e : wkd x = (x + 719162) % 7 + 1 := by unfold wkd; rw [if_neg (by omega)]
    rw [e] at HWx
    by_cases z : x = S
    · have k : ((x + 719162) % 7 + 1 != 7) = false := by rw [z, s2.out]; rfl
      have kb : 0 ≤ (x + 719162) % 7 := by omega
      generalize (x + 719162) % 7 + 1 = q at *
      subst z
      replace HWx := Lib.hid HWx
      clear HW u s2 kb e
      go_wp2_with fail
      refine (HWx.out _).mono ?_
      rintro e w1 ⟨rfl, rfl⟩
      go_wp2
      go_ret
      exact ⟨rfl, rfl⟩
    · have k : ((x + 719162) % 7 + 1 != 7) = true := by
        rw [bne_iff_ne]; intro h
        exact z (u.out x x0 (by omega) (by omega))
      generalize (x + 719162) % 7 + 1 = q at *
      replace HWx := Lib.hid HWx
      clear HW u s2 e
      go_wp2_with fail
      refine (HWx.out _).mono ?_
      rintro e w1 ⟨rfl, rfl⟩
      go_wp2
      go_round
      case rel => exact ⟨x + 1, by omega, by omega, rfl⟩
      case measure => simp [intOf]; omega
/-- March 21 of a year of the Julian calendar. -/
def fj (y : Int) : Int := 365 * y + y / 4 - 719450
theorem fj_eq {y : Int} (y0 : 1 ≤ y) (y1 : y ≤ 9999) : jdayN y 3 21 = fj y := by
  have := (jspring y0 y1).1
  unfold fj; omega
set_option maxRecDepth 100000 in
set_option maxHeartbeats 1000000 in
theorem rfjul (y : Int) (y0 : 1 ≤ y) (y1 : y ≤ 9999) (w : World) :
    Calls Tryd.prog 38 #[.int .i64 y] w fun e w' => e = .returned (.int .i64 (fj y)) ∧ Below w.heap.size w w' := by
  have HD := fun w => refday_yes 1900 4 3 (by decide +kernel) w
  rw [show dayN 1900 4 3 = fj 1900 by decide +kernel] at HD
  have ss : Hid (∀ k, fj (k + 1) = fj k + 365 + (if (k + 1) % 4 = 0 then 1 else 0)) := by
    show ∀ k, _
    intro k; unfold fj; split <;> omega
  have fb : Hid (∀ k, 0 ≤ k → k ≤ 10000 → -800000 ≤ fj k ∧ fj k ≤ 3000000) := by
    show ∀ k, _
    intro k k0 k1; unfold fj; omega
  replace HD := Lib.hid HD
  generalize fj = f at *
  have b0 := fb.out 1900 (by omega) (by omega)
  go_enter Tryd.func38, Tryd.ntmps38
  go_wp2_with fail
  refine (HD.out _).mono ?_
  rintro e w1 ⟨rfl, hb⟩
  have A1 := Lib.hid hb
  clear hb HD
  obtain ⟨b00, b01⟩ := b0
  go_wp2
  go_loop [3, 5] (fun a b => ∃ k : Int, 1900 ≤ k ∧ (k ≤ y ∨ k = 1900) ∧ a = .int .i64 (f k) ∧ b = .int .i64 k) (fun _ b => (y - intOf b).toNat)
  case atStart => exact ⟨1900, by omega, by omega, rfl, rfl⟩
  case round =>
    obtain ⟨k, k0, k1, rfl, rfl⟩ := hrel
    have kb := fb.out k (by omega) (by omega)
    obtain ⟨kb0, kb1⟩ := kb
    by_cases z : k < y
    · have kz : decide (k < y) = true := decide_eq_true z
      have sk := Lib.hid (ss.out k)
      clear ss fb b00 b01
      by_cases q : (k + 1) % 4 = 0
      · have kq : ((k + 1) % 4 == 0) = true := by simpa using q
        rw [if_pos q] at sk
        generalize f k = h at *
        obtain ⟨r, hr⟩ : ∃ r, (k + 1) % 4 = r := ⟨_, rfl⟩
        rw [hr] at kq
        clear q
        go_wp2
        go_round
        case rel => exact ⟨k + 1, by omega, by omega, by rw [sk.out], rfl⟩
        case measure => simp [intOf]; omega
      · have kq : ((k + 1) % 4 == 0) = false := by simpa using q
        rw [if_neg q, Int.add_zero] at sk
        generalize f k = h at *
        obtain ⟨r, hr⟩ : ∃ r, (k + 1) % 4 = r := ⟨_, rfl⟩
        rw [hr] at kq
        clear q
        go_wp2
        go_round
        case rel => exact ⟨k + 1, by omega, by omega, by rw [sk.out], rfl⟩
        case measure => simp [intOf]; omega
    · have kz : decide (k < y) = false := decide_eq_false z
      by_cases y19 : 1900 ≤ y
      · obtain rfl : k = y := by omega
        have ky : decide (k < 1900) = false := decide_eq_false (by omega)
        clear k1 ss fb b00 b01
        go_wp2
        go_loop [3, 6] (fun a b => a = .int .i64 (f k) ∧ b = .int .i64 1900) (fun _ b => 0)
        case atStart => exact ⟨rfl, rfl⟩
        case round =>
          obtain ⟨rfl, rfl⟩ := hrel
          go_wp2
          go_ret
          exact ⟨rfl, A1.out⟩
      · obtain rfl : k = 1900 := by omega
        clear k1 z kz k0
        go_wp2
        go_loop [3, 6] (fun a b => ∃ j : Int, y ≤ j ∧ j ≤ 1900 ∧ a = .int .i64 (f j) ∧ b = .int .i64 j) (fun _ b => (intOf b).toNat)
        case atStart => exact ⟨1900, by omega, by omega, rfl, rfl⟩
        case round =>
          obtain ⟨j, j0, j1, rfl, rfl⟩ := hrel
          have jb := fb.out j (by omega) (by omega)
          obtain ⟨jb0, jb1⟩ := jb
          clear kb0 kb1 b00 b01
          by_cases z : y < j
          · have kz : decide (y < j) = true := decide_eq_true z
            have sk := ss.out (j - 1)
            rw [show j - 1 + 1 = j by omega] at sk
            have jb2 := fb.out (j - 1) (by omega) (by omega)
            obtain ⟨jb2, jb3⟩ := jb2
            clear ss fb
            by_cases q : j % 4 = 0
            · have kq : (j % 4 == 0) = true := by simpa using q
              rw [if_pos q] at sk
              have e : Hid (f j - 365 - 1 = f (j - 1)) := by show _ = _; omega
              generalize f j = h at *
              obtain ⟨r, hr⟩ : ∃ r, j % 4 = r := ⟨_, rfl⟩
              rw [hr] at kq
              clear q sk jb2 jb3
              go_wp2
              go_round
              case rel => exact ⟨j - 1, by omega, by omega, by rw [← e.out], rfl⟩
              case measure => simp [intOf]; omega
            · have kq : (j % 4 == 0) = false := by simpa using q
              rw [if_neg q, Int.add_zero] at sk
              have e : Hid (f j - 365 = f (j - 1)) := by show _ = _; omega
              generalize f j = h at *
              obtain ⟨r, hr⟩ : ∃ r, j % 4 = r := ⟨_, rfl⟩
              rw [hr] at kq
              clear q sk jb2 jb3
              go_wp2
              go_round
              case rel => exact ⟨j - 1, by omega, by omega, by rw [← e.out], rfl⟩
              case measure => simp [intOf]; omega
          · obtain rfl : j = y := by omega
            have kz : decide (j < j) = false := decide_eq_false (by omega)
            clear ss fb
            go_wp2
            go_ret
            exact ⟨rfl, A1.out⟩
set_option maxRecDepth 100000 in
set_option maxHeartbeats 1000000 in
theorem rfje (y : Int) (y0 : 1 ≤ y) (y1 : y ≤ 9999) (w : World) :
    Calls Tryd.prog 20 #[.int .i64 y] w fun e w' => e = .returned (.int .i64 (fjN y)) ∧ Below w.heap.size w w' := by
  have HJ := Lib.hid (fun w => rfjul y y0 y1 w)
  have HG := Lib.hid (fun w => rfgold y y0 y1 w)
  have e : fjN y = fS (fj y + fjF y) := by unfold fjN; rw [fj_eq y0 y1]
  have s := jspring y0 y1
  rw [fj_eq y0 y1] at s
  have b := s.1
  have fb := fjF_bd y
  have HS := Lib.hid (fun w => rfsun (fj y + fjF y) (by omega) (by omega) w)
  rw [e]
  have eq : (19 * (fG y - 1) + 15) % 30 = fjF y := by unfold fG fjF; omega
  have gb := fG_bd y
  have jb : -800000 ≤ fj y ∧ fj y ≤ 3000000 := by omega
  generalize fS (fj y + fjF y) = R at *
  clear s b e
  generalize fjF y = q at *
  generalize fG y = g at *
  generalize fj y = j at *
  obtain ⟨g0, g1⟩ := gb
  obtain ⟨j0, j1⟩ := jb
  obtain ⟨f0, f1⟩ := fb
  go_enter Tryd.func20, Tryd.ntmps20
  go_wp2_with fail
  refine (HJ.out _).mono ?_
  rintro e w1 ⟨rfl, hb⟩
  have A1 := Lib.hid (down (here w) hb)
  clear hb
  go_wp2_with fail
  refine (HG.out _).mono ?_
  rintro e x1 ⟨rfl, rfl⟩
  go_wp2_with fail
  refine (HS.out _).mono ?_
  rintro e x2 ⟨rfl, rfl⟩
  go_wp2
  go_ret
  exact ⟨rfl, by first | exact A1.out | exact grow A1.out _ | exact below_drewN A1.out _ | exact grow (grow A1.out _) _ | exact grow (grow (grow A1.out _) _) _⟩
set_option maxRecDepth 100000 in
set_option maxHeartbeats 1000000 in
theorem rfmv (y o : Int) (hy : I64 y) (ho : I64 o) (w : World) :
    Calls Tryd.prog 25 #[.int .i64 y, .int .i64 o] w fun e w' => e = .returned (.tuple #[.int .i64 (fmN y o), .bool (fmB y o)]) ∧ Below w.heap.size w w' := by
  have HY := fun w => rfyr y hy w
  obtain ⟨ho0, ho1⟩ := ho
  have no : fmB y o = false → fmN y o = 0 := fun h => by unfold fmN; rw [h]; rfl
  have yes : fmB y o = true → fmN y o = feN y + o := fun h => by unfold fmN; rw [h]; rfl
  cases a : yrB y
  · have e : fmB y o = false := by unfold fmB; rw [a]; rfl
    rw [a] at HY
    rw [no e, e]
    replace HY := Lib.hid HY
    clear a e no yes
    go_enter Tryd.func25, Tryd.ntmps25
    go_wp2_with fail
    refine (HY.out _).mono ?_
    rintro e x1 ⟨rfl, rfl⟩
    go_wp2
    go_ret2
    exact ⟨rfl, by first | exact (here w) | exact grow (here w) _ | exact below_drewN (here w) _ | exact grow (grow (here w) _) _ | exact grow (grow (grow (here w) _) _) _⟩
  · rw [a] at HY
    replace HY := Lib.hid HY
    obtain ⟨y0, y1⟩ := yrB_iff.1 a
    have HE := Lib.hid (fun w => rfeaster y y0 y1 w)
    have fb := feN_in y0 y1
    obtain ⟨-, -, -, f0, f1⟩ := fb
    by_cases o0 : o < -400
    · have e : fmB y o = false := by rw [← Bool.not_eq_true, fmB_iff]; omega
      rw [no e, e]
      have k : decide (o < -400) = true := decide_eq_true o0
      clear a e no yes
      go_enter Tryd.func25, Tryd.ntmps25
      go_wp2_with fail
      refine (HY.out _).mono ?_
      rintro e x1 ⟨rfl, rfl⟩
      go_wp2
      go_ret2
      exact ⟨rfl, by first | exact (here w) | exact grow (here w) _ | exact below_drewN (here w) _ | exact grow (grow (here w) _) _ | exact grow (grow (grow (here w) _) _) _⟩
    · have k : decide (o < -400) = false := decide_eq_false o0
      by_cases o1 : 400 < o
      · have e : fmB y o = false := by rw [← Bool.not_eq_true, fmB_iff]; omega
        rw [no e, e]
        have k1 : decide (400 < o) = true := decide_eq_true o1
        clear a e no yes
        go_enter Tryd.func25, Tryd.ntmps25
        go_wp2_with fail
        refine (HY.out _).mono ?_
        rintro e x1 ⟨rfl, rfl⟩
        go_wp2
        go_ret2
        exact ⟨rfl, by first | exact (here w) | exact grow (here w) _ | exact below_drewN (here w) _ | exact grow (grow (here w) _) _ | exact grow (grow (grow (here w) _) _) _⟩
      · have k1 : decide (400 < o) = false := decide_eq_false o1
        have o2 : -400 ≤ o := by omega
        have o3 : o ≤ 400 := by omega
        by_cases d0 : feN y + o < -719162
        · have e : fmB y o = false := by rw [← Bool.not_eq_true, fmB_iff]; omega
          rw [no e, e]
          have k2 : decide (feN y + o < -719162) = true := decide_eq_true d0
          generalize feN y = F at *
          clear a e no yes
          go_enter Tryd.func25, Tryd.ntmps25
          go_wp2_with fail
          refine (HY.out _).mono ?_
          rintro e x1 ⟨rfl, rfl⟩
          go_wp2_with fail
          refine (HE.out _).mono ?_
          rintro e w1 ⟨rfl, hb⟩
          have A1 := Lib.hid (down (here w) hb)
          clear hb
          go_wp2
          go_ret2
          exact ⟨rfl, by first | exact A1.out | exact grow A1.out _ | exact below_drewN A1.out _ | exact grow (grow A1.out _) _ | exact grow (grow (grow A1.out _) _) _⟩
        · have k2 : decide (feN y + o < -719162) = false := decide_eq_false d0
          by_cases d1 : 2932897 ≤ feN y + o
          · have e : fmB y o = false := by rw [← Bool.not_eq_true, fmB_iff]; omega
            rw [no e, e]
            have k3 : decide (2932897 ≤ feN y + o) = true := decide_eq_true d1
            generalize feN y = F at *
            clear a e no yes
            go_enter Tryd.func25, Tryd.ntmps25
            go_wp2_with fail
            refine (HY.out _).mono ?_
            rintro e x1 ⟨rfl, rfl⟩
            go_wp2_with fail
            refine (HE.out _).mono ?_
            rintro e w1 ⟨rfl, hb⟩
            have A1 := Lib.hid (down (here w) hb)
            clear hb
            go_wp2
            go_ret2
            exact ⟨rfl, by first | exact A1.out | exact grow A1.out _ | exact below_drewN A1.out _ | exact grow (grow A1.out _) _ | exact grow (grow (grow A1.out _) _) _⟩
          · have e : fmB y o = true := fmB_iff.2 (by omega)
            rw [yes e, e]
            have k3 : decide (2932897 ≤ feN y + o) = false := decide_eq_false d1
            generalize feN y = F at *
            clear a e no yes
            go_enter Tryd.func25, Tryd.ntmps25
            go_wp2_with fail
            refine (HY.out _).mono ?_
            rintro e x1 ⟨rfl, rfl⟩
            go_wp2_with fail
            refine (HE.out _).mono ?_
            rintro e w1 ⟨rfl, hb⟩
            have A1 := Lib.hid (down (here w) hb)
            clear hb
            go_wp2
            go_ret2
            exact ⟨rfl, by first | exact A1.out | exact grow A1.out _ | exact below_drewN A1.out _ | exact grow (grow A1.out _) _ | exact grow (grow (grow A1.out _) _) _⟩
end Go.Proofs.YtljpjchcmiohpaaDoor

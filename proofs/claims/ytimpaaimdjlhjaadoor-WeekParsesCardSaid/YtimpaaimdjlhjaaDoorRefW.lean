/- Contracts of the reference's functions on weeks. -/
import Derived.Test.YtimpaaimdjlhjaaDoorWkC
namespace Go.Proofs.YtimpaaimdjlhjaaDoor
open Go.RowKit
set_option linter.unusedVariables false

theorem rvalid (F M : Int) (hF : I64 F) (hM : I64 M) (w : World) :
    Calls Tryd.prog 16 #[.agg #[.int .i64 F, .int .i64 M]] w fun e w' => e = .returned (.bool (rulB F M)) ∧ Below w.heap.size w w' := by
  obtain ⟨h0, h1⟩ := hF
  obtain ⟨h2, h3⟩ := hM
  unfold rulB
  obtain ⟨c, hc⟩ : ∃ a, decide (1 ≤ F) = a := ⟨_, rfl⟩
  obtain ⟨d, hd⟩ : ∃ a, decide (F ≤ 7) = a := ⟨_, rfl⟩
  obtain ⟨a, ha⟩ : ∃ a, decide (1 ≤ M) = a := ⟨_, rfl⟩
  obtain ⟨b, hb⟩ : ∃ a, decide (M ≤ 7) = a := ⟨_, rfl⟩
  rw [ha, hb, hc, hd]
  cases c <;> cases d <;> cases a <;> cases b
  all_goals
    go_enter Tryd.func16, Tryd.ntmps16
    go_wp2
    go_ret
    exact ⟨rfl, grow (here _) _⟩
theorem rinside (n : Int) (hn : I64 n) (w : World) :
    Calls Tryd.prog 39 #[.int .i64 n] w fun e w' => e = .returned (.bool (dyB n)) ∧ w = w' := by
  obtain ⟨h0, h1⟩ := hn
  rw [dyB_eq]
  obtain ⟨a, ha⟩ : ∃ a, decide (-719162 ≤ n) = a := ⟨_, rfl⟩
  obtain ⟨b, hb⟩ : ∃ a, decide (n < 2932897) = a := ⟨_, rfl⟩
  rw [ha, hb]
  cases a <;> cases b
  all_goals
    go_enter Tryd.func39, Tryd.ntmps39
    go_wp2
    go_ret
    exact ⟨rfl, rfl⟩
theorem rfloor7 (a : Int) (h0 : -10000000 ≤ a) (h1 : a ≤ 10000000) (w : World) :
    Calls Tryd.prog 56 #[.int .i64 a, .int .i64 7] w fun e w' => e = .returned (.int .i64 (a / 7)) ∧ w = w' := by
  rw [← Int.fdiv_eq_ediv_of_nonneg a (show (0 : Int) ≤ 7 by omega)]
  have e := Int.tdiv_mul_add_tmod a 7
  have hr := tr_bd (a := a) (b := 7) (by omega)
  have he := fdm_exact (a := a) (b := 7) (by omega)
  have hs := fdm_same (a := a) (b := 7) (by omega)
  have ho := fdm_other (a := a) (b := 7) (by omega)
  generalize a.fdiv 7 = Q at *
  obtain ⟨q, eq⟩ : ∃ q, a.tdiv 7 = q := ⟨_, rfl⟩
  obtain ⟨r, er⟩ : ∃ r, a.tmod 7 = r := ⟨_, rfl⟩
  rw [eq] at e he hs ho
  rw [er] at e hr he hs ho
  obtain ⟨hr0, -, -⟩ := hr
  have b0 : -10000000 ≤ q ∧ q ≤ 10000000 := by omega
  obtain ⟨b0, b1⟩ := b0
  have r0 : -7 < r ∧ r < 7 := by omega
  obtain ⟨r0, r1⟩ := r0
  clear hr0
  by_cases z : r < 0
  · have g : Q = q - 1 := (ho (by omega)).1
    subst g
    clear e he hs ho
    go_enter Tryd.func56, Tryd.ntmps56
    go_wp2
    go_ret
    exact ⟨rfl, rfl⟩
  · have g : Q = q := by
      by_cases y : r = 0
      · exact (he y).1
      · exact (hs (by omega)).1
    subst g
    clear e he hs ho
    go_enter Tryd.func56, Tryd.ntmps56
    go_wp2
    go_ret
    exact ⟨rfl, rfl⟩
theorem rfloor366 (a : Int) (h0 : 0 ≤ a) (h1 : a ≤ 10000000) (w : World) :
    Calls Tryd.prog 56 #[.int .i64 a, .int .i64 366] w fun e w' => e = .returned (.int .i64 (a / 366)) ∧ w = w' := by
  have k : decide (a % 366 < 0) = false := decide_eq_false (by omega)
  go_enter Tryd.func56, Tryd.ntmps56
  go_wp2
  go_ret
  exact ⟨rfl, rfl⟩
theorem rwday (n : Int) (h0 : -4000000 ≤ n) (h1 : n ≤ 4000000) (w : World) :
    Calls Tryd.prog 41 #[.int .i64 n] w fun e w' => e = .returned (.int .i64 (wdy n)) ∧ w = w' := by
  have HF := Lib.hid (fun w => rfloor7 (n + 3) (by omega) (by omega) w)
  have e : Hid (wdy n = n + 3 - 7 * ((n + 3) / 7) + 1) := by show wdy n = _; unfold wdy; omega
  have q : -1000000 ≤ (n + 3) / 7 ∧ (n + 3) / 7 ≤ 1000000 ∧ 0 ≤ n + 3 - 7 * ((n + 3) / 7) ∧ n + 3 - 7 * ((n + 3) / 7) ≤ 6 := by omega
  generalize (n + 3) / 7 = Q at *
  obtain ⟨q0, q1, q2, q3⟩ := q
  go_enter Tryd.func41, Tryd.ntmps41
  go_wp2_with fail
  refine (HF.out _).mono ?_
  rintro e w' ⟨rfl, rfl⟩
  go_wp2
  go_ret
  exact ⟨by rw [e.out]; rfl, rfl⟩
theorem rnew (y : Int) (h0 : 1 ≤ y) (h1 : y ≤ 10000) (w : World) :
    Calls Tryd.prog 44 #[.int .i64 y] w fun e w' => e = .returned (.int .i64 (first y)) ∧ w = w' := by
  have hf : Hid (first y = 365 * (y - 1) + (y - 1) / 4 - (y - 1) / 100 + (y - 1) / 400 + -719162) := by show first y = _; unfold first; omega
  go_enter Tryd.func44, Tryd.ntmps44
  go_wp2
  go_ret
  exact ⟨by rw [hf.out]; rfl, rfl⟩
theorem ryear (n y : Int) (y0 : 1 ≤ y) (y1 : y ≤ 9999) (a0 : first y ≤ n) (a1 : n < first (y + 1)) (w : World) :
    Calls Tryd.prog 40 #[.int .i64 n] w fun e w' => e = .returned (.int .i64 y) ∧ w = w' := by
  have g0 := guess_low y0 y1 a0 a1
  have b := first_bd y0 (show y ≤ 10000 by omega)
  have b' := first_bd (show 1 ≤ y + 1 by omega) (show y + 1 ≤ 10000 by omega)
  have r0 : -719162 ≤ n := by omega
  have r1 : n < 2932897 := by omega
  have g1 := guess_first r0
  have gp : 1 ≤ (n + 719162) / 366 + 1 := by omega
  have HF := fun w => rfloor366 (n - -719162) (by omega) (by omega) w
  rw [show n - -719162 = n + 719162 by omega] at HF
  replace HF := Lib.hid HF
  clear b b'
  generalize (n + 719162) / 366 = G at *
  have e0 : n - -719162 = n + 719162 := by omega
  go_enter Tryd.func40, Tryd.ntmps40
  go_wp2_with fail
  refine (HF.out _).mono ?_
  rintro e w' ⟨rfl, rfl⟩
  go_wp2
  go_loop [3] (fun a => ∃ z : Int, 1 ≤ z ∧ z ≤ y ∧ Hid (first z ≤ n) ∧ a = .int .i64 z) (fun a => (y - intOf a).toNat)
  case atStart => exact ⟨_, gp, g0, g1, rfl⟩
  case round =>
    obtain ⟨z, z0, z1, hz, rfl⟩ := hrel
    have HN := Lib.hid (fun w => rnew (z + 1) (by omega) (by omega) w)
    by_cases c : z < y
    · have q : first (z + 1) ≤ n := by have := first_le (y := z + 1) (z := y) (by omega) (by omega) (by omega); omega
      have kq : decide (first (z + 1) ≤ n) = true := decide_eq_true q
      have q' : Hid (first (z + 1) ≤ n) := q
      clear hz a0 a1 g1 q
      go_wp2_with fail
      refine (HN.out _).mono ?_
      rintro e w' ⟨rfl, rfl⟩
      go_wp2
      go_round
      case rel => exact ⟨z + 1, by omega, by omega, q', rfl⟩
      case measure => simp [intOf]; omega
    · obtain rfl : z = y := by omega
      have kq : decide (first (z + 1) ≤ n) = false := decide_eq_false (by omega)
      clear a0 a1 g0 g1 gp c hz
      go_wp2_with fail
      refine (HN.out _).mono ?_
      rintro e w' ⟨rfl, rfl⟩
      go_wp2
      go_ret
      exact ⟨rfl, rfl⟩
set_option maxHeartbeats 400000 in
theorem rstart (F M y : Int) (f0 : 1 ≤ F) (f1 : F ≤ 7) (m0 : 1 ≤ M) (m1 : M ≤ 7) (y0 : 1 ≤ y) (y1 : y ≤ 10000) (w : World) :
    Calls Tryd.prog 22 #[.agg #[.int .i64 F, .int .i64 M], .int .i64 y] w fun e w' => e = .returned (.int .i64 (wkS F M y)) ∧ Below w.heap.size w w' := by
  obtain ⟨b0, b1⟩ := first_bd y0 y1
  obtain ⟨o0, o1⟩ := wkO_bd F y
  have HN := Lib.hid (fun w => rnew y y0 y1 w)
  have ho : Hid (wkO F y = (first y - 4 - (F - 1)) % 7) := by show _ = _; rfl
  have hR : Hid (wkS F M y = if M ≤ 7 - wkO F y then first y - wkO F y else first y - wkO F y + 7) := by show _ = _; rfl
  generalize wkS F M y = R at *
  generalize first y = f at *
  generalize wkO F y = o at *
  go_enter Tryd.func22, Tryd.ntmps22
  go_wp2_with fail
  refine (HN.out _).mono ?_
  rintro e w1 ⟨rfl, rfl⟩
  go_wp2
  go_loopw [6] (fun a wr => ∃ k : Int, 0 ≤ k ∧ k ≤ o ∧ a = .int .i64 (f - k) ∧ ∃ n, wr = (w.alloc (.cells #[.int .i64 F, .int .i64 M] 23)).drewN n) (fun a _ => (intOf a - (f - o)).toNat)
  case atStart => exact ⟨0, by omega, by omega, by rw [Int.sub_zero], 0, rfl⟩
  case round =>
    obtain ⟨k, k0, k1, rfl, n, rfl⟩ := hrel
    have HW := Lib.hid (fun w => rwday (f - k) (by omega) (by omega) w)
    by_cases c : k = o
    · subst c
      have kq : wdy (f - k) = F := by have := ho.out; unfold wdy; omega
      rw [kq] at HW
      clear kq
      by_cases z : M ≤ 7 - k
      · have kz : M ≤ f - k + 7 - f := by omega
        go_wp2
        go_quiet ((go_at_call 41; first | exact qleft (HW.out _) | exact quiet_add_left (HW.out _)))
        go_wp2
        go_ret
        exact ⟨by rw [hR.out, if_pos z]; rfl, below_drewN (grow (here _) _) _⟩
      · have kz : ¬ M ≤ f - k + 7 - f := by omega
        go_wp2
        go_quiet ((go_at_call 41; first | exact qleft (HW.out _) | exact quiet_add_left (HW.out _)))
        go_wp2
        go_ret
        exact ⟨by rw [hR.out, if_neg (by omega)]; rfl, below_drewN (grow (here _) _) _⟩
    · have kq : (wdy (f - k) != F) = true := by have := ho.out; unfold wdy; simp; omega
      generalize wdy (f - k) = v at *
      go_wp2
      go_quiet ((go_at_call 41; first | exact qleft (HW.out _) | exact quiet_add_left (HW.out _)))
      go_wp2
      go_roundw
      case rel => exact ⟨k + 1, by omega, by omega, by rw [show f - (k + 1) = f - k - 1 by omega], _, rfl⟩
      case measure => simp [intOf]; omega
end Go.Proofs.YtimpaaimdjlhjaaDoor

/- Contracts of the reference's Day, Ordinal, FromOrdinal. -/
import Derived.Test.YtimpaaimdjlhjaaDoorRefX
namespace Go.Proofs.YtimpaaimdjlhjaaDoor
open Go.RowKit
set_option linter.unusedVariables false

theorem rDay_arg (F M Y W D : Int) (hF : I64 F) (hM : I64 M) (h : rulB F M = false) (w : World) :
    Calls Tryd.prog 19 #[.agg #[.int .i64 F, .int .i64 M], .agg #[.int .i64 Y, .int .i64 W, .int .i64 D]] w fun e w' => e = .returned (.tuple #[.int .i64 0, .int .i64 1]) ∧ Below w.heap.size w w' := by
  have HV := fun w => rvalid F M hF hM w
  rw [h] at HV
  replace HV := Lib.hid HV
  clear h
  go_enter Tryd.func19, Tryd.ntmps19
  go_wp2_with fail
  refine (HV.out _).mono ?_
  rintro e w1 ⟨rfl, hb⟩
  have A1 := Lib.hid (down (grow (grow (here w) _) _) hb)
  clear hb
  go_wp2
  go_ret2
  exact ⟨rfl, A1.out⟩
/-- Weeks of any year in range, as the reference counts them. -/
theorem rDay_bad (F M Y W D : Int) (h : rulB F M = true) (hY : I64 Y) (hW : I64 W) (hD : I64 D) (k : 1 ≤ Y → Y ≤ 9999 → ¬ (1 ≤ W ∧ W ≤ wkN F M Y ∧ 1 ≤ D ∧ D ≤ 7)) (w : World) :
    Calls Tryd.prog 19 #[.agg #[.int .i64 F, .int .i64 M], .agg #[.int .i64 Y, .int .i64 W, .int .i64 D]] w fun e w' => e = .returned (.tuple #[.int .i64 0, .int .i64 2]) ∧ Below w.heap.size w w' := by
  obtain ⟨f0, f1, m0, m1⟩ := rulB_iff.1 h
  have HV := fun w => rvalid F M ⟨by omega, by omega⟩ ⟨by omega, by omega⟩ w
  have HN := Lib.hid (fun (y0 : 1 ≤ Y) (y1 : Y ≤ 9999) w => rweeks F M Y f0 f1 m0 m1 y0 y1 w)
  have HB := fun (y0 : 1 ≤ Y) (y1 : Y ≤ 9999) => (wkN_in (F := F) m0 m1 y0 y1).2
  rw [h] at HV
  replace HV := Lib.hid HV
  generalize wkN F M Y = K at *
  obtain ⟨hY0, hY1⟩ := hY
  obtain ⟨hW0, hW1⟩ := hW
  obtain ⟨hD0, hD1⟩ := hD
  clear h f0 f1 m0 m1
  go_enter Tryd.func19, Tryd.ntmps19
  go_wp2_with fail
  refine (HV.out _).mono ?_
  rintro e w1 ⟨rfl, hb⟩
  have A1 := Lib.hid (down (grow (grow (here w) _) _) hb)
  have R1 := Lib.hid (Two.fst hb)
  have B1 := Lib.hid (Box.snd hb)
  clear hb
  have p0 : ∀ x : Kept w1, x.wd.cell? ⟨w.heap.size, 0, none⟩ = some (.int .i64 F) := fun x => (R1.out.keep x.ok).c0
  have p1 : ∀ x : Kept w1, x.wd.cell? ⟨w.heap.size, 1, none⟩ = some (.int .i64 M) := fun x => (R1.out.keep x.ok).c1
  have l0 : ∀ x : Kept w1, x.wd.cell? ⟨w.heap.size + 1, 0, none⟩ = some (.int .i64 Y) := fun x => (B1.out.keep x.ok).c0
  have l1 : ∀ x : Kept w1, x.wd.cell? ⟨w.heap.size + 1, 1, none⟩ = some (.int .i64 W) := fun x => (B1.out.keep x.ok).c1
  have l2 : ∀ x : Kept w1, x.wd.cell? ⟨w.heap.size + 1, 2, none⟩ = some (.int .i64 D) := fun x => (B1.out.keep x.ok).c2
  by_cases a1 : Y < 1
  · have e1 : decide (Y < 1) = true := decide_eq_true a1
    clear k HB HN
    go_wp2
    refine wp_region_kept (by kernel_rfl) (by kernel_rfl) ?_
    repeat (go_big_quiet_step (fail))
    refine wpQuiet_nil ?_
    intro _ hx
    obtain ⟨⟨w3, hb3⟩, hw⟩ := hx
    subst hw
    go_wp2
    go_ret2
    exact ⟨rfl, down A1.out hb3⟩
  · have e1 : decide (Y < 1) = false := decide_eq_false a1
    by_cases a2 : 9999 < Y
    · have e2 : decide (9999 < Y) = true := decide_eq_true a2
      clear k HB HN
      go_wp2
      refine wp_region_kept (by kernel_rfl) (by kernel_rfl) ?_
      repeat (go_big_quiet_step (fail))
      refine wpQuiet_nil ?_
      intro _ hx
      obtain ⟨⟨w3, hb3⟩, hw⟩ := hx
      subst hw
      go_wp2
      go_ret2
      exact ⟨rfl, down A1.out hb3⟩
    · have e2 : decide (9999 < Y) = false := decide_eq_false a2
      replace k := k (by omega) (by omega)
      have KB := HB (by omega) (by omega)
      replace HN := Lib.hid (HN.out (by omega) (by omega))
      clear HB
      have KB0 : 52 ≤ K := by omega
      have KB1 : K ≤ 53 := by omega
      clear KB
      by_cases a3 : W < 1
      · have e3 : decide (W < 1) = true := decide_eq_true a3
        clear k
        go_wp2
        refine wp_region_kept (by kernel_rfl) (by kernel_rfl) ?_
        repeat (go_big_quiet_step (fail))
        refine wpQuiet_nil ?_
        intro _ hx
        obtain ⟨⟨w3, hb3⟩, hw⟩ := hx
        subst hw
        go_wp2
        go_ret2
        exact ⟨rfl, down A1.out hb3⟩
      · have e3 : decide (W < 1) = false := decide_eq_false a3
        by_cases a4 : 60 < W
        · have e4 : decide (60 < W) = true := decide_eq_true a4
          clear k
          go_wp2
          refine wp_region_kept (by kernel_rfl) (by kernel_rfl) ?_
          repeat (go_big_quiet_step (fail))
          refine wpQuiet_nil ?_
          intro _ hx
          obtain ⟨⟨w3, hb3⟩, hw⟩ := hx
          subst hw
          go_wp2
          go_ret2
          exact ⟨rfl, down A1.out hb3⟩
        · have e4 : decide (60 < W) = false := decide_eq_false a4
          by_cases a5 : K < W
          · have e5 : decide (K < W) = true := decide_eq_true a5
            clear k
            go_wp2
            refine wp_region_kept (by kernel_rfl) (by kernel_rfl) ?_
            repeat (go_big_quiet_step ((go_at_call 23; exact kept_call _ (HN.out _))))
            refine wpQuiet_nil ?_
            intro _ hx
            obtain ⟨⟨w3, hb3⟩, hw⟩ := hx
            subst hw
            go_wp2
            go_ret2
            exact ⟨rfl, down A1.out hb3⟩
          · have e5 : decide (K < W) = false := decide_eq_false a5
            by_cases a6 : D < 1
            · have e6 : decide (D < 1) = true := decide_eq_true a6
              clear k
              go_wp2
              refine wp_region_kept (by kernel_rfl) (by kernel_rfl) ?_
              repeat (go_big_quiet_step ((go_at_call 23; exact kept_call _ (HN.out _))))
              refine wpQuiet_nil ?_
              intro _ hx
              obtain ⟨⟨w3, hb3⟩, hw⟩ := hx
              subst hw
              go_wp2
              go_ret2
              exact ⟨rfl, down A1.out hb3⟩
            · have e6 : decide (D < 1) = false := decide_eq_false a6
              have a7 : 7 < D := by omega
              have e7 : decide (7 < D) = true := decide_eq_true a7
              clear k
              go_wp2
              refine wp_region_kept (by kernel_rfl) (by kernel_rfl) ?_
              repeat (go_big_quiet_step ((go_at_call 23; exact kept_call _ (HN.out _))))
              refine wpQuiet_nil ?_
              intro _ hx
              obtain ⟨⟨w3, hb3⟩, hw⟩ := hx
              subst hw
              go_wp2
              go_ret2
              exact ⟨rfl, down A1.out hb3⟩
set_option maxHeartbeats 1000000 in
theorem rDay_yes (F M Y W D : Int) (h : rulB F M = true) (y0 : 1 ≤ Y) (y1 : Y ≤ 9999) (w0 : 1 ≤ W) (w1 : W ≤ wkN F M Y) (d0 : 1 ≤ D) (d1 : D ≤ 7) (i : Bool) (hi : dyB (wkD F M Y W D) = i) (w : World) :
    Calls Tryd.prog 19 #[.agg #[.int .i64 F, .int .i64 M], .agg #[.int .i64 Y, .int .i64 W, .int .i64 D]] w fun e w' => e = .returned (.tuple #[.int .i64 (if i then wkD F M Y W D else 0), .int .i64 (if i then 0 else 2)]) ∧ Below w.heap.size w w' := by
  obtain ⟨f0, f1, m0, m1⟩ := rulB_iff.1 h
  have HV := fun w => rvalid F M ⟨by omega, by omega⟩ ⟨by omega, by omega⟩ w
  have HN := Lib.hid (fun w => rweeks F M Y f0 f1 m0 m1 y0 y1 w)
  have HS := Lib.hid (fun w => rstart F M Y f0 f1 m0 m1 y0 (by omega) w)
  have kb := wkN_in (F := F) m0 m1 y0 y1
  have sb := wkS_bd (F := F) m0 m1 y0 (show Y ≤ 10000 by omega)
  have sm := (wkS_in (F := F) (y := Y) m0 m1).2.2
  have e : wkD F M Y W D = wkS F M Y + 7 * (W - 1) + (D - F) % 7 := rfl
  have q : 0 ≤ (D - F) % 7 ∧ (D - F) % 7 ≤ 6 := by omega
  have ex : Hid ((D - F) % 7 = (D - F) % 7) := by show _ = _; rfl
  obtain ⟨x, hx⟩ : ∃ x, (D - F) % 7 = x := ⟨_, rfl⟩
  have sx : Hid ((wkS F M Y + 4 - F) % 7 = 0 ∧ (D - F) % 7 = x) := by show _ ∧ _; exact ⟨sm, hx⟩
  rw [hx] at e q
  clear ex hx sm
  have HI := fun w => rinside (wkD F M Y W D) ⟨by omega, by omega⟩ w
  rw [hi] at HI
  rw [h] at HV
  generalize wkD F M Y W D = n at *
  generalize wkN F M Y = K at *
  generalize wkS F M Y = s at *
  obtain ⟨q0, q1⟩ := q
  obtain ⟨sb0, sb1⟩ := sb
  have k0 : 0 ≤ K := by omega
  have k1 : K ≤ 53 := by omega
  have en : s + 7 * (W - 1) = n - x := by omega
  have n0 : -800000 ≤ n := by omega
  have n1 : n ≤ 3000000 := by omega
  have o1 : 0 ≤ 7 * (W - 1) := by omega
  have o2 : 7 * (W - 1) ≤ 371 := by omega
  have sx2 : Hid (∀ j : Int, 0 ≤ j → j ≤ x → (wdy (n - x + j) = D ↔ j = x)) := by
    show ∀ j : Int, _
    intro j j0 j1
    have := sx.out
    unfold wdy; omega
  replace HV := Lib.hid HV
  replace HI := Lib.hid HI
  clear h e kb sx hi f0 f1
  have a1 : decide (Y < 1) = false := decide_eq_false (by omega)
  have a2 : decide (9999 < Y) = false := decide_eq_false (by omega)
  have a3 : decide (W < 1) = false := decide_eq_false (by omega)
  have a4 : decide (60 < W) = false := decide_eq_false (by omega)
  have a5 : decide (K < W) = false := decide_eq_false (by omega)
  have a6 : decide (D < 1) = false := decide_eq_false (by omega)
  have a7 : decide (7 < D) = false := decide_eq_false (by omega)
  go_enter Tryd.func19, Tryd.ntmps19
  go_wp2_with fail
  refine (HV.out _).mono ?_
  rintro e w1 ⟨rfl, hb⟩
  have A1 := Lib.hid (down (grow (grow (here w) _) _) hb)
  have R1 := Lib.hid (Two.fst hb)
  have B1 := Lib.hid (Box.snd hb)
  clear hb
  have p0 : ∀ x : Kept w1, x.wd.cell? ⟨w.heap.size, 0, none⟩ = some (.int .i64 F) := fun x => (R1.out.keep x.ok).c0
  have p1 : ∀ x : Kept w1, x.wd.cell? ⟨w.heap.size, 1, none⟩ = some (.int .i64 M) := fun x => (R1.out.keep x.ok).c1
  have l0 : ∀ x : Kept w1, x.wd.cell? ⟨w.heap.size + 1, 0, none⟩ = some (.int .i64 Y) := fun x => (B1.out.keep x.ok).c0
  have l1 : ∀ x : Kept w1, x.wd.cell? ⟨w.heap.size + 1, 1, none⟩ = some (.int .i64 W) := fun x => (B1.out.keep x.ok).c1
  have l2 : ∀ x : Kept w1, x.wd.cell? ⟨w.heap.size + 1, 2, none⟩ = some (.int .i64 D) := fun x => (B1.out.keep x.ok).c2
  go_wp2
  refine wp_region_kept (by kernel_rfl) (by kernel_rfl) ?_
  repeat (go_big_quiet_step ((go_at_call 23; exact kept_call _ (HN.out _))))
  refine wpQuiet_nil ?_
  intro w3 hx
  obtain ⟨⟨x3, hb3⟩, hw⟩ := hx
  replace hw : w3 = x3 := hw
  subst x3
  have A3 := Lib.hid (down A1.out hb3)
  have R3 := Lib.hid (R1.out.keep hb3)
  have B3 := Lib.hid (B1.out.keep hb3)
  clear A1 R1 B1 p0 p1 l0 l1 l2 hb3
  have p0 : ∀ x : Kept w3, x.wd.cell? ⟨w.heap.size, 0, none⟩ = some (.int .i64 F) := fun x => (R3.out.keep x.ok).c0
  have p1 : ∀ x : Kept w3, x.wd.cell? ⟨w.heap.size, 1, none⟩ = some (.int .i64 M) := fun x => (R3.out.keep x.ok).c1
  have l0 : ∀ x : Kept w3, x.wd.cell? ⟨w.heap.size + 1, 0, none⟩ = some (.int .i64 Y) := fun x => (B3.out.keep x.ok).c0
  have l1 : ∀ x : Kept w3, x.wd.cell? ⟨w.heap.size + 1, 1, none⟩ = some (.int .i64 W) := fun x => (B3.out.keep x.ok).c1
  go_wp2
  refine wp_region_kept (by kernel_rfl) (by kernel_rfl) ?_
  repeat (go_big_quiet_step ((go_at_call 22; exact kept_call _ (HS.out _))))
  refine wpQuiet_nil ?_
  intro w4 hx
  obtain ⟨⟨x4, hb4⟩, hw⟩ := hx
  replace hw : w4 = x4 := hw
  subst x4
  have A4 := Lib.hid (down A3.out hb4)
  have B4 := Lib.hid (B3.out.keep hb4)
  clear A3 R3 B3 p0 p1 l0 l1 hb4
  go_wp2
  go_loopw [6] (fun a wr => ∃ j : Int, 0 ≤ j ∧ j ≤ x ∧ a = .int .i64 (n - x + j) ∧ ∃ m, wr = w4.drewN m) (fun a _ => (n - intOf a).toNat)
  case atStart => exact ⟨0, by omega, by omega, by rw [Int.add_zero, ← en], 0, rfl⟩
  case round =>
    obtain ⟨j, j0, j1, rfl, m, rfl⟩ := hrel
    have HW := Lib.hid (fun w => rwday (n - x + j) (by omega) (by omega) w)
    obtain ⟨c0, c1, c2, z⟩ := B4.out
    by_cases c : j = x
    · subst c
      have kq := (sx2.out j j0 j1).2 rfl
      rw [kq] at HW
      clear kq
      rw [show n - j + j = n by omega] at HW ⊢
      cases i
      all_goals
        go_wp2
        go_quiet ((go_at_call 41; first | exact qleft (HW.out _) | exact quiet_add_left (HW.out _)))
        go_wp2_with fail
        refine (HI.out _).mono ?_
        rintro e w7 ⟨rfl, rfl⟩
        go_wp2
        go_ret2
        exact ⟨rfl, below_drewN A4.out _⟩
    · have kq : (wdy (n - x + j) != D) = true := by
        have := (sx2.out j j0 j1)
        simp only [bne_iff_ne, ne_eq, this]; exact c
      generalize wdy (n - x + j) = v at *
      go_wp2
      go_quiet ((go_at_call 41; first | exact qleft (HW.out _) | exact quiet_add_left (HW.out _)))
      go_wp2
      go_roundw
      case rel => exact ⟨j + 1, by omega, by omega, by rw [show n - x + (j + 1) = n - x + j + 1 by omega], _, rfl⟩
      case measure => simp [intOf]; omega
theorem rOrd_no (n : Int) (hn : I64 n) (k : dyB n = false) (w : World) :
    Calls Tryd.prog 29 #[.int .i64 n] w fun e w' => e = .returned (.tuple #[.int .i64 0, .int .i64 0, .int .i64 2]) ∧ w = w' := by
  have HI := fun w => rinside n hn w
  rw [k] at HI
  replace HI := Lib.hid HI
  clear k
  go_enter Tryd.func29, Tryd.ntmps29
  go_wp2_with fail
  refine (HI.out _).mono ?_
  rintro e w2 ⟨rfl, rfl⟩
  go_wp2
  go_ret3
  exact ⟨rfl, rfl⟩
theorem rOrd_yes (n y : Int) (y0 : 1 ≤ y) (y1 : y ≤ 9999) (a0 : first y ≤ n) (a1 : n < first (y + 1)) (w : World) :
    Calls Tryd.prog 29 #[.int .i64 n] w fun e w' => e = .returned (.tuple #[.int .i64 y, .int .i64 (n - first y + 1), .int .i64 0]) ∧ w = w' := by
  have b := first_bd y0 (show y ≤ 10000 by omega)
  have b' := first_bd (show 1 ≤ y + 1 by omega) (show y + 1 ≤ 10000 by omega)
  have HI := fun w => rinside n ⟨by omega, by omega⟩ w
  rw [dyB_iff.2 ⟨by omega, by omega⟩] at HI
  have HY := Lib.hid (fun w => ryear n y y0 y1 a0 a1 w)
  have HN := Lib.hid (fun w => rnew y y0 (by omega) w)
  replace HI := Lib.hid HI
  generalize first y = f at *
  generalize first (y + 1) = g at *
  obtain ⟨b0, b1⟩ := b
  obtain ⟨b2, b3⟩ := b'
  go_enter Tryd.func29, Tryd.ntmps29
  go_wp2_with fail
  refine (HI.out _).mono ?_
  rintro e w2 ⟨rfl, rfl⟩
  go_wp2_with fail
  refine (HY.out _).mono ?_
  rintro e w2 ⟨rfl, rfl⟩
  go_wp2_with fail
  refine (HN.out _).mono ?_
  rintro e w2 ⟨rfl, rfl⟩
  go_wp2
  go_ret3
  exact ⟨rfl, rfl⟩
theorem rFrom_no (y n : Int) (hy : I64 y) (hn : I64 n) (k : y < 1 ∨ 9999 < y ∨ n < 1 ∨ 366 < n) (w : World) :
    Calls Tryd.prog 31 #[.int .i64 y, .int .i64 n] w fun e w' => e = .returned (.tuple #[.int .i64 0, .int .i64 2]) ∧ w = w' := by
  obtain ⟨h0, h1⟩ := hy
  obtain ⟨h2, h3⟩ := hn
  obtain ⟨a, ha⟩ : ∃ a, decide (y < 1) = a := ⟨_, rfl⟩
  obtain ⟨b, hb⟩ : ∃ a, decide (9999 < y) = a := ⟨_, rfl⟩
  obtain ⟨c, hc⟩ : ∃ a, decide (n < 1) = a := ⟨_, rfl⟩
  obtain ⟨d, hd⟩ : ∃ a, decide (366 < n) = a := ⟨_, rfl⟩
  have t : (a || b || c || d) = true := by
    subst ha; subst hb; subst hc; subst hd; simp only [Bool.or_eq_true, decide_eq_true_eq]; omega
  clear k
  cases a <;> cases b <;> cases c <;> cases d <;> (try cases t)
  all_goals
    go_enter Tryd.func31, Tryd.ntmps31
    go_wp2
    go_ret2
    exact ⟨rfl, rfl⟩
theorem rFrom_in (y n : Int) (y0 : 1 ≤ y) (y1 : y ≤ 9999) (n0 : 1 ≤ n) (n1 : n ≤ 366) (i : Bool) (hi : decide (first y + n ≤ first (y + 1)) = i) (w : World) :
    Calls Tryd.prog 31 #[.int .i64 y, .int .i64 n] w fun e w' => e = .returned (.tuple #[.int .i64 (if i then first y + n - 1 else 0), .int .i64 (if i then 0 else 2)]) ∧ w = w' := by
  have b := first_bd y0 (show y ≤ 10000 by omega)
  have b' := first_bd (show 1 ≤ y + 1 by omega) (show y + 1 ≤ 10000 by omega)
  have HN := Lib.hid (fun w => rnew y y0 (by omega) w)
  have HM := Lib.hid (fun w => rnew (y + 1) (by omega) (by omega) w)
  generalize first y = f at *
  generalize first (y + 1) = g at *
  obtain ⟨b0, b1⟩ := b
  obtain ⟨b2, b3⟩ := b'
  have k : decide (g < f + n) = !i := by rw [← hi, ← decide_not]; exact decide_eq_decide.2 (by omega)
  clear hi
  cases i
  · go_enter Tryd.func31, Tryd.ntmps31
    go_wp2_with fail
    refine (HN.out _).mono ?_
    rintro e w2 ⟨rfl, rfl⟩
    go_wp2_with fail
    refine (HM.out _).mono ?_
    rintro e w2 ⟨rfl, rfl⟩
    go_wp2
    go_ret2
    exact ⟨rfl, rfl⟩
  · go_enter Tryd.func31, Tryd.ntmps31
    go_wp2_with fail
    refine (HN.out _).mono ?_
    rintro e w2 ⟨rfl, rfl⟩
    go_wp2_with fail
    refine (HM.out _).mono ?_
    rintro e w2 ⟨rfl, rfl⟩
    go_wp2_with fail
    refine (HN.out _).mono ?_
    rintro e w2 ⟨rfl, rfl⟩
    go_wp2
    go_ret2
    exact ⟨rfl, rfl⟩
end Go.Proofs.YtimpaaimdjlhjaaDoor

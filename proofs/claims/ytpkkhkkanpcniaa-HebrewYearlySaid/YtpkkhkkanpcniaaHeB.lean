/- Contracts of civiltimeref07: at behind the last year; Date. -/
import Derived.Test.YtpkkhkkanpcniaaHeA
namespace Go.Proofs.Ytpkkhkkanpcniaa
open Go.RowKit
set_option linter.unusedVariables false

theorem hyr_20001 : hyr 20001 = false := by decide
theorem hlenM_out {m : Int} : hlenM 20001 m = 0 := by
  unfold hlenM; rw [hmn_out hyr_20001, if_pos (by omega)]
set_option maxHeartbeats 4000000 in
set_option maxRecDepth 100000 in
theorem rhat_out (n : Int) (n0 : 5212335 ≤ n) (n1 : n ≤ 5212400) (w : World) :
    Calls Try.prog 56 #[.int .i64 n] w fun e w' => e = .returned (.agg #[.int .i64 0, .int .i64 0, .int .i64 0]) ∧ Below w.heap.size w w' := by
  obtain ⟨Y, hY⟩ : ∃ Y : Int, Y = 20001 := ⟨_, rfl⟩
  have Y0 : 1 ≤ Y := by omega
  have Y1 : Y ≤ 20001 := by omega
  have HN := Lib.hid (fun y (y0 : 1 ≤ y) (y1 : y ≤ 20010) w => rhN y (by omega) (by omega) w)
  have HB : Hid (∀ y : Int, 1 ≤ y → y ≤ 20010 → -2110000 ≤ hN y ∧ hN y ≤ 40000000) := fun y y0 y1 => hN_any (by omega) (by omega)
  have HLE : Hid (∀ y : Int, Y + 1 ≤ y → n < hN y) := fun y hy => by
    have := hN_le (y := 20001) (z := y) (by omega)
    rw [hN_last] at this; omega
  have HGE : Hid (∀ y : Int, y ≤ Y → hN y ≤ n) := fun y hy => by
    have := hN_le (y := y) (z := 20001) (by omega)
    rw [hN_last] at this; omega
  have HO := fun w => rhord_out Y ⟨by omega, by omega⟩ (by rw [hY]; exact hyr_20001) w
  have HL := fun m (m0 : 1 ≤ m) (m1 : m ≤ 13) w => rhlen Y m ⟨by omega, by omega⟩ ⟨by omega, by omega⟩ w
  have HZ : Hid (∀ i : Nat, i < 6 → ([1, 2, 3, 4, 5, 6] : List Int).getD i 0 = 1 + (i : Int)) := by
    show ∀ i : Nat, _
    have q : ∀ i : Fin 6, ([1, 2, 3, 4, 5, 6] : List Int).getD (i : Nat) 0 = 1 + ((i : Nat) : Int) := by decide
    exact fun i hi => q ⟨i, hi⟩
  rw [hY] at HL
  simp only [hlenM_out] at HL
  rw [← hY] at HL
  replace HL := Lib.hid HL
  replace HO := Lib.hid HO
  have eY : Hid (hN Y = 5212335) := by show _ = _; rw [hY]; exact hN_last
  have HF := fun w => rhfloor (n - -2092590) 366 ⟨by omega, by omega⟩ (by omega) (by omega) w
  obtain ⟨q, hq⟩ : ∃ q, (n - -2092590) / 366 = q := ⟨_, rfl⟩
  have qb : 0 ≤ q ∧ q ≤ 19990 := by omega
  rw [hq] at HF
  replace HF := Lib.hid HF
  obtain ⟨a0, ha0⟩ : ∃ a0, (if 1 < q then q else 1) = a0 := ⟨_, rfl⟩
  have ab : 1 ≤ a0 ∧ a0 ≤ 19990 := by split at ha0 <;> omega
  obtain ⟨ab0, ab1⟩ := ab
  obtain ⟨qb0, qb1⟩ := qb
  clear hq hY
  obtain ⟨R, hR⟩ : ∃ R : World, w.alloc (.cells #[.int .i64 0, .int .i64 0, .int .i64 0] 35) = R := ⟨_, rfl⟩
  have AR : Hid (Below w.heap.size w R) := by rw [← hR]; exact grow (here w) _
  have BR : Hid (Box R w.heap.size (.int .i64 0) (.int .i64 0) (.int .i64 0)) := by rw [← hR]; exact Box.new (here _)
  have FR : Hid (Free R w.heap.size) := by rw [← hR]; exact Free.new (here _)
  go_enter Try.func56, Try.ntmps56
  go_wp2_with fail
  refine (HF.out _).mono ?_
  rintro e w1 ⟨rfl, rfl⟩
  go_wp2
  clear HF hR ha0
  go_loop [3] (fun a => ∃ y : Int, 1 ≤ y ∧ y ≤ 20001 ∧ a = .int .i64 y) (fun a => (intOf a).toNat)
  case atStart => exact ⟨a0, ab0, by omega, rfl⟩
  case round =>
    obtain ⟨y, y0, y1, rfl⟩ := hrel
    have HNy := Lib.hid (fun w => HN.out y y0 (by omega) w)
    have nb := HB.out y y0 (by omega)
    obtain ⟨nb0, nb1⟩ := nb
    have alt : decide (1 < y) = true ∧ decide (n < hN y) = true ∧ 1 < y ∨ y ≤ Y ∧ (decide (1 < y) = false ∨ decide (1 < y) = true ∧ decide (n < hN y) = false) := by
      by_cases z : 1 < y
      · by_cases z' : n < hN y
        · exact .inl ⟨decide_eq_true z, decide_eq_true z', z⟩
        · right
          refine ⟨?_, .inr ⟨decide_eq_true z, decide_eq_false z'⟩⟩
          rcases Int.lt_or_le Y y with u | u
          · exact absurd (HLE.out y u) z'
          · exact u
      · exact .inr ⟨by omega, .inl (decide_eq_false z)⟩
    rcases alt with ⟨c1, c2, z⟩ | ⟨yY, c1 | ⟨c1, c2⟩⟩
    · clear HN HB HLE HGE HO HL HZ
      generalize hN y = x at *
      go_wp2_with fail
      refine (HNy.out _).mono ?_
      rintro e w2 ⟨rfl, rfl⟩
      go_wp2
      go_round
      case rel => exact ⟨y - 1, by omega, by omega, rfl⟩
      case measure => simp [intOf]; omega
    all_goals
      generalize hN y = x at *
      first
        | (go_wp2_with fail
           refine (HNy.out _).mono ?_
           rintro e w2 ⟨rfl, rfl⟩
           go_wp2)
        | go_wp2
      clear HNy
      try clear c2
      clear c1 nb0 nb1
      try clear x
      go_loop [3] (fun a => ∃ y : Int, 1 ≤ y ∧ y ≤ Y ∧ a = .int .i64 y) (fun a => (Y - intOf a).toNat)
      case atStart => exact ⟨y, y0, yY, rfl⟩
      case round =>
        obtain ⟨u, u0, u1, rfl⟩ := hrel
        have HNu := Lib.hid (fun w => HN.out (u + 1) (by omega) (by omega) w)
        have nu := HB.out (u + 1) (by omega) (by omega)
        obtain ⟨nu0, nu1⟩ := nu
        by_cases z : u < Y
        · have c3 : decide (hN (u + 1) ≤ n) = true := decide_eq_true (HGE.out (u + 1) (by omega))
          clear HN HB HLE HGE HO HL HZ
          generalize hN (u + 1) = x at *
          go_wp2_with fail
          refine (HNu.out _).mono ?_
          rintro e w2 ⟨rfl, rfl⟩
          go_wp2
          go_round
          case rel => exact ⟨u + 1, by omega, by omega, rfl⟩
          case measure => simp [intOf]; omega
        · obtain rfl : u = Y := by omega
          have c3 : decide (hN (u + 1) ≤ n) = false := decide_eq_false (by have := HLE.out (u + 1) (by omega); omega)
          have HNY := Lib.hid (fun w => HN.out u (by omega) (by omega) w)
          have nY := HB.out u (by omega) (by omega)
          obtain ⟨nY0, nY1⟩ := nY
          have eB := eY.out
          clear HN HB HLE HGE eY
          generalize hN (u + 1) = x at *
          generalize hN u = B at *
          go_wp2_with fail
          refine (HNu.out _).mono ?_
          rintro e w2 ⟨rfl, rfl⟩
          clear HNu
          go_wp2_with fail
          refine (HO.out _).mono ?_
          rintro e w1 ⟨⟨vv, rfl, hI⟩, hb⟩
          rcases hI with ⟨hz, -⟩ | ⟨b, off, cp, rfl, -, lies⟩
          · exact absurd hz (by decide)
          rw [show ([1, 2, 3, 4, 5, 6] : List Int).length = 6 from rfl]
          have C1 : Hid (∀ j, j < 6 → w1.cell? ⟨b, off + j, none⟩ = some (.int .i64 (1 + (j : Int)))) := fun j hj => by rw [← HZ.out j hj]; exact ints_at lies j hj
          have A1 := Lib.hid hb
          clear lies hb HO c3 nu0 nu1 HZ
          go_wp2_with fail
          refine (HNY.out _).mono ?_
          rintro e w2 ⟨rfl, rfl⟩
          clear HNY
          obtain ⟨N, hN⟩ : ∃ N, n - B = N := ⟨_, rfl⟩
          have Nb : 0 ≤ N ∧ N ≤ 500 := by omega
          obtain ⟨Nb0, Nb1⟩ := Nb
          clear eB
          go_wp2
          clear hN
          go_loop [5, 6] (fun a b => ∃ i : Nat, i ≤ 6 ∧ a = .int .i64 N ∧ b = .int .i64 i) (fun _ b => (100 - intOf b).toNat)
          case atStart => exact ⟨0, Nat.zero_le _, rfl, rfl⟩
          case round =>
            obtain ⟨i, hi, rfl, rfl⟩ := hrel
            by_cases z2 : i < 6
            · have kz : decide ((i : Int) < (6 : Int)) = true := decide_eq_true (by omega)
              have d1 := C1.out i z2
              have HLx := Lib.hid (fun w => HL.out (1 + (i : Int)) (by omega) (by omega) w)
              have c4 : decide (N < 0) = false := decide_eq_false (by omega)
              clear HL C1
              go_wp2_with fail
              refine (HLx.out _).mono ?_
              rintro e w2 ⟨rfl, rfl⟩
              go_wp2
              go_round
              case rel => exact ⟨i + 1, z2, by first | rfl | (congr 1; omega), by go_num⟩
              case measure => simp [intOf]; omega
            · obtain rfl : i = 6 := by omega
              have B4 := Lib.hid (BR.out.keep A1.out)
              have F4 := Lib.hid (FR.out.keep BR.out.lt A1.out)
              have Z4 := Lib.hid (down AR.out A1.out)
              clear C1 HL
              obtain ⟨b0, b1, b2, bz⟩ := B4.out
              obtain ⟨f0, f1, f2⟩ := F4.out
              go_wp2
              obtain ⟨w9, hw9⟩ : ∃ w9 : World, (((w1.setCell ⟨w.heap.size, 0, none⟩ (.int .i64 0)).setCell ⟨w.heap.size, 1, none⟩ (.int .i64 0)).setCell ⟨w.heap.size, 2, none⟩ (.int .i64 0)) = w9 := ⟨_, rfl⟩
              have B9 : Box w9 w.heap.size (.int .i64 0) (.int .i64 0) (.int .i64 0) := by rw [← hw9]; exact ((B4.out.put0 _).put1 _).put2 _
              have A9 : Below w.heap.size w w9 := by rw [← hw9]; exact ((Z4.out.setCell (Nat.le_refl _) _).setCell (Nat.le_refl _) _).setCell (Nat.le_refl _) _
              obtain ⟨e0, e1, e2, -⟩ := B9
              rw [hw9]
              exact bodyPost_ret (v := .agg #[.int .i64 0, .int .i64 0, .int .i64 0]) (by simp [results, Try.results56, go_sem, e0, e1, e2]) rfl ⟨rfl, A9⟩
set_option maxHeartbeats 1000000 in
theorem rhdate_out (n : Int) (hn : I64 n) (h : hins n = false) (w : World) :
    Calls Try.prog 33 #[.int .i64 n] w fun e w' => e = .returned (.tuple #[.agg #[.int .i64 0, .int .i64 0, .int .i64 0], .int .i64 2]) ∧ Below w.heap.size w w' := by
  have HI := fun w => rhin n hn w
  rw [show decide (-719162 ≤ n ∧ n < 2932897) = false from h] at HI
  replace HI := Lib.hid HI
  clear h
  go_enter Try.func33, Try.ntmps33
  go_wp2_with fail
  refine (HI.out _).mono ?_
  rintro e w1 ⟨rfl, rfl⟩
  go_wp2
  exact bodyPost_ret (v := .tuple #[.agg #[.int .i64 0, .int .i64 0, .int .i64 0], .int .i64 2]) (by simp [results, Try.results33, go_sem]) rfl ⟨rfl, grow (here w) _⟩
set_option maxHeartbeats 1000000 in
theorem rhdate_yes (n Y M D : Int) (h : hins n = true) (hv : hvld Y M D = true) (hn : hday Y M D = n) (w : World) :
    Calls Try.prog 33 #[.int .i64 n] w fun e w' => e = .returned (.tuple #[.agg #[.int .i64 Y, .int .i64 M, .int .i64 D], .int .i64 0]) ∧ Below w.heap.size w w' := by
  obtain ⟨n0, n1⟩ := hins_iff.1 h
  have HI := fun w => rhin n ⟨by omega, by omega⟩ w
  rw [show decide (-719162 ≤ n ∧ n < 2932897) = true from h] at HI
  replace HI := Lib.hid HI
  have HA := Lib.hid (fun w => rhat n Y M D hv hn w)
  clear h hv hn
  obtain ⟨R, hR⟩ : ∃ R : World, w.alloc (.cells #[.int .i64 0, .int .i64 0, .int .i64 0] 35) = R := ⟨_, rfl⟩
  have AR : Hid (Below w.heap.size w R) := by rw [← hR]; exact grow (here w) _
  have BR : Hid (Box R w.heap.size (.int .i64 0) (.int .i64 0) (.int .i64 0)) := by rw [← hR]; exact Box.new (here _)
  have FR : Hid (Free R w.heap.size) := by rw [← hR]; exact Free.new (here _)
  go_enter Try.func33, Try.ntmps33
  go_wp2_with fail
  refine (HI.out _).mono ?_
  rintro e w1 ⟨rfl, rfl⟩
  go_wp2_with fail
  refine (HA.out _).mono ?_
  rintro e w4 ⟨rfl, hb⟩
  have B4 := Lib.hid (BR.out.keep hb)
  have F4 := Lib.hid (FR.out.keep BR.out.lt hb)
  have Z4 := Lib.hid (down AR.out hb)
  clear hb
  obtain ⟨b0, b1, b2, bz⟩ := B4.out
  obtain ⟨f0, f1, f2⟩ := F4.out
  go_wp2
  obtain ⟨w9, hw9⟩ : ∃ w9 : World, (((w4.setCell ⟨w.heap.size, 0, none⟩ (.int .i64 Y)).setCell ⟨w.heap.size, 1, none⟩ (.int .i64 M)).setCell ⟨w.heap.size, 2, none⟩ (.int .i64 D)) = w9 := ⟨_, rfl⟩
  have B9 : Box w9 w.heap.size (.int .i64 Y) (.int .i64 M) (.int .i64 D) := by rw [← hw9]; exact ((B4.out.put0 _).put1 _).put2 _
  have A9 : Below w.heap.size w w9 := by rw [← hw9]; exact ((Z4.out.setCell (Nat.le_refl _) _).setCell (Nat.le_refl _) _).setCell (Nat.le_refl _) _
  obtain ⟨e0, e1, e2, -⟩ := B9
  rw [hw9]
  exact bodyPost_ret (v := .tuple #[.agg #[.int .i64 Y, .int .i64 M, .int .i64 D], .int .i64 0]) (by simp [results, Try.results33, go_sem, e0, e1, e2]) rfl ⟨rfl, A9⟩
end Go.Proofs.Ytpkkhkkanpcniaa

/- Contracts of civiltimeref05: first, Fields, Offset. -/
import Derived.Test.YtdhmmfdpfpecmaaDoorJuS
import Derived.Test.YtdhmmfdpfpecmaaDoorJuT
import Derived.Test.YtdhmmfdpfpecmaaDoorLRefI
namespace Go.Proofs.YtdhmmfdpfpecmaaDoor
open Go.RowKit
set_option linter.unusedVariables false

theorem rjfirst (y : Int) (y0 : 1 ≤ y) (y1 : y ≤ 9999) (w : World) :
    Calls Tryd.prog 51 #[.int .i64 y] w fun e w' => e = .returned (.int .i64 (first y)) ∧ Below w.heap.size w w' := by
  have h := day_first y0 y1
  have HG := fun w => rjgreg_yes y 1 1 h.1 w
  rw [h.2] at HG
  replace HG := Lib.hid HG
  clear h
  generalize first y = f at *
  go_enter Tryd.func51, Tryd.ntmps51
  go_wp2_with fail
  refine (HG.out _).mono ?_
  rintro e w1 ⟨rfl, hb⟩
  go_wp2
  go_ret
  exact ⟨rfl, hb⟩
theorem day_one {y m : Int} (y0 : 1 ≤ y) (y1 : y ≤ 9999) (m0 : 1 ≤ m) (m1 : m ≤ 12) : vld y m 1 = true ∧ dayN y m 1 = first y + cum y m := by
  have := lenM_in y0 y1 m0 m1
  exact ⟨vld_iff.2 ⟨by omega, by omega⟩, by unfold dayN; omega⟩
set_option maxHeartbeats 400000 in
theorem rjfields (n y m d : Int) (h : vld y m d = true) (hn : dayN y m d = n) (w : World) :
    Calls Tryd.prog 46 #[.int .i64 n] w fun e w' => e = .returned (.agg #[.int .i64 y, .int .i64 m, .int .i64 d]) ∧ Below w.heap.size w w' := by
  obtain ⟨y0, y1, m0, m1, d0, d1⟩ := vld_bd h
  have hv := vld_iff.1 h
  obtain ⟨r0, r1⟩ := day_range h
  obtain ⟨a0, a1, a2⟩ := day_in h
  rw [hn] at r0 r1 a0 a1 a2
  obtain ⟨Y, M, D, HJ, hj⟩ := jdate_of (n := n) (by omega) (by omega)
  obtain ⟨Y0, Y1, -⟩ := jvld_bd HJ
  have hD := Lib.hid (fun w => rjdate_yes n Y M D HJ hj r0 r1 w)
  have near : y ≤ Y + 1 := by
    have b := jday_in HJ
    rw [hj] at b
    have c := near_year Y0 Y1 b.2.1
    rcases Int.lt_or_le y (Y + 2) with z | z
    · omega
    · have := first_le (y := Y + 2) (z := y) (by omega) z (by omega); omega
  clear HJ hj h hn
  have hdec : ∀ z, y < z → z ≤ 9999 → decide (n < first z) = true := fun z z0 z1 => decide_eq_true (by have := first_le (y := y + 1) (z := z) (by omega) (by omega) (by omega); omega)
  have hdec0 : decide (n < first y) = false := decide_eq_false (by omega)
  replace hdec := Lib.hid hdec
  have hmon : ∀ z, m < z → z ≤ 12 → decide (first y + cum y z ≤ n) = false := fun z z0 z1 => decide_eq_false (by
    have s := cum_succ y0 y1 m0 m1
    have mo := cum_mono y0 y1 (z - (m + 1)).toNat (m + 1) (by omega) (by omega)
    rw [show m + 1 + ((z - (m + 1)).toNat : Int) = z by omega] at mo
    omega)
  have hmon0 : decide (first y + cum y m ≤ n) = true := decide_eq_true (by omega)
  have hres : n - (first y + cum y m) + 1 = d := by omega
  have fb : ∀ z, 1 ≤ z → z ≤ 13 → 0 ≤ cum y z ∧ cum y z ≤ 366 := fun z z0 z1 => cum_bd y0 y1 z0 z1
  have fy := first_bd y0 y1
  replace hmon := Lib.hid hmon
  replace hmon0 := Lib.hid hmon0
  replace hres := Lib.hid hres
  replace fb := Lib.hid fb
  replace fy := Lib.hid fy
  replace hdec0 := Lib.hid hdec0
  clear a0 a1 a2 hv
  go_enter Tryd.func46, Tryd.ntmps46
  go_wp2_with fail
  refine (hD.out _).mono ?_
  rintro e w1 ⟨rfl, hb⟩
  have A1 := Lib.hid (down (grow (here w) _) hb)
  have B1 := Lib.hid (Box.new hb)
  have F1 := Lib.hid (Free.new hb)
  clear hb
  go_wp2
  have A2 := Lib.hid (grow A1.out (Obj.cells #[Value.int IntKind.i64 Y, Value.int IntKind.i64 M, Value.int IntKind.i64 D] 23))
  have B2 := Lib.hid (B1.out.old (Obj.cells #[Value.int IntKind.i64 Y, Value.int IntKind.i64 M, Value.int IntKind.i64 D] 23))
  have F2 := Lib.hid (F1.out.keep B1.out.lt (grow (here w1) (Obj.cells #[Value.int IntKind.i64 Y, Value.int IntKind.i64 M, Value.int IntKind.i64 D] 23)))
  clear A1 B1 F1
  go_loopw [5] (fun a wr => ∃ z : Int, y ≤ z ∧ z ≤ 10000 ∧ a = .int .i64 z ∧ Hid (Below w.heap.size w wr) ∧ Hid (Box wr w.heap.size (.int .i64 0) (.int .i64 0) (.int .i64 0)) ∧ Hid (Free wr w.heap.size)) (fun a _ => (intOf a - y).toNat)
  case atStart => exact ⟨Y + 1, near, by omega, rfl, A2, B2, F2⟩
  case round =>
    obtain ⟨z, z0, z1, rfl, A4, B4, F4⟩ := hrel
    clear A2 B2 F2
    by_cases c : z = 10000
    · subst c
      clear z1
      go_wp2
      go_roundw
      case rel => exact ⟨9999, by omega, by omega, rfl, A4, B4, F4⟩
      case measure => simp [intOf]; omega
    · have c9 : decide (9999 < z) = false := decide_eq_false (by omega)
      have HF := Lib.hid (fun w => rjfirst z (by omega) (by omega) w)
      by_cases q : y < z
      · have kq := hdec.out z q (by omega)
        clear c
        generalize first z = f at *
        go_wp2_with fail
        refine (HF.out _).mono ?_
        rintro e w5 ⟨rfl, hb⟩
        have A5 := Lib.hid (down A4.out hb)
        have B5 := Lib.hid (B4.out.keep hb)
        have F5 := Lib.hid (F4.out.keep B4.out.lt hb)
        clear hb
        go_wp2
        go_roundw
        case rel => exact ⟨z - 1, by omega, by omega, rfl, A5, B5, F5⟩
        case measure => simp [intOf]; omega
      · obtain rfl : z = y := by omega
        have kq := hdec0.out
        have fz0 := fy.out.1
        have fz1 := fy.out.2
        clear c q hdec hdec0 z0 z1 near
        have HG : Hid (∀ i, 1 ≤ i → i ≤ 12 → ∀ w, Calls Tryd.prog 49 #[.agg #[.int .i64 z, .int .i64 i, .int .i64 1]] w fun e w' => e = .returned (.tuple #[.int .i64 (first z + cum z i), .bool true]) ∧ Below w.heap.size w w') := fun i i0 i1 w => by
          have h := day_one (y := z) (m := i) y0 y1 i0 i1
          have q := rjgreg_yes z i 1 h.1 w
          rw [h.2] at q
          exact q
        clear fy
        generalize first z = f at *
        go_wp2_with fail
        refine (HF.out _).mono ?_
        rintro e w5 ⟨rfl, hb⟩
        have A5 := Lib.hid (down A4.out hb)
        have B5 := Lib.hid (B4.out.keep hb)
        have F5 := Lib.hid (F4.out.keep B4.out.lt hb)
        clear hb HF A4 B4 F4
        go_wp2
        clear kq
        go_loopw [6] (fun a wr => ∃ i : Int, m ≤ i ∧ i ≤ 12 ∧ a = .int .i64 i ∧ Hid (Below w.heap.size w wr) ∧ Hid (Box wr w.heap.size (.int .i64 0) (.int .i64 0) (.int .i64 0)) ∧ Hid (Free wr w.heap.size)) (fun a _ => (intOf a - m).toNat)
        case atStart => exact ⟨12, m1, by omega, rfl, A5, B5, F5⟩
        case round =>
          obtain ⟨i, i0, i1, rfl, A6, B6, F6⟩ := hrel
          clear A5 B5 F5
          have HGi := Lib.hid (HG.out i (by omega) i1)
          have fi := fb.out i (by omega) (by omega)
          by_cases c : m < i
          · have kq := hmon.out i c i1
            generalize f + cum z i = V at *
            go_wp2_with fail
            refine (HGi.out _).mono ?_
            rintro e w7 ⟨rfl, hb⟩
            have A7 := Lib.hid (down A6.out hb)
            have B7 := Lib.hid (B6.out.keep hb)
            have F7 := Lib.hid (F6.out.keep B6.out.lt hb)
            clear hb
            go_wp2
            go_roundw
            case rel => exact ⟨i - 1, by omega, by omega, rfl, A7, B7, F7⟩
            case measure => simp [intOf]; omega
          · obtain rfl : i = m := by omega
            have kq := hmon0.out
            have hr := hres.out
            have vb : -719162 ≤ f + cum z i ∧ f + cum z i ≤ 2933400 := by omega
            clear c hmon hmon0 hres fb fi
            generalize f + cum z i = V at *
            obtain ⟨vb0, vb1⟩ := vb
            go_wp2_with fail
            refine (HGi.out _).mono ?_
            rintro e w7 ⟨rfl, hb⟩
            have A7 := Lib.hid (down A6.out hb)
            have B7 := Lib.hid (B6.out.keep hb)
            have F7 := Lib.hid (F6.out.keep B6.out.lt hb)
            clear hb A6 B6 F6
            obtain ⟨c0, c1, c2, zz⟩ := B7.out
            obtain ⟨e0, e1, e2⟩ := F7.out
            go_wp2
            exact bodyPost_ret (v := .agg #[.int .i64 z, .int .i64 i, .int .i64 d]) (by simp [results, Tryd.results46, go_sem, c0, c1, c2]) rfl ⟨rfl, ((A7.out.setCell (Nat.le_refl _) _).setCell (Nat.le_refl _) _).setCell (Nat.le_refl _) _⟩
end Go.Proofs.YtdhmmfdpfpecmaaDoor

/- Contracts of the reference's Day and Date. -/
import Derived.Test.YtdhedkcbkchpgaaDoorRefB
import Derived.Deep.RegionWith
import Derived.Laws.BitsLemmas
namespace Go.Proofs.YtdhedkcbkchpgaaDoor
open Go.RowKit
set_option linter.unusedVariables false

theorem refday_no (y m d : Int) (hy : I64 y) (hm : I64 m) (hd : I64 d) (h : vld y m d = false) (w : World) :
    Calls Tryd.prog 26 #[.agg #[.int .i64 y, .int .i64 m, .int .i64 d]] w fun e w' => e = .returned (.tuple #[.int .i64 0, .int .i64 1]) ∧ Below w.heap.size w w' := by
  have HV := fun w => refvalid y m d hy hm hd w
  rw [h] at HV
  replace HV := Lib.hid HV
  go_enter Tryd.func26, Tryd.ntmps26
  go_wp2_with fail
  refine (HV.out _).mono ?_
  rintro e w1 ⟨rfl, hb⟩
  have hb2 := box_below hb
  obtain ⟨c0, c1, c2⟩ := box_cells hb
  go_wp2
  go_ret2
  exact ⟨rfl, hb2⟩
set_option maxHeartbeats 400000 in
theorem refday_yes (y m d : Int) (h : vld y m d = true) (w : World) :
    Calls Tryd.prog 26 #[.agg #[.int .i64 y, .int .i64 m, .int .i64 d]] w fun e w' => e = .returned (.tuple #[.int .i64 (dayN y m d), .int .i64 0]) ∧ Below w.heap.size w w' := by
  obtain ⟨y0, y1, m0, m1, d0, d1⟩ := vld_bd h
  have HV := fun w => refvalid y m d ⟨by omega, by omega⟩ ⟨by omega, by omega⟩ ⟨by omega, by omega⟩ w
  have HY := Lib.hid (fun w => refyearday_yes y m d h w)
  have HF := Lib.hid (fun w => reffirst y y0 (by omega) w)
  rw [h] at HV
  replace HV := Lib.hid HV
  have hc := cum_bd y0 y1 m0 (show m ≤ 13 by omega)
  have hf := day_in h
  have hr := day_range h
  have HD : Hid (dayN y m d = first y + (cum y m + d) - 1) := by show dayN y m d = _; omega
  have hf1 := first_le (y := 1) (z := y) (by omega) y0 (by omega)
  rw [first_one] at hf1
  obtain ⟨f0, f1⟩ : -719162 ≤ first y ∧ first y ≤ 2932897 := by omega
  clear hf hr h hf1
  generalize cum y m = c at *
  generalize first y = f at *
  obtain ⟨hc0, hc1⟩ := hc
  go_enter Tryd.func26, Tryd.ntmps26
  go_wp2_with fail
  refine (HV.out _).mono ?_
  rintro e w1 ⟨rfl, hb⟩
  have hb2 := box_below hb
  obtain ⟨c0, c1, c2⟩ := box_cells hb
  clear hb HV
  go_wp2_with fail
  go_region_with (first | (go_at_call 42; refine (HF.out _).mono ?_; rintro e w' ⟨rfl, rfl⟩) | (go_at_call 24; refine (HY.out _).mono ?_; rintro e w2 ⟨rfl, hb3⟩))
  all_goals
    go_wp2
    go_ret2
    refine ⟨?_, hb2.drew.trans (hb3.mono hb2.size)⟩
    rw [HD.out]
    go_simp
    rw [IntKind.wrap_i64, IntKind.wrap_i64]
    omega
end Go.Proofs.YtdhedkcbkchpgaaDoor

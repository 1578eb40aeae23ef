/- Contracts of package civil's functions on days and dates. -/
import Derived.Test.YtdhedkcbkchpgaaDoorCivA
import Derived.Test.YtdhedkcbkchpgaaDoorMarch
import Derived.IntWalk
import Derived.WalkLawsBesides
namespace Go.Proofs.YtdhedkcbkchpgaaDoor
open Go.RowKit
set_option linter.unusedVariables false

theorem cday_no (y m d : Int) (hy : I64 y) (hm : I64 m) (hd : I64 d) (h : vld y m d = false) (w : World) (ht : Lens w) :
    Calls Tryd.prog 25 #[.agg #[.int .i64 y, .int .i64 m, .int .i64 d]] w fun e w' => e = .returned (.tuple #[.int .i64 0, .int .i64 1]) ∧ Below w.heap.size w w' := by
  have HV := fun w ht => cvalid y m d hy hm hd w ht
  rw [h] at HV
  replace HV := Lib.hid HV
  have ht2 := Lib.hid (lens_alloc ht (.cells #[.int .i64 y, .int .i64 m, .int .i64 d] 23))
  clear ht
  go_enter Tryd.func25, Tryd.ntmps25
  go_wp2_with fail
  refine (HV.out _ ht2.out).mono ?_
  rintro e w1 ⟨rfl, hb⟩
  have hb2 := box_below hb
  obtain ⟨c0, c1, c2⟩ := box_cells hb
  go_wp2
  go_ret2
  exact ⟨rfl, hb2⟩
/-- A quiet callee behind a quiet region. -/
theorem quiet_add_left {P : Program} {f : FuncId} {args : Array Value} {w : World} {a n : Nat} {v : Value}
    (h : Calls P f args (w.drewN (a + n)) fun e w' => e = .returned v ∧ w.drewN (a + n) = w') :
    Calls P f args (w.drewN (a + n)) fun e w'' => e = .returned v ∧ ∃ m, w'' = w.drewN (a + m) :=
  h.mono fun _ _ ⟨he, hm⟩ => ⟨he, n, hm.symm⟩
theorem wok {n : Int} (h0 : -9223372036854775808 ≤ n) (h1 : n ≤ 9223372036854775807) : IntKind.i64.wrap n = n := by
  rw [IntKind.wrap_i64]; omega
theorem day_wrap {c r bf d : Int} (b0 : -5 ≤ c) (b1 : c ≤ 20) (b2 : 0 ≤ r) (b3 : r ≤ 399) (b4 : 0 ≤ bf) (b5 : bf ≤ 400) (d0 : 1 ≤ d) (d1 : d ≤ 31) :
    IntKind.i64.wrap (IntKind.i64.wrap (IntKind.i64.wrap (IntKind.i64.wrap (IntKind.i64.wrap (IntKind.i64.wrap (IntKind.i64.wrap (11017 + IntKind.i64.wrap (c * 146097)) + IntKind.i64.wrap (r * 365)) + IntKind.i64.wrap (r.tdiv 4)) - IntKind.i64.wrap (r.tdiv 100)) + bf) + d) - 1)
      = 11017 + c * 146097 + r * 365 + r / 4 - r / 100 + bf + d - 1 := by
  rw [Int.tdiv_eq_ediv_of_nonneg b2, Int.tdiv_eq_ediv_of_nonneg b2]
  rw [wok (n := c * 146097) (by omega) (by omega), wok (n := r * 365) (by omega) (by omega), wok (n := r / 4) (by omega) (by omega), wok (n := r / 100) (by omega) (by omega)]
  rw [wok (n := 11017 + c * 146097) (by omega) (by omega), wok (n := 11017 + c * 146097 + r * 365) (by omega) (by omega), wok (n := 11017 + c * 146097 + r * 365 + r / 4) (by omega) (by omega)]
  rw [wok (n := 11017 + c * 146097 + r * 365 + r / 4 - r / 100) (by omega) (by omega), wok (n := 11017 + c * 146097 + r * 365 + r / 4 - r / 100 + bf) (by omega) (by omega)]
  rw [wok (n := 11017 + c * 146097 + r * 365 + r / 4 - r / 100 + bf + d) (by omega) (by omega), wok (by omega) (by omega)]
set_option maxHeartbeats 800000 in
theorem cday_yes (y m d : Int) (h : vld y m d = true) (w : World) (ht : Lens w) :
    Calls Tryd.prog 25 #[.agg #[.int .i64 y, .int .i64 m, .int .i64 d]] w fun e w' => e = .returned (.tuple #[.int .i64 (dayN y m d), .int .i64 0]) ∧ Below w.heap.size w w' := by
  obtain ⟨y0, y1, m0, m1, d0, d1⟩ := vld_bd h
  have HV := fun w ht => cvalid y m d ⟨by omega, by omega⟩ ⟨by omega, by omega⟩ ⟨by omega, by omega⟩ w ht
  rw [h] at HV
  replace HV := Lib.hid HV
  have ht2 := Lib.hid (lens_alloc ht (.cells #[.int .i64 y, .int .i64 m, .int .i64 d] 23))
  clear ht
  by_cases q : m - 3 < 0
  · have HM : Hid (∀ c r, (y - 1 - 2000) / 400 = c → (y - 1 - 2000) % 400 = r → 11017 + c * 146097 + r * 365 + r / 4 - r / 100 + (153 * (m - 3 + 12) + 2) / 5 + d - 1 = dayN y m d) := fun c r => march_day h (.inl ⟨q, rfl, rfl⟩)
    have HB := fun c r => march_bd (c := c) (r := r) y0 y1 m0 m1 (.inl ⟨q, rfl, rfl⟩)
    have HD := Lib.hid (fun w => cdiv (y - 1 - 2000) 400 ⟨by omega, by omega⟩ (by omega) (by omega) w)
    have HE := Lib.hid (fun w => cbefore (m - 3 + 12) (by omega) (by omega) w)
    clear h
    obtain ⟨c, hc⟩ : ∃ c, (y - 1 - 2000) / 400 = c := ⟨_, rfl⟩
    obtain ⟨r, hr⟩ : ∃ c, (y - 1 - 2000) % 400 = c := ⟨_, rfl⟩
    obtain ⟨b0, b1, b2, b3, b4, b5, -, -⟩ := HB c r hc hr
    replace HM := Lib.hid (HM.out c r hc hr)
    rw [hc, hr] at HD
    clear hc hr HB
    have k : decide (m - 3 < 0) = true := decide_eq_true q
    have kb : 0 ≤ (153 * (m - 3 + 12) + 2) / 5 ∧ (153 * (m - 3 + 12) + 2) / 5 ≤ 400 := by omega
    generalize (153 * (m - 3 + 12) + 2) / 5 = bf at *
    obtain ⟨kb0, kb1⟩ := kb
    have HW := Lib.hid (day_wrap b0 b1 b2 b3 kb0 kb1 d0 d1)
    go_enter Tryd.func25, Tryd.ntmps25
    go_wp2_with fail
    refine (HV.out _ ht2.out).mono ?_
    rintro e w1 ⟨rfl, hb⟩
    have hb2 := box_below hb
    obtain ⟨c0, c1, c2⟩ := box_cells hb
    clear hb HV
    go_wp2
    go_quiet (fail)
    go_wp2_with fail
    refine (HD.out _).mono ?_
    rintro e w' ⟨rfl, n, rfl⟩
    go_wp2
    go_quiet ((go_at_call 41; exact quiet_add_left (HE.out _)))
    go_wp2
    go_ret2
    refine ⟨?_, below_drewN (below_drewN hb2 _) _⟩
    rw [← HM.out, ← HW.out]
    rfl
  · have HM : Hid (∀ c r, (y - 2000) / 400 = c → (y - 2000) % 400 = r → 11017 + c * 146097 + r * 365 + r / 4 - r / 100 + (153 * (m - 3) + 2) / 5 + d - 1 = dayN y m d) := fun c r => march_day h (.inr ⟨by omega, rfl, rfl⟩)
    have HB := fun c r => march_bd (c := c) (r := r) y0 y1 m0 m1 (.inr ⟨by omega, rfl, rfl⟩)
    have HD := Lib.hid (fun w => cdiv (y - 2000) 400 ⟨by omega, by omega⟩ (by omega) (by omega) w)
    have HE := Lib.hid (fun w => cbefore (m - 3) (by omega) (by omega) w)
    clear h
    obtain ⟨c, hc⟩ : ∃ c, (y - 2000) / 400 = c := ⟨_, rfl⟩
    obtain ⟨r, hr⟩ : ∃ c, (y - 2000) % 400 = c := ⟨_, rfl⟩
    obtain ⟨b0, b1, b2, b3, b4, b5, -, -⟩ := HB c r hc hr
    replace HM := Lib.hid (HM.out c r hc hr)
    rw [hc, hr] at HD
    clear hc hr HB
    have k : decide (m - 3 < 0) = false := decide_eq_false q
    have kb : 0 ≤ (153 * (m - 3) + 2) / 5 ∧ (153 * (m - 3) + 2) / 5 ≤ 400 := by omega
    generalize (153 * (m - 3) + 2) / 5 = bf at *
    obtain ⟨kb0, kb1⟩ := kb
    have HW := Lib.hid (day_wrap b0 b1 b2 b3 kb0 kb1 d0 d1)
    go_enter Tryd.func25, Tryd.ntmps25
    go_wp2_with fail
    refine (HV.out _ ht2.out).mono ?_
    rintro e w1 ⟨rfl, hb⟩
    have hb2 := box_below hb
    obtain ⟨c0, c1, c2⟩ := box_cells hb
    clear hb HV
    go_wp2
    go_quiet (fail)
    go_wp2_with fail
    refine (HD.out _).mono ?_
    rintro e w' ⟨rfl, n, rfl⟩
    go_wp2
    go_quiet ((go_at_call 41; exact quiet_add_left (HE.out _)))
    go_wp2
    go_ret2
    refine ⟨?_, below_drewN (below_drewN hb2 _) _⟩
    rw [← HM.out, ← HW.out]
    rfl
end Go.Proofs.YtdhedkcbkchpgaaDoor

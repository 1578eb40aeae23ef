/- Contracts of package julian: years, months, valid dates, the count from March. -/
import Derived.Test.YtdhmmfdpfpecmaaDoorJuX
import Derived.Test.YtdhmmfdpfpecmaaDoorLCivA
namespace Go.Proofs.YtdhmmfdpfpecmaaDoor
open Go.RowKit
set_option linter.unusedVariables false

def JLens (w : World) : Prop := Lib.TabIs Tryd.prog w "civiltime/julian.lengths" .i64 lensTab
theorem gJLens : Tryd.prog.globalNamed "civiltime/julian.lengths" = some 0 := by kernel_rfl
theorem jlens_below {w w' : World} (h : JLens w) (hb : Below w.heap.size w w') : JLens w' := Joins.tab_stays gJLens h hb (Nat.le_refl _)
theorem jlens_alloc {w : World} (h : JLens w) (o : Obj) : JLens (w.alloc o) := jlens_below h ((Below.refl _ _).alloc (Nat.le_refl _) o)
theorem jlens_drewN {w : World} (h : JLens w) (n : Nat) : JLens (w.drewN n) := h
theorem jlens_cell {w : World} (h : JLens w) {y m : Int} (y0 : 1 ≤ y) (y1 : y ≤ 9999) (m0 : 1 ≤ m) (m1 : m ≤ 12) (hn : m = 2 → jleapB y = false) :
    w.cell? ⟨0, m.toNat, none⟩ = some (.int .i64 (jlenM y m)) := by
  rw [Lib.TabIs.cell h gJLens m.toNat (by show m.toNat < 13; omega)]
  congr 2
  unfold jlenM
  rw [if_neg (by omega)]
  rcases month_cases m0 m1 with rfl | rfl | rfl | rfl | rfl | rfl | rfl | rfl | rfl | rfl | rfl | rfl <;> try rfl
  show (28 : Int) = _
  rw [if_pos rfl]; unfold jlp; rw [hn rfl]; rfl
theorem ujyear (y : Int) (hy : I64 y) (w : World) :
    Calls Tryd.prog 40 #[.int .i64 y] w fun e w' => e = .returned (.bool (yrB y)) ∧ w = w' := by
  obtain ⟨h0, h1⟩ := hy
  rw [yrB_eq]
  obtain ⟨a, ha⟩ : ∃ a, decide (1 ≤ y) = a := ⟨_, rfl⟩
  obtain ⟨b, hb⟩ : ∃ a, decide (y ≤ 9999) = a := ⟨_, rfl⟩
  rw [ha, hb]
  cases a <;> cases b
  all_goals
    go_enter Tryd.func40, Tryd.ntmps40
    go_wp2
    go_ret
    exact ⟨rfl, rfl⟩
theorem ujdayok (n : Int) (hn : I64 n) (w : World) :
    Calls Tryd.prog 37 #[.int .i64 n] w fun e w' => e = .returned (.bool (dyB n)) ∧ w = w' := by
  obtain ⟨h0, h1⟩ := hn
  rw [dyB_eq]
  obtain ⟨a, ha⟩ : ∃ a, decide (-719162 ≤ n) = a := ⟨_, rfl⟩
  obtain ⟨b, hb⟩ : ∃ a, decide (n < 2932897) = a := ⟨_, rfl⟩
  rw [ha, hb]
  cases a <;> cases b
  all_goals
    go_enter Tryd.func37, Tryd.ntmps37
    go_wp2
    go_ret
    exact ⟨rfl, rfl⟩
theorem ujleap (y : Int) (hy : I64 y) (w : World) :
    Calls Tryd.prog 15 #[.int .i64 y] w fun e w' => e = .returned (.bool (jleapB y)) ∧ w = w' := by
  have HY := fun w => ujyear y hy w
  obtain ⟨h0, h1⟩ := hy
  by_cases a : yrB y = true
  · obtain ⟨y0, y1⟩ := yrB_iff.1 a
    have e : jleapB y = (y % 4 == 0) := by
      rw [Bool.eq_iff_iff, jleapB_iff, beq_iff_eq]; omega
    rw [e]
    rw [a] at HY
    replace HY := Lib.hid HY
    clear e a
    obtain ⟨p, hp⟩ : ∃ p, (y % 4 == 0) = p := ⟨_, rfl⟩
    rw [hp]
    go_enter Tryd.func15, Tryd.ntmps15
    go_wp2_with fail
    refine (HY.out _).mono ?_
    rintro e w' ⟨rfl, rfl⟩
    go_wp2
    go_ret
    exact ⟨rfl, rfl⟩
  · have e : jleapB y = false := by rw [← Bool.not_eq_true, jleapB_iff]; rw [yrB_iff] at a; omega
    rw [e]
    rw [Bool.not_eq_true] at a
    rw [a] at HY
    replace HY := Lib.hid HY
    clear e a
    go_enter Tryd.func15, Tryd.ntmps15
    go_wp2_with fail
    refine (HY.out _).mono ?_
    rintro e w' ⟨rfl, rfl⟩
    go_wp2
    go_ret
    exact ⟨rfl, rfl⟩
set_option maxHeartbeats 400000 in
theorem ujlen (y m : Int) (hy : I64 y) (hm : I64 m) (w : World) (ht : JLens w) :
    Calls Tryd.prog 17 #[.int .i64 y, .int .i64 m] w fun e w' => e = .returned (.int .i64 (jlenM y m)) ∧ w = w' := by
  have HY := fun w => ujyear y hy w
  have HL := fun w => ujleap y hy w
  obtain ⟨h0, h1⟩ := hy
  obtain ⟨h2, h3⟩ := hm
  obtain ⟨c, hc⟩ : ∃ a, decide (m < 1) = a := ⟨_, rfl⟩
  obtain ⟨d, hd⟩ : ∃ a, decide (12 < m) = a := ⟨_, rfl⟩
  by_cases k : y < 1 ∨ 9999 < y ∨ m < 1 ∨ 12 < m
  · rw [jlenM_out k]
    obtain ⟨a, ha⟩ : ∃ a, yrB y = a := ⟨_, rfl⟩
    rw [ha] at HY
    have t : (!a || c || d) = true := by
      subst hc; subst hd
      cases a
      · rfl
      · have := yrB_iff.1 ha; simp only [Bool.or_eq_true, decide_eq_true_eq]; omega
    replace HY := Lib.hid HY
    clear k ha HL ht
    cases a <;> cases c <;> cases d <;> (try cases t)
    all_goals
      go_enter Tryd.func17, Tryd.ntmps17
      go_wp2_with fail
      refine (HY.out _).mono ?_
      rintro e w' ⟨rfl, rfl⟩
      go_wp2
      go_ret
      exact ⟨rfl, rfl⟩
  · have y0 : 1 ≤ y := by omega
    have y1 : y ≤ 9999 := by omega
    have m0 : 1 ≤ m := by omega
    have m1 : m ≤ 12 := by omega
    obtain rfl : c = false := by subst hc; exact decide_eq_false (by omega)
    obtain rfl : d = false := by subst hd; exact decide_eq_false (by omega)
    rw [yrB_iff.2 ⟨y0, y1⟩] at HY
    replace HY := Lib.hid HY
    by_cases m2 : m = 2
    · subst m2
      by_cases l : jleapB y = true
      · have e : jlenM y 2 = 29 := by unfold jlenM; rw [if_neg k, if_pos rfl]; unfold jlp; rw [if_pos l]; rfl
        rw [e]
        rw [l] at HL
        replace HL := Lib.hid HL
        clear e l k ht
        go_enter Tryd.func17, Tryd.ntmps17
        go_wp2_with fail
        refine (HY.out _).mono ?_
        rintro e w' ⟨rfl, rfl⟩
        go_wp2_with fail
        refine (HL.out _).mono ?_
        rintro e w' ⟨rfl, rfl⟩
        go_wp2
        go_ret
        exact ⟨rfl, rfl⟩
      · rw [Bool.not_eq_true] at l
        have hcell := jlens_cell ht y0 y1 m0 m1 (fun _ => l)
        rw [show (2 : Int).toNat = 2 from rfl] at hcell
        rw [l] at HL
        replace HL := Lib.hid HL
        generalize jlenM y 2 = x at *
        clear l k ht
        go_enter Tryd.func17, Tryd.ntmps17
        go_wp2_with fail
        refine (HY.out _).mono ?_
        rintro e w' ⟨rfl, rfl⟩
        go_wp2_with fail
        refine (HL.out _).mono ?_
        rintro e w' ⟨rfl, rfl⟩
        go_wp2
        go_ret
        exact ⟨rfl, rfl⟩
    · have hcell := jlens_cell ht y0 y1 m0 m1 (fun h => absurd h m2)
      have k2 : (m == 2) = false := by simpa using m2
      obtain ⟨M, rfl⟩ := Int.eq_ofNat_of_zero_le (show 0 ≤ m by omega)
      rw [Int.toNat_natCast] at hcell
      generalize jlenM y M = x at *
      clear k ht HL m2
      go_enter Tryd.func17, Tryd.ntmps17
      go_wp2_with fail
      refine (HY.out _).mono ?_
      rintro e w' ⟨rfl, rfl⟩
      go_wp2
      go_ret
      exact ⟨rfl, rfl⟩
theorem ujvalid (y m d : Int) (hy : I64 y) (hm : I64 m) (hd : I64 d) (w : World) (ht : JLens w) :
    Calls Tryd.prog 33 #[.agg #[.int .i64 y, .int .i64 m, .int .i64 d]] w fun e w' => e = .returned (.bool (jvld y m d)) ∧ Below w.heap.size w w' := by
  have HL := Lib.hid (fun w ht => ujlen y m hy hm w ht)
  obtain ⟨d0, d1⟩ := hd
  rw [jvld_split]
  have ht2 := Lib.hid (jlens_alloc ht (.cells #[.int .i64 y, .int .i64 m, .int .i64 d] 23))
  clear ht
  generalize jlenM y m = l at *
  by_cases a : 1 ≤ d
  · have k : decide (1 ≤ d) = true := decide_eq_true a
    rw [k]
    go_enter Tryd.func33, Tryd.ntmps33
    go_wp2
    go_quiet ((go_at_call 17; exact qleft (HL.out _ (jlens_drewN ht2.out _))))
    go_wp2
    go_ret
    exact ⟨rfl, below_drewN ((Below.refl _ _).alloc (Nat.le_refl _) _) _⟩
  · have k : decide (1 ≤ d) = false := decide_eq_false a
    rw [k]
    go_enter Tryd.func33, Tryd.ntmps33
    go_wp2
    go_quiet (fail)
    go_wp2
    go_ret
    exact ⟨rfl, below_drewN ((Below.refl _ _).alloc (Nat.le_refl _) _) _⟩
theorem ujbefore (m : Int) (m0 : 0 ≤ m) (m1 : m ≤ 11) (w : World) :
    Calls Tryd.prog 36 #[.int .i64 m] w fun e w' => e = .returned (.int .i64 ((153 * m + 2) / 5)) ∧ ∃ n, w' = w.drewN n := by
  have HF : Hid (∀ w, Calls Tryd.prog 35 #[.int .i64 (153 * m + 2), .int .i64 5] w fun e w' => e = .returned (.int .i64 ((153 * m + 2) / 5)) ∧ ∃ n, w' = w.drewN n) := fun w => by
    have q := floor_all (153 * m + 2) 5 (by omega) (by omega) (by omega) (by omega) w
    rw [dQ_pos (by omega)] at q; exact q
  generalize (153 * m + 2) / 5 = r at *
  go_enter Tryd.func36, Tryd.ntmps36
  go_wp2_with fail
  refine (HF.out _).mono ?_
  rintro e w' ⟨rfl, n, rfl⟩
  go_wp2
  go_ret
  exact ⟨rfl, _, rfl⟩
theorem ujmonth (x : Int) (n0 : 0 ≤ x) (n1 : x ≤ 365) (w : World) :
    Calls Tryd.prog 42 #[.int .i64 x] w fun e w' => e = .returned (.int .i64 ((5 * x + 2) / 153)) ∧ ∃ n, w' = w.drewN n := by
  have HF : Hid (∀ w, Calls Tryd.prog 35 #[.int .i64 (5 * x + 2), .int .i64 153] w fun e w' => e = .returned (.int .i64 ((5 * x + 2) / 153)) ∧ ∃ n, w' = w.drewN n) := fun w => by
    have q := floor_all (5 * x + 2) 153 (by omega) (by omega) (by omega) (by omega) w
    rw [dQ_pos (by omega)] at q; exact q
  generalize (5 * x + 2) / 153 = r at *
  go_enter Tryd.func42, Tryd.ntmps42
  go_wp2_with fail
  refine (HF.out _).mono ?_
  rintro e w' ⟨rfl, n, rfl⟩
  go_wp2
  go_ret
  exact ⟨rfl, _, rfl⟩
theorem ujfrom (y m d yy mm : Int) (y0 : 1 ≤ y) (y1 : y ≤ 9999) (m0 : 1 ≤ m) (m1 : m ≤ 12) (hm : m < 3 ∧ yy = y - 1 ∧ mm = m + 9 ∨ 3 ≤ m ∧ yy = y ∧ mm = m - 3) (w : World) :
    Calls Tryd.prog 34 #[.agg #[.int .i64 y, .int .i64 m, .int .i64 d]] w fun e w' => e = .returned (.tuple #[.int .i64 yy, .int .i64 mm]) ∧ Below w.heap.size w w' := by
  rcases hm with ⟨k, rfl, rfl⟩ | ⟨k, rfl, rfl⟩
  · have k1 : decide (m < 3) = true := decide_eq_true k
    go_enter Tryd.func34, Tryd.ntmps34
    go_wp2
    go_quiet (fail)
    go_wp2
    go_ret2
    exact ⟨rfl, below_drewN (grow (here w) _) _⟩
  · have k1 : decide (m < 3) = false := decide_eq_false (by omega)
    go_enter Tryd.func34, Tryd.ntmps34
    go_wp2
    go_quiet (fail)
    go_wp2
    go_ret2
    exact ⟨rfl, below_drewN (grow (here w) _) _⟩
theorem ujreform (f : Int) (hf : I64 f) (w : World) :
    Calls Tryd.prog 48 #[.agg #[.int .i64 f]] w fun e w' => e = .returned (.bool (decide (-719162 ≤ f ∧ f ≤ 2932897))) ∧ Below w.heap.size w w' := by
  obtain ⟨h0, h1⟩ := hf
  rw [Bool.decide_and]
  obtain ⟨a, ha⟩ : ∃ a, decide (-719162 ≤ f) = a := ⟨_, rfl⟩
  obtain ⟨b, hb⟩ : ∃ a, decide (f ≤ 2932897) = a := ⟨_, rfl⟩
  rw [ha, hb]
  cases a <;> cases b
  all_goals
    go_enter Tryd.func48, Tryd.ntmps48
    go_wp2
    go_ret
    exact ⟨rfl, grow (here w) _⟩
theorem ujswitch (f : Int) (hf : I64 f) (w : World) :
    Calls Tryd.prog 26 #[.int .i64 f] w fun e w' => e = .returned (.agg #[.int .i64 f]) ∧ Below w.heap.size w w' := by
  go_enter Tryd.func26, Tryd.ntmps26
  go_wp2
  trace_state
  refine bodyPost_ret (v := .agg #[.int .i64 f]) (by simp [results, Tryd.results26, go_sem]) rfl ⟨rfl, ?_⟩
  exact grow (here w) _
theorem ujnumber_in (n : Int) (r0 : -719162 ≤ n) (r1 : n < 2932897) (w : World) :
    Calls Tryd.prog 21 #[.int .i64 n] w fun e w' => e = .returned (.tuple #[.int .i64 (n + 2440588), .int .i64 0]) ∧ w = w' := by
  have HD := fun w => ujdayok n ⟨by omega, by omega⟩ w
  rw [dyB_yes r0 r1] at HD
  replace HD := Lib.hid HD
  go_enter Tryd.func21, Tryd.ntmps21
  go_wp2_with fail
  refine (HD.out _).mono ?_
  rintro e w' ⟨rfl, rfl⟩
  go_wp2
  go_ret2
  exact ⟨rfl, rfl⟩
theorem ujnumber_out (n : Int) (hn : I64 n) (h : n < -719162 ∨ 2932897 ≤ n) (w : World) :
    Calls Tryd.prog 21 #[.int .i64 n] w fun e w' => e = .returned (.tuple #[.int .i64 0, .int .i64 2]) ∧ w = w' := by
  have HD := fun w => ujdayok n hn w
  rw [dyB_no h] at HD
  replace HD := Lib.hid HD
  go_enter Tryd.func21, Tryd.ntmps21
  go_wp2_with fail
  refine (HD.out _).mono ?_
  rintro e w' ⟨rfl, rfl⟩
  go_wp2
  go_ret2
  exact ⟨rfl, rfl⟩
end Go.Proofs.YtdhmmfdpfpecmaaDoor

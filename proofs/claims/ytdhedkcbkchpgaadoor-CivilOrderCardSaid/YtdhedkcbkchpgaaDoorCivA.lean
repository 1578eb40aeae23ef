/- Contracts of package civil's functions on years, months and days. -/
import Derived.Test.YtdhedkcbkchpgaaDoorRefB
import Derived.Test.YtdhedkcbkchpgaaDoorIntA
import Derived.Lib.LaidTab
import Derived.Lib.SmallJoins
namespace Go.Proofs.YtdhedkcbkchpgaaDoor
open Go.RowKit
set_option linter.unusedVariables false

/-- The table of lengths holds what its initialiser lays. -/
abbrev lensTab : List Int := [0, 31, 28, 31, 30, 31, 30, 31, 31, 30, 31, 30, 31]
def Lens (w : World) : Prop := Lib.TabIs Tryd.prog w "civiltime/civil.lengths" .i64 lensTab
theorem gLens : Tryd.prog.globalNamed "civiltime/civil.lengths" = some 0 := by kernel_rfl
theorem lens_below {w w' : World} (h : Lens w) (hb : Below w.heap.size w w') : Lens w' := Joins.tab_stays gLens h hb (Nat.le_refl _)
theorem lens_alloc {w : World} (h : Lens w) (o : Obj) : Lens (w.alloc o) := lens_below h ((Below.refl _ _).alloc (Nat.le_refl _) o)
theorem lens_drewN {w : World} (h : Lens w) (n : Nat) : Lens (w.drewN n) := h
theorem lens_cell {w : World} (h : Lens w) {y m : Int} (y0 : 1 ≤ y) (y1 : y ≤ 9999) (m0 : 1 ≤ m) (m1 : m ≤ 12) (hn : m = 2 → leapB y = false) :
    w.cell? ⟨0, m.toNat, none⟩ = some (.int .i64 (lenM y m)) := by
  rw [Lib.TabIs.cell h gLens m.toNat (by show m.toNat < 13; omega)]
  congr 2
  unfold lenM
  rw [if_neg (by omega)]
  rcases month_cases m0 m1 with rfl | rfl | rfl | rfl | rfl | rfl | rfl | rfl | rfl | rfl | rfl | rfl <;> try rfl
  show (28 : Int) = _
  rw [if_pos rfl]; unfold lp; rw [hn rfl]; rfl

def yrB (y : Int) : Bool := decide (1 ≤ y ∧ y ≤ 9999)
def dyB (n : Int) : Bool := decide (-719162 ≤ n ∧ n < 2932897)
theorem yrB_eq {y : Int} : yrB y = (decide (1 ≤ y) && decide (y ≤ 9999)) := by unfold yrB; simp
theorem dyB_eq {n : Int} : dyB n = (decide (-719162 ≤ n) && decide (n < 2932897)) := by unfold dyB; simp
theorem yrB_iff {y : Int} : yrB y = true ↔ 1 ≤ y ∧ y ≤ 9999 := by unfold yrB; simp
theorem dyB_iff {n : Int} : dyB n = true ↔ -719162 ≤ n ∧ n < 2932897 := by unfold dyB; simp
theorem cyear (y : Int) (hy : I64 y) (w : World) :
    Calls Tryd.prog 37 #[.int .i64 y] w fun e w' => e = .returned (.bool (yrB y)) ∧ w = w' := by
  obtain ⟨h0, h1⟩ := hy
  rw [yrB_eq]
  obtain ⟨a, ha⟩ : ∃ a, decide (1 ≤ y) = a := ⟨_, rfl⟩
  obtain ⟨b, hb⟩ : ∃ a, decide (y ≤ 9999) = a := ⟨_, rfl⟩
  rw [ha, hb]
  cases a <;> cases b
  all_goals
    go_enter Tryd.func37, Tryd.ntmps37
    go_wp2
    go_ret
    exact ⟨rfl, rfl⟩
theorem cdayok (n : Int) (hn : I64 n) (w : World) :
    Calls Tryd.prog 38 #[.int .i64 n] w fun e w' => e = .returned (.bool (dyB n)) ∧ w = w' := by
  obtain ⟨h0, h1⟩ := hn
  rw [dyB_eq]
  obtain ⟨a, ha⟩ : ∃ a, decide (-719162 ≤ n) = a := ⟨_, rfl⟩
  obtain ⟨b, hb⟩ : ∃ a, decide (n < 2932897) = a := ⟨_, rfl⟩
  rw [ha, hb]
  cases a <;> cases b
  all_goals
    go_enter Tryd.func38, Tryd.ntmps38
    go_wp2
    go_ret
    exact ⟨rfl, rfl⟩
theorem cleap (y : Int) (hy : I64 y) (w : World) :
    Calls Tryd.prog 17 #[.int .i64 y] w fun e w' => e = .returned (.bool (leapB y)) ∧ w = w' := by
  have HY := fun w => cyear y hy w
  obtain ⟨h0, h1⟩ := hy
  by_cases a : yrB y = true
  · obtain ⟨y0, y1⟩ := yrB_iff.1 a
    have e : leapB y = ((y % 4 == 0) && ((y % 100 != 0) || (y % 400 == 0))) := by
      rw [Bool.eq_iff_iff, leapB_iff]
      simp only [Bool.or_eq_true, Bool.and_eq_true, beq_iff_eq, bne_iff_ne]
      omega
    rw [e]
    rw [a] at HY
    replace HY := Lib.hid HY
    clear e a
    obtain ⟨p, hp⟩ : ∃ p, (y % 400 == 0) = p := ⟨_, rfl⟩
    obtain ⟨q, hq⟩ : ∃ p, (y % 4 == 0) = p := ⟨_, rfl⟩
    obtain ⟨r, hr⟩ : ∃ p, (y % 100 != 0) = p := ⟨_, rfl⟩
    rw [hp, hq, hr]
    cases p <;> cases q <;> cases r
    all_goals
      go_enter Tryd.func17, Tryd.ntmps17
      go_wp2_with fail
      refine (HY.out _).mono ?_
      rintro e w' ⟨rfl, rfl⟩
      go_wp2
      go_ret
      exact ⟨rfl, rfl⟩
  · have e : leapB y = false := by rw [← Bool.not_eq_true, leapB_iff]; rw [yrB_iff] at a; omega
    rw [e]
    rw [Bool.not_eq_true] at a
    rw [a] at HY
    replace HY := Lib.hid HY
    clear e a
    go_enter Tryd.func17, Tryd.ntmps17
    go_wp2_with fail
    refine (HY.out _).mono ?_
    rintro e w' ⟨rfl, rfl⟩
    go_wp2
    go_ret
    exact ⟨rfl, rfl⟩
set_option maxHeartbeats 400000 in
theorem clen (y m : Int) (hy : I64 y) (hm : I64 m) (w : World) (ht : Lens w) :
    Calls Tryd.prog 19 #[.int .i64 y, .int .i64 m] w fun e w' => e = .returned (.int .i64 (lenM y m)) ∧ w = w' := by
  have HY := fun w => cyear y hy w
  have HL := fun w => cleap y hy w
  obtain ⟨h0, h1⟩ := hy
  obtain ⟨h2, h3⟩ := hm
  obtain ⟨c, hc⟩ : ∃ a, decide (m < 1) = a := ⟨_, rfl⟩
  obtain ⟨d, hd⟩ : ∃ a, decide (12 < m) = a := ⟨_, rfl⟩
  by_cases k : y < 1 ∨ 9999 < y ∨ m < 1 ∨ 12 < m
  · rw [lenM_out k]
    obtain ⟨a, ha⟩ : ∃ a, yrB y = a := ⟨_, rfl⟩
    rw [ha] at HY
    have t : (!a || c || d) = true := by
      subst hc; subst hd
      cases a
      · rfl
      · have := yrB_iff.1 ha; simp only [Bool.or_eq_true, decide_eq_true_eq]; omega
    replace HY := Lib.hid HY
    clear k ha HL ht
    cases a <;> cases c <;> cases d <;> (try cases t)
    all_goals
      go_enter Tryd.func19, Tryd.ntmps19
      go_wp2_with fail
      refine (HY.out _).mono ?_
      rintro e w' ⟨rfl, rfl⟩
      go_wp2
      go_ret
      exact ⟨rfl, rfl⟩
  · have y0 : 1 ≤ y := by omega
    have y1 : y ≤ 9999 := by omega
    have m0 : 1 ≤ m := by omega
    have m1 : m ≤ 12 := by omega
    obtain rfl : c = false := by subst hc; exact decide_eq_false (by omega)
    obtain rfl : d = false := by subst hd; exact decide_eq_false (by omega)
    rw [yrB_iff.2 ⟨y0, y1⟩] at HY
    replace HY := Lib.hid HY
    by_cases m2 : m = 2
    · subst m2
      by_cases l : leapB y = true
      · have e : lenM y 2 = 29 := by unfold lenM; rw [if_neg k, if_pos rfl]; unfold lp; rw [if_pos l]; rfl
        rw [e]
        rw [l] at HL
        replace HL := Lib.hid HL
        clear e l k ht
        go_enter Tryd.func19, Tryd.ntmps19
        go_wp2_with fail
        refine (HY.out _).mono ?_
        rintro e w' ⟨rfl, rfl⟩
        go_wp2_with fail
        refine (HL.out _).mono ?_
        rintro e w' ⟨rfl, rfl⟩
        go_wp2
        go_ret
        exact ⟨rfl, rfl⟩
      · rw [Bool.not_eq_true] at l
        have hcell := lens_cell ht y0 y1 m0 m1 (fun _ => l)
        rw [show (2 : Int).toNat = 2 from rfl] at hcell
        rw [l] at HL
        replace HL := Lib.hid HL
        generalize lenM y 2 = x at *
        clear l k ht
        go_enter Tryd.func19, Tryd.ntmps19
        go_wp2_with fail
        refine (HY.out _).mono ?_
        rintro e w' ⟨rfl, rfl⟩
        go_wp2_with fail
        refine (HL.out _).mono ?_
        rintro e w' ⟨rfl, rfl⟩
        go_wp2
        go_ret
        exact ⟨rfl, rfl⟩
    · have hcell := lens_cell ht y0 y1 m0 m1 (fun h => absurd h m2)
      have k2 : (m == 2) = false := by simpa using m2
      obtain ⟨M, rfl⟩ := Int.eq_ofNat_of_zero_le (show 0 ≤ m by omega)
      rw [Int.toNat_natCast] at hcell
      generalize lenM y M = x at *
      clear k ht HL m2
      go_enter Tryd.func19, Tryd.ntmps19
      go_wp2_with fail
      refine (HY.out _).mono ?_
      rintro e w' ⟨rfl, rfl⟩
      go_wp2
      go_ret
      exact ⟨rfl, rfl⟩
theorem cvalid (y m d : Int) (hy : I64 y) (hm : I64 m) (hd : I64 d) (w : World) (ht : Lens w) :
    Calls Tryd.prog 15 #[.agg #[.int .i64 y, .int .i64 m, .int .i64 d]] w fun e w' => e = .returned (.bool (vld y m d)) ∧ Below w.heap.size w w' := by
  have HL := Lib.hid (fun w ht => clen y m hy hm w ht)
  obtain ⟨d0, d1⟩ := hd
  rw [vld_split]
  have ht2 := Lib.hid (lens_alloc ht (.cells #[.int .i64 y, .int .i64 m, .int .i64 d] 23))
  clear ht
  generalize lenM y m = l at *
  by_cases a : 1 ≤ d
  · have k : decide (1 ≤ d) = true := decide_eq_true a
    rw [k]
    go_enter Tryd.func15, Tryd.ntmps15
    go_wp2
    go_quiet ((go_at_call 19; exact qleft (HL.out _ (lens_drewN ht2.out _))))
    go_wp2
    go_ret
    exact ⟨rfl, below_drewN ((Below.refl _ _).alloc (Nat.le_refl _) _) _⟩
  · have k : decide (1 ≤ d) = false := decide_eq_false a
    rw [k]
    go_enter Tryd.func15, Tryd.ntmps15
    go_wp2
    go_quiet (fail)
    go_wp2
    go_ret
    exact ⟨rfl, below_drewN ((Below.refl _ _).alloc (Nat.le_refl _) _) _⟩
theorem cbefore (m : Int) (m0 : 0 ≤ m) (m1 : m ≤ 11) (w : World) :
    Calls Tryd.prog 41 #[.int .i64 m] w fun e w' => e = .returned (.int .i64 ((153 * m + 2) / 5)) ∧ w = w' := by
  go_enter Tryd.func41, Tryd.ntmps41
  go_wp2
  go_ret
  exact ⟨rfl, rfl⟩
theorem cmonth (n : Int) (n0 : 0 ≤ n) (n1 : n ≤ 365) (w : World) :
    Calls Tryd.prog 43 #[.int .i64 n] w fun e w' => e = .returned (.int .i64 ((5 * n + 2) / 153)) ∧ w = w' := by
  go_enter Tryd.func43, Tryd.ntmps43
  go_wp2
  go_ret
  exact ⟨rfl, rfl⟩
theorem cmod7 (a : Int) (ha : I64 a) (w : World) :
    Calls Tryd.prog 39 #[.int .i64 a, .int .i64 7] w fun e w' => e = .returned (.int .i64 (a % 7)) ∧ ∃ n, w' = w.drewN n := by
  have h := mod_all a 7 ha.1 ha.2 (by omega) (by omega) w
  rw [dR_pos (by omega)] at h
  exact h
theorem cdiv (a b : Int) (ha : I64 a) (b0 : 0 < b) (b1 : b ≤ 146097) (w : World) :
    Calls Tryd.prog 40 #[.int .i64 a, .int .i64 b] w fun e w' => e = .returned (.tuple #[.int .i64 (a / b), .int .i64 (a % b), .int .i64 0]) ∧ ∃ n, w' = w.drewN n := by
  have h := div_all a b ha.1 ha.2 (by omega) (by omega) w
  rw [dQ_pos b0, dR_pos b0, dE_pos b0] at h
  exact h
theorem cweekday (n : Int) (hn : I64 n) (w : World) :
    Calls Tryd.prog 21 #[.int .i64 n] w fun e w' => e = .returned (.int .i64 (wkd n)) ∧ ∃ k, w' = w.drewN k := by
  have HD := fun w => cdayok n hn w
  by_cases a : dyB n = true
  · obtain ⟨n0, n1⟩ := dyB_iff.1 a
    have e : Hid (wkd n = (n + 4 - 1) % 7 + 1) := by show wkd n = _; unfold wkd; rw [if_neg (by omega)]; omega
    rw [a] at HD
    replace HD := Lib.hid HD
    have HM := Lib.hid (fun w => cmod7 (n + 4 - 1) ⟨by omega, by omega⟩ w)
    have q : 0 ≤ (n + 4 - 1) % 7 ∧ (n + 4 - 1) % 7 ≤ 6 := by omega
    generalize (n + 4 - 1) % 7 = x at *
    obtain ⟨q0, q1⟩ := q
    clear a
    go_enter Tryd.func21, Tryd.ntmps21
    go_wp2_with fail
    refine (HD.out _).mono ?_
    rintro e w' ⟨rfl, rfl⟩
    go_wp2_with fail
    refine (HM.out _).mono ?_
    rintro e w' ⟨rfl, k, rfl⟩
    go_wp2
    go_ret
    exact ⟨by rw [e.out]; rfl, k, rfl⟩
  · have e : Hid (wkd n = 0) := by show wkd n = _; rw [dyB_iff] at a; unfold wkd; rw [if_pos (by omega)]
    rw [Bool.not_eq_true] at a
    rw [a] at HD
    replace HD := Lib.hid HD
    clear a
    go_enter Tryd.func21, Tryd.ntmps21
    go_wp2_with fail
    refine (HD.out _).mono ?_
    rintro e w' ⟨rfl, rfl⟩
    go_wp2
    go_ret
    exact ⟨by rw [e.out]; rfl, 0, rfl⟩
end Go.Proofs.YtdhedkcbkchpgaaDoor

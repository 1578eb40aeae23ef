/- Contracts of package julian. -/
import Derived.Test.YtljpjchcmiohpaaDoorLRefJ

import Derived.Test.YtljpjchcmiohpaaDoorLCivA

namespace Go.Proofs.YtljpjchcmiohpaaDoor

open Go.RowKit

set_option linter.unusedVariables false


def JLens (w : World) : Prop := Lib.TabIs Tryd.prog w "civiltime/julian.lengths" .i64 lensTab
theorem gJLens : Tryd.prog.globalNamed "civiltime/julian.lengths" = some 1 := by kernel_rfl
theorem jlens_below {w w' : World} (h : JLens w) (hb : Below w.heap.size w w') : JLens w' := Joins.tab_stays gJLens h hb (Nat.le_refl _)
theorem jlens_alloc {w : World} (h : JLens w) (o : Obj) : JLens (w.alloc o) := jlens_below h ((Below.refl _ _).alloc (Nat.le_refl _) o)
theorem jlens_drewN {w : World} (h : JLens w) (n : Nat) : JLens (w.drewN n) := h
theorem jlens_cell {w : World} (h : JLens w) {y m : Int} (y0 : 1 ≤ y) (y1 : y ≤ 9999) (m0 : 1 ≤ m) (m1 : m ≤ 12) (hn : m = 2 → jleapB y = false) :
    w.cell? ⟨1, m.toNat, none⟩ = some (.int .i64 (jlenM y m)) := by
  rw [Lib.TabIs.cell h gJLens m.toNat (by show m.toNat < 13; omega)]
  congr 2
  unfold jlenM
  rw [if_neg (by omega)]
  rcases month_cases m0 m1 with rfl | rfl | rfl | rfl | rfl | rfl | rfl | rfl | rfl | rfl | rfl | rfl <;> try rfl
  show (28 : Int) = _
  rw [if_pos rfl]; unfold jlp; rw [hn rfl]; rfl
theorem ujyear (y : Int) (hy : I64 y) (w : World) :
    Calls Tryd.prog 62 #[.int .i64 y] w fun e w' => e = .returned (.bool (yrB y)) ∧ w = w' := by
  obtain ⟨h0, h1⟩ := hy
  rw [yrB_eq]
  obtain ⟨a, ha⟩ : ∃ a, decide (1 ≤ y) = a := ⟨_, rfl⟩
  obtain ⟨b, hb⟩ : ∃ a, decide (y ≤ 9999) = a := ⟨_, rfl⟩
  rw [ha, hb]
  cases a <;> cases b
  all_goals
    go_enter Tryd.func62, Tryd.ntmps62
    go_wp2
    go_ret
    exact ⟨rfl, rfl⟩
theorem ujdayok (n : Int) (hn : I64 n) (w : World) :
    Calls Tryd.prog 44 #[.int .i64 n] w fun e w' => e = .returned (.bool (dyB n)) ∧ w = w' := by
  obtain ⟨h0, h1⟩ := hn
  rw [dyB_eq]
  obtain ⟨a, ha⟩ : ∃ a, decide (-719162 ≤ n) = a := ⟨_, rfl⟩
  obtain ⟨b, hb⟩ : ∃ a, decide (n < 2932897) = a := ⟨_, rfl⟩
  rw [ha, hb]
  cases a <;> cases b
  all_goals
    go_enter Tryd.func44, Tryd.ntmps44
    go_wp2
    go_ret
    exact ⟨rfl, rfl⟩
theorem ujleap (y : Int) (hy : I64 y) (w : World) :
    Calls Tryd.prog 63 #[.int .i64 y] w fun e w' => e = .returned (.bool (jleapB y)) ∧ w = w' := by
  have HY := fun w => ujyear y hy w
  obtain ⟨h0, h1⟩ := hy
  by_cases a : yrB y = true
  · obtain ⟨y0, y1⟩ := yrB_iff.1 a
    have e : jleapB y = (y % 4 == 0) := by
      rw [Bool.eq_iff_iff, jleapB_iff, beq_iff_eq]; omega
    rw [e]
    rw [a] at HY
    replace HY := Lib.hid HY
    clear e a
    obtain ⟨p, hp⟩ : ∃ p, (y % 4 == 0) = p := ⟨_, rfl⟩
    rw [hp]
    go_enter Tryd.func63, Tryd.ntmps63
    go_wp2_with fail
    refine (HY.out _).mono ?_
    rintro e w' ⟨rfl, rfl⟩
    go_wp2
    go_ret
    exact ⟨rfl, rfl⟩
  · have e : jleapB y = false := by rw [← Bool.not_eq_true, jleapB_iff]; rw [yrB_iff] at a; omega
    rw [e]
    rw [Bool.not_eq_true] at a
    rw [a] at HY
    replace HY := Lib.hid HY
    clear e a
    go_enter Tryd.func63, Tryd.ntmps63
    go_wp2_with fail
    refine (HY.out _).mono ?_
    rintro e w' ⟨rfl, rfl⟩
    go_wp2
    go_ret
    exact ⟨rfl, rfl⟩
set_option maxHeartbeats 400000 in
theorem ujlen (y m : Int) (hy : I64 y) (hm : I64 m) (w : World) (ht : JLens w) :
    Calls Tryd.prog 58 #[.int .i64 y, .int .i64 m] w fun e w' => e = .returned (.int .i64 (jlenM y m)) ∧ w = w' := by
  have HY := fun w => ujyear y hy w
  have HL := fun w => ujleap y hy w
  obtain ⟨h0, h1⟩ := hy
  obtain ⟨h2, h3⟩ := hm
  obtain ⟨c, hc⟩ : ∃ a, decide (m < 1) = a := ⟨_, rfl⟩
  obtain ⟨d, hd⟩ : ∃ a, decide (12 < m) = a := ⟨_, rfl⟩
  by_cases k : y < 1 ∨ 9999 < y ∨ m < 1 ∨ 12 < m
  · rw [jlenM_out k]
    obtain ⟨a, ha⟩ : ∃ a, yrB y = a := ⟨_, rfl⟩
    rw [ha] at HY
    have t : (!a || c || d) = true := by
      subst hc; subst hd
      cases a
      · rfl
      · have := yrB_iff.1 ha; simp only [Bool.or_eq_true, decide_eq_true_eq]; omega
    replace HY := Lib.hid HY
    clear k ha HL ht
    cases a <;> cases c <;> cases d <;> (try cases t)
    all_goals
      go_enter Tryd.func58, Tryd.ntmps58
      go_wp2_with fail
      refine (HY.out _).mono ?_
      rintro e w' ⟨rfl, rfl⟩
      go_wp2
      go_ret
      exact ⟨rfl, rfl⟩
  · have y0 : 1 ≤ y := by omega
    have y1 : y ≤ 9999 := by omega
    have m0 : 1 ≤ m := by omega
    have m1 : m ≤ 12 := by omega
    obtain rfl : c = false := by subst hc; exact decide_eq_false (by omega)
    obtain rfl : d = false := by subst hd; exact decide_eq_false (by omega)
    rw [yrB_iff.2 ⟨y0, y1⟩] at HY
    replace HY := Lib.hid HY
    by_cases m2 : m = 2
    · subst m2
      by_cases l : jleapB y = true
      · have e : jlenM y 2 = 29 := by unfold jlenM; rw [if_neg k, if_pos rfl]; unfold jlp; rw [if_pos l]; rfl
        rw [e]
        rw [l] at HL
        replace HL := Lib.hid HL
        clear e l k ht
        go_enter Tryd.func58, Tryd.ntmps58
        go_wp2_with fail
        refine (HY.out _).mono ?_
        rintro e w' ⟨rfl, rfl⟩
        go_wp2_with fail
        refine (HL.out _).mono ?_
        rintro e w' ⟨rfl, rfl⟩
        go_wp2
        go_ret
        exact ⟨rfl, rfl⟩
      · rw [Bool.not_eq_true] at l
        have hcell := jlens_cell ht y0 y1 m0 m1 (fun _ => l)
        rw [show (2 : Int).toNat = 2 from rfl] at hcell
        rw [l] at HL
        replace HL := Lib.hid HL
        generalize jlenM y 2 = x at *
        clear l k ht
        go_enter Tryd.func58, Tryd.ntmps58
        go_wp2_with fail
        refine (HY.out _).mono ?_
        rintro e w' ⟨rfl, rfl⟩
        go_wp2_with fail
        refine (HL.out _).mono ?_
        rintro e w' ⟨rfl, rfl⟩
        go_wp2
        go_ret
        exact ⟨rfl, rfl⟩
    · have hcell := jlens_cell ht y0 y1 m0 m1 (fun h => absurd h m2)
      have k2 : (m == 2) = false := by simpa using m2
      obtain ⟨M, rfl⟩ := Int.eq_ofNat_of_zero_le (show 0 ≤ m by omega)
      rw [Int.toNat_natCast] at hcell
      generalize jlenM y M = x at *
      clear k ht HL m2
      go_enter Tryd.func58, Tryd.ntmps58
      go_wp2_with fail
      refine (HY.out _).mono ?_
      rintro e w' ⟨rfl, rfl⟩
      go_wp2
      go_ret
      exact ⟨rfl, rfl⟩
theorem ujvalid (y m d : Int) (hy : I64 y) (hm : I64 m) (hd : I64 d) (w : World) (ht : JLens w) :
    Calls Tryd.prog 51 #[.agg #[.int .i64 y, .int .i64 m, .int .i64 d]] w fun e w' => e = .returned (.bool (jvld y m d)) ∧ Below w.heap.size w w' := by
  have HL := Lib.hid (fun w ht => ujlen y m hy hm w ht)
  obtain ⟨d0, d1⟩ := hd
  rw [jvld_split]
  have ht2 := Lib.hid (jlens_alloc ht (.cells #[.int .i64 y, .int .i64 m, .int .i64 d] 30))
  clear ht
  generalize jlenM y m = l at *
  by_cases a : 1 ≤ d
  · have k : decide (1 ≤ d) = true := decide_eq_true a
    rw [k]
    go_enter Tryd.func51, Tryd.ntmps51
    go_wp2
    go_quiet ((go_at_call 58; exact qleft (HL.out _ (jlens_drewN ht2.out _))))
    go_wp2
    go_ret
    exact ⟨rfl, below_drewN ((Below.refl _ _).alloc (Nat.le_refl _) _) _⟩
  · have k : decide (1 ≤ d) = false := decide_eq_false a
    rw [k]
    go_enter Tryd.func51, Tryd.ntmps51
    go_wp2
    go_quiet (fail)
    go_wp2
    go_ret
    exact ⟨rfl, below_drewN ((Below.refl _ _).alloc (Nat.le_refl _) _) _⟩
theorem ujbefore (m : Int) (m0 : 0 ≤ m) (m1 : m ≤ 11) (w : World) :
    Calls Tryd.prog 47 #[.int .i64 m] w fun e w' => e = .returned (.int .i64 ((153 * m + 2) / 5)) ∧ ∃ n, w' = w.drewN n := by
  have HF : Hid (∀ w, Calls Tryd.prog 45 #[.int .i64 (153 * m + 2), .int .i64 5] w fun e w' => e = .returned (.int .i64 ((153 * m + 2) / 5)) ∧ ∃ n, w' = w.drewN n) := fun w => by
    have q := floor_all (153 * m + 2) 5 (by omega) (by omega) (by omega) (by omega) w
    rw [dQ_pos (by omega)] at q; exact q
  generalize (153 * m + 2) / 5 = r at *
  go_enter Tryd.func47, Tryd.ntmps47
  go_wp2_with fail
  refine (HF.out _).mono ?_
  rintro e w' ⟨rfl, n, rfl⟩
  go_wp2
  go_ret
  exact ⟨rfl, _, rfl⟩
theorem ujmonth (x : Int) (n0 : 0 ≤ x) (n1 : x ≤ 365) (w : World) :
    Calls Tryd.prog 46 #[.int .i64 x] w fun e w' => e = .returned (.int .i64 ((5 * x + 2) / 153)) ∧ ∃ n, w' = w.drewN n := by
  have HF : Hid (∀ w, Calls Tryd.prog 45 #[.int .i64 (5 * x + 2), .int .i64 153] w fun e w' => e = .returned (.int .i64 ((5 * x + 2) / 153)) ∧ ∃ n, w' = w.drewN n) := fun w => by
    have q := floor_all (5 * x + 2) 153 (by omega) (by omega) (by omega) (by omega) w
    rw [dQ_pos (by omega)] at q; exact q
  generalize (5 * x + 2) / 153 = r at *
  go_enter Tryd.func46, Tryd.ntmps46
  go_wp2_with fail
  refine (HF.out _).mono ?_
  rintro e w' ⟨rfl, n, rfl⟩
  go_wp2
  go_ret
  exact ⟨rfl, _, rfl⟩
theorem ujfrom (y m d yy mm : Int) (y0 : 1 ≤ y) (y1 : y ≤ 9999) (m0 : 1 ≤ m) (m1 : m ≤ 12) (hm : m < 3 ∧ yy = y - 1 ∧ mm = m + 9 ∨ 3 ≤ m ∧ yy = y ∧ mm = m - 3) (w : World) :
    Calls Tryd.prog 52 #[.agg #[.int .i64 y, .int .i64 m, .int .i64 d]] w fun e w' => e = .returned (.tuple #[.int .i64 yy, .int .i64 mm]) ∧ Below w.heap.size w w' := by
  rcases hm with ⟨k, rfl, rfl⟩ | ⟨k, rfl, rfl⟩
  · have k1 : decide (m < 3) = true := decide_eq_true k
    go_enter Tryd.func52, Tryd.ntmps52
    go_wp2
    go_quiet (fail)
    go_wp2
    go_ret2
    exact ⟨rfl, below_drewN (grow (here w) _) _⟩
  · have k1 : decide (m < 3) = false := decide_eq_false (by omega)
    go_enter Tryd.func52, Tryd.ntmps52
    go_wp2
    go_quiet (fail)
    go_wp2
    go_ret2
    exact ⟨rfl, below_drewN (grow (here w) _) _⟩
theorem ujday_no (y m d : Int) (hy : I64 y) (hm : I64 m) (hd : I64 d) (h : jvld y m d = false) (w : World) (ht : JLens w) :
    Calls Tryd.prog 34 #[.agg #[.int .i64 y, .int .i64 m, .int .i64 d]] w fun e w' => e = .returned (.tuple #[.int .i64 0, .int .i64 1]) ∧ Below w.heap.size w w' := by
  have HV := fun w ht => ujvalid y m d hy hm hd w ht
  rw [h] at HV
  replace HV := Lib.hid HV
  have ht2 := Lib.hid (jlens_alloc ht (.cells #[.int .i64 y, .int .i64 m, .int .i64 d] 30))
  clear ht
  go_enter Tryd.func34, Tryd.ntmps34
  go_wp2_with fail
  refine (HV.out _ ht2.out).mono ?_
  rintro e w1 ⟨rfl, hb⟩
  have hb2 := box_below hb
  obtain ⟨c0, c1, c2⟩ := box_cells hb
  go_wp2
  go_ret2
  exact ⟨rfl, hb2⟩
theorem march_split {m y : Int} : ∃ yy mm, m < 3 ∧ yy = y - 1 ∧ mm = m + 9 ∨ 3 ≤ m ∧ yy = y ∧ mm = m - 3 := by
  by_cases k : m < 3
  · exact ⟨_, _, Or.inl ⟨k, rfl, rfl⟩⟩
  · exact ⟨_, _, Or.inr ⟨by omega, rfl, rfl⟩⟩
set_option maxHeartbeats 1000000 in
theorem ujday_yes (y m d : Int) (h : jvld y m d = true) (w : World) (ht : JLens w) :
    Calls Tryd.prog 34 #[.agg #[.int .i64 y, .int .i64 m, .int .i64 d]] w fun e w' => e = .returned (.tuple #[.int .i64 (if dyB (jdayN y m d) then jdayN y m d else 0), .int .i64 (if dyB (jdayN y m d) then 0 else 2)]) ∧ Below w.heap.size w w' := by
  obtain ⟨y0, y1, m0, m1, d0, d1⟩ := jvld_bd h
  have HV := fun w ht => ujvalid y m d ⟨by omega, by omega⟩ ⟨by omega, by omega⟩ ⟨by omega, by omega⟩ w ht
  rw [h] at HV
  replace HV := Lib.hid HV
  have ht2 := Lib.hid (jlens_alloc ht (.cells #[.int .i64 y, .int .i64 m, .int .i64 d] 30))
  obtain ⟨yy, mm, hm⟩ := march_split (m := m) (y := y)
  have HF := Lib.hid (fun w => ujfrom y m d yy mm y0 y1 m0 m1 hm w)
  have HM := jmarch_day (yy := yy) (mm := mm) h (by omega)
  have jb := jday_bd h
  have b : 0 ≤ yy ∧ yy ≤ 9999 ∧ 0 ≤ mm ∧ mm ≤ 11 := by omega
  obtain ⟨b0, b1, b2, b3⟩ := b
  have HQ := fun w => floor_all yy 4 (by omega) (by omega) (by omega) (by omega) w
  rw [dQ_pos (by omega)] at HQ
  have HB := fun w => ujbefore mm b2 b3 w
  have q0 : 0 ≤ yy / 4 ∧ yy / 4 ≤ 2500 := by omega
  have q1 : 0 ≤ (153 * mm + 2) / 5 ∧ (153 * mm + 2) / 5 ≤ 400 := by omega
  clear ht h hm
  obtain ⟨q, hq⟩ : ∃ q, yy / 4 = q := ⟨_, rfl⟩
  obtain ⟨bf, hbf⟩ : ∃ q, (153 * mm + 2) / 5 = q := ⟨_, rfl⟩
  obtain ⟨N, hN⟩ : ∃ N, jdayN y m d = N := ⟨_, rfl⟩
  rw [hq] at HQ HM q0
  rw [hbf] at HB HM q1
  rw [hN] at HM jb ⊢
  clear hq hbf hN
  have HR := fun w => ujdayok N ⟨by omega, by omega⟩ w
  generalize dyB N = g at *
  obtain ⟨q00, q01⟩ := q0
  obtain ⟨q10, q11⟩ := q1
  have HM2 : -719470 + yy * 365 + q + bf + d - 1 = N := by omega
  obtain ⟨jb0, jb1⟩ := jb
  clear HM
  replace HQ := Lib.hid HQ
  replace HB := Lib.hid HB
  replace HR := Lib.hid HR
  cases g
  all_goals
    go_enter Tryd.func34, Tryd.ntmps34
    go_wp2_with fail
    refine (HV.out _ ht2.out).mono ?_
    rintro e w1 ⟨rfl, hb⟩
    have A1 := Lib.hid (box_below hb)
    have B1 := Lib.hid (Box.new hb)
    clear hb
    obtain ⟨c0, c1, c2, z⟩ := B1.out
    go_wp2_with fail
    refine (HF.out _).mono ?_
    rintro e w2 ⟨rfl, hb⟩
    have A2 := Lib.hid (down A1.out hb)
    have B2 := Lib.hid (B1.out.keep hb)
    clear hb A1 B1 c0 c1 c2 z
    have k0 : ∀ x : Kept w2, x.wd.cell? ⟨w.heap.size, 0, none⟩ = some (.int .i64 y) := fun x => (B2.out.keep x.ok).c0
    have k1 : ∀ x : Kept w2, x.wd.cell? ⟨w.heap.size, 1, none⟩ = some (.int .i64 m) := fun x => (B2.out.keep x.ok).c1
    have k2 : ∀ x : Kept w2, x.wd.cell? ⟨w.heap.size, 2, none⟩ = some (.int .i64 d) := fun x => (B2.out.keep x.ok).c2
    go_wp2
    refine wp_region_kept (by kernel_rfl) (by kernel_rfl) ?_
    repeat (go_big_quiet_step (first
      | (go_at_call 45; exact kept_drew _ (HQ.out _))
      | (go_at_call 47; exact kept_drew _ (HB.out _))))
    refine wpQuiet_nil ?_
    intro _ hx
    obtain ⟨⟨w3, hb3⟩, hw⟩ := hx
    subst hw
    have A3 := Lib.hid (down A2.out hb3)
    clear k0 k1 k2 hb3
    go_wp2_with fail
    refine (HR.out _).mono ?_
    rintro e w4 ⟨rfl, rfl⟩
    go_wp2
    go_ret2
    exact ⟨rfl, A3.out⟩
theorem ujday (y m d : Int) (hy : I64 y) (hm : I64 m) (hd : I64 d) (w : World) (ht : JLens w) :
    Calls Tryd.prog 34 #[.agg #[.int .i64 y, .int .i64 m, .int .i64 d]] w fun e w' => e = .returned (.tuple #[.int .i64 (jdN y m d), .int .i64 (jdE y m d)]) ∧ Below w.heap.size w w' := by
  cases h : jvld y m d
  · rw [(jd_bad h).1, (jd_bad h).2]; exact ujday_no y m d hy hm hd h w ht
  · have q := ujday_yes y m d h w ht
    by_cases k : -719162 ≤ jdayN y m d ∧ jdayN y m d < 2932897
    · rw [dyB_iff.2 k] at q
      rw [(jd_in h k).1, (jd_in h k).2]; exact q
    · rw [show dyB (jdayN y m d) = false by rw [← Bool.not_eq_true, dyB_iff]; exact k] at q
      rw [(jd_out h k).1, (jd_out h k).2]; exact q
theorem ujdate_no (n : Int) (hn : I64 n) (h : n < -719162 ∨ 2932897 ≤ n) (w : World) :
    Calls Tryd.prog 23 #[.int .i64 n] w fun e w' => e = .returned (.tuple #[.agg #[.int .i64 0, .int .i64 0, .int .i64 0], .int .i64 2]) ∧ Below w.heap.size w w' := by
  have HD := fun w => ujdayok n hn w
  rw [dyB_no h] at HD
  replace HD := Lib.hid HD
  clear h
  go_enter Tryd.func23, Tryd.ntmps23
  go_wp2_with fail
  refine (HD.out _).mono ?_
  rintro e w' ⟨rfl, rfl⟩
  go_wp2
  exact bodyPost_ret (v := .tuple #[.agg #[.int .i64 0, .int .i64 0, .int .i64 0], .int .i64 2]) (by simp [results, Tryd.results23, go_sem]) rfl ⟨rfl, (Below.refl _ _).alloc (Nat.le_refl _) _⟩
set_option maxHeartbeats 1000000 in
set_option maxRecDepth 100000 in
theorem ujdate_yes (n y m d : Int) (h : jvld y m d = true) (hn : jdayN y m d = n) (r0 : -719162 ≤ n) (r1 : n < 2932897) (w : World) :
    Calls Tryd.prog 23 #[.int .i64 n] w fun e w' => e = .returned (.tuple #[.agg #[.int .i64 y, .int .i64 m, .int .i64 d], .int .i64 0]) ∧ Below w.heap.size w w' := by
  have HK := fun w => ujdayok n ⟨by omega, by omega⟩ w
  rw [dyB_yes r0 r1] at HK
  replace HK := Lib.hid HK
  have HD := fun w => cdiv (n + 719470) 1461 ⟨by omega, by omega⟩ (by omega) (by omega) w
  have qb : 0 ≤ (n + 719470) / 1461 ∧ (n + 719470) / 1461 ≤ 2500 := by omega
  have xb : 0 ≤ (n + 719470) % 1461 ∧ (n + 719470) % 1461 ≤ 1460 := by omega
  obtain ⟨q, hq⟩ : ∃ q, (n + 719470) / 1461 = q := ⟨_, rfl⟩
  obtain ⟨x, hx⟩ : ∃ q, (n + 719470) % 1461 = q := ⟨_, rfl⟩
  rw [hq, hx] at HD
  rw [hq] at qb
  rw [hx] at xb
  have HF := fun w => floor_all x 365 (by omega) (by omega) (by omega) (by omega) w
  rw [dQ_pos (by omega)] at HF
  obtain ⟨k, hk⟩ : ∃ k, min (x / 365) 3 = k := ⟨_, rfl⟩
  have kb : 0 ≤ x / 365 ∧ x / 365 ≤ 4 := by omega
  have e1 : (if 3 < x / 365 then 3 else x / 365) = k := by rw [← hk, Int.min_def]; split <;> split <;> omega
  have kb2 : 0 ≤ k ∧ k ≤ 3 := by rw [← e1]; split <;> omega
  obtain ⟨r, hr⟩ : ∃ r, x - k * 365 = r := ⟨_, rfl⟩
  obtain ⟨mm, hmm⟩ : ∃ mm, (5 * r + 2) / 153 = mm := ⟨_, rfl⟩
  have p := jparts_quot (yy := 4 * q + k) (r := r) hq hx hk rfl (by omega)
  have bd := jparts_bd p hmm.symm r0 r1
  have HL : Hid (mm ≤ 9 → 4 * q + k = y ∧ mm + 3 = m ∧ r - (153 * mm + 2) / 5 + 1 = d) := fun z =>
    jday_inj (jparts_late p hmm.symm r0 r1 z).1 h ((jparts_late p hmm.symm r0 r1 z).2.trans hn.symm)
  have HE : Hid (10 ≤ mm → 4 * q + k + 1 = y ∧ mm + 3 - 12 = m ∧ r - (153 * mm + 2) / 5 + 1 = d) := fun z => by
    have a := jday_inj (jparts_early p hmm.symm r0 r1 z).1 h ((jparts_early p hmm.symm r0 r1 z).2.trans hn.symm)
    exact ⟨a.1, by omega, a.2.2⟩
  have HM := fun w => ujmonth r bd.2.2.1 bd.2.2.2.1 w
  rw [hmm] at HM
  have HB := fun w => ujbefore mm bd.2.2.2.2.1 bd.2.2.2.2.2.1 w
  have bb : 0 ≤ (153 * mm + 2) / 5 ∧ (153 * mm + 2) / 5 ≤ 400 := by omega
  obtain ⟨y0, y1, rr0, rr1, mm0, mm1, -, -⟩ := bd
  clear h hn hq hx p hmm hk
  generalize (153 * mm + 2) / 5 = bf at *
  generalize x / 365 = u at *
  obtain ⟨bb0, bb1⟩ := bb
  obtain ⟨qb0, qb1⟩ := qb
  obtain ⟨xb0, xb1⟩ := xb
  obtain ⟨kb0, kb1⟩ := kb
  obtain ⟨kc0, kc1⟩ := kb2
  replace HD := Lib.hid HD
  replace HF := Lib.hid HF
  replace HM := Lib.hid HM
  replace HB := Lib.hid HB
  by_cases z : mm ≤ 9
  · have kz : decide (12 < mm + 3) = false := decide_eq_false (by omega)
    replace HL := Lib.hid (HL.out z)
    clear HE z
    go_enter Tryd.func23, Tryd.ntmps23
    go_wp2_with fail
    refine (HK.out _).mono ?_
    rintro e w' ⟨rfl, rfl⟩
    go_wp2_with fail
    refine (HD.out _).mono ?_
    rintro e w1 ⟨rfl, n1, rfl⟩
    go_wp2_with fail
    refine (HF.out _).mono ?_
    rintro e w2 ⟨rfl, n2, rfl⟩
    go_wp2_with fail
    refine (HM.out _).mono ?_
    rintro e w3 ⟨rfl, n3, rfl⟩
    go_wp2_with fail
    refine (HB.out _).mono ?_
    rintro e w4 ⟨rfl, n4, rfl⟩
    go_wp2
    obtain ⟨rfl, rfl, rfl⟩ := HL.out
    refine bodyPost_ret (v := .tuple #[.agg #[.int .i64 (4 * q + k), .int .i64 (mm + 3), .int .i64 (r - bf + 1)], .int .i64 0]) (by simp [results, Tryd.results23, go_sem]) rfl ⟨rfl, ?_⟩
    exact grow_alloc ((((below_drewN ((Below.refl _ _).alloc (Nat.le_refl _) _) _).setCell (Nat.le_refl _) _).setCell (Nat.le_refl _) _).setCell (Nat.le_refl _) _)
  · have kz : decide (12 < mm + 3) = true := decide_eq_true (by omega)
    replace HE := Lib.hid (HE.out (by omega))
    clear HL z
    go_enter Tryd.func23, Tryd.ntmps23
    go_wp2_with fail
    refine (HK.out _).mono ?_
    rintro e w' ⟨rfl, rfl⟩
    go_wp2_with fail
    refine (HD.out _).mono ?_
    rintro e w1 ⟨rfl, n1, rfl⟩
    go_wp2_with fail
    refine (HF.out _).mono ?_
    rintro e w2 ⟨rfl, n2, rfl⟩
    go_wp2_with fail
    refine (HM.out _).mono ?_
    rintro e w3 ⟨rfl, n3, rfl⟩
    go_wp2_with fail
    refine (HB.out _).mono ?_
    rintro e w4 ⟨rfl, n4, rfl⟩
    go_wp2
    obtain ⟨rfl, rfl, rfl⟩ := HE.out
    refine bodyPost_ret (v := .tuple #[.agg #[.int .i64 (4 * q + k + 1), .int .i64 (mm + 3 - 12), .int .i64 (r - bf + 1)], .int .i64 0]) (by simp [results, Tryd.results23, go_sem]) rfl ⟨rfl, ?_⟩
    exact grow_alloc ((((below_drewN ((Below.refl _ _).alloc (Nat.le_refl _) _) _).setCell (Nat.le_refl _) _).setCell (Nat.le_refl _) _).setCell (Nat.le_refl _) _)
theorem ref_yes {f : Int} (f0 : -719162 ≤ f) (f1 : f ≤ 2932897) : decide (-719162 ≤ f ∧ f ≤ 2932897) = true := decide_eq_true ⟨f0, f1⟩
theorem ref_no {f : Int} (h : f < -719162 ∨ 2932897 < f) : decide (-719162 ≤ f ∧ f ≤ 2932897) = false := decide_eq_false (by omega)
end Go.Proofs.YtljpjchcmiohpaaDoor

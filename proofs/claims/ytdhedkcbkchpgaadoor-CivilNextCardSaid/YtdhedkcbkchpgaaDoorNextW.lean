/- The walks of CivilNext and CivilCycle: the Go text returns true, at every input. -/
import Derived.Test.YtdhedkcbkchpgaaDoorLengthsW
import Derived.Deep.RegionWith
import Derived.RegionTactic
namespace Go.Proofs.YtdhedkcbkchpgaaDoor
open Go.RowKit
set_option linter.unusedVariables false

/-- The day after a date. -/
theorem next_in {y m d : Int} (h : vld y m d = true) (k : d < lenM y m) : vld y m (d + 1) = true ∧ dayN y m (d + 1) = dayN y m d + 1 ∧ ydy y m (d + 1) = ydy y m d + 1 := by
  have v := vld_iff.1 h
  have h' : vld y m (d + 1) = true := vld_iff.2 ⟨by omega, by omega⟩
  refine ⟨h', by unfold dayN; omega, ?_⟩
  unfold ydy; rw [if_pos h, if_pos h']; omega
theorem next_month {y m d : Int} (h : vld y m d = true) (k : d = lenM y m) (hm : m < 12) : vld y (m + 1) 1 = true ∧ dayN y (m + 1) 1 = dayN y m d + 1 ∧ ydy y (m + 1) 1 = ydy y m d + 1 := by
  obtain ⟨y0, y1, m0, m1, d0, d1⟩ := vld_bd h
  have l := lenM_in y0 y1 (m := m + 1) (by omega) (by omega)
  have h' : vld y (m + 1) 1 = true := vld_iff.2 ⟨by omega, by omega⟩
  have s := cum_succ y0 y1 m0 m1
  refine ⟨h', by unfold dayN; omega, ?_⟩
  unfold ydy; rw [if_pos h, if_pos h']; omega
theorem next_year {y m d : Int} (h : vld y m d = true) (k : d = lenM y m) (hm : m = 12) (hy : y < 9999) : vld (y + 1) 1 1 = true ∧ dayN (y + 1) 1 1 = dayN y m d + 1 ∧ ydy (y + 1) 1 1 = 1 := by
  obtain ⟨y0, y1, m0, m1, d0, d1⟩ := vld_bd h
  have f := day_first (y := y + 1) (by omega) (by omega)
  have s := cum_succ y0 y1 m0 m1
  subst hm
  have e : cum y (12 + 1) = 365 + lp y := cum_end y
  have g := first_succ y0 y1
  refine ⟨f.1, by rw [f.2]; unfold dayN; omega, ?_⟩
  unfold ydy; rw [if_pos f.1, cum_one]; omega
theorem ydy_bd {y m d : Int} (h : vld y m d = true) : 1 ≤ ydy y m d ∧ ydy y m d ≤ 366 := by
  obtain ⟨y0, y1, m0, m1, d0, d1⟩ := vld_bd h
  have a := day_in h
  have b := first_succ y0 y1
  have c := lp_01 y
  have e := cum_bd y0 y1 m0 (show m ≤ 13 by omega)
  unfold ydy; rw [if_pos h]; omega
theorem wkd_next {n : Int} (h0 : -719162 ≤ n) (h1 : n < 2932896) : wkd (n + 1) = wkd n % 7 + 1 ∧ 1 ≤ wkd n ∧ wkd n ≤ 7 := by
  unfold wkd; rw [if_neg (by omega), if_neg (by omega)]; omega
/-- 400 years later. -/
theorem lp_later {y : Int} (h0 : 1 ≤ y) (h1 : y + 400 ≤ 9999) : lp (y + 400) = lp y := by
  have a := lp_eq h0 (show y ≤ 9999 by omega)
  have b := lp_eq (show 1 ≤ y + 400 by omega) h1
  omega
theorem cum_later {y m : Int} (h0 : 1 ≤ y) (h1 : y + 400 ≤ 9999) : cum (y + 400) m = cum y m := by
  have a := lp_later h0 h1
  unfold cum; rw [a]
theorem lenM_later {y m : Int} (h0 : 1 ≤ y) (h1 : y + 400 ≤ 9999) (m0 : 1 ≤ m) (m1 : m ≤ 12) : lenM (y + 400) m = lenM y m := by
  have a := lp_later h0 h1
  unfold lenM; rw [a, if_neg (show ¬ (y + 400 < 1 ∨ 9999 < y + 400 ∨ m < 1 ∨ 12 < m) by omega), if_neg (show ¬ (y < 1 ∨ 9999 < y ∨ m < 1 ∨ 12 < m) by omega)]
theorem first_later {y : Int} : first (y + 400) = first y + 146097 := by unfold first; omega
theorem date_later {y m d n : Int} (h : vld y m d = true) (hn : dayN y m d = n) (h1 : n < 2786800) : vld (y + 400) m d = true ∧ dayN (y + 400) m d = n + 146097 ∧ ydy (y + 400) m d = ydy y m d ∧ y + 400 ≤ 9999 := by
  obtain ⟨y0, y1, m0, m1, d0, d1⟩ := vld_bd h
  have a := day_in h
  have z : y + 400 ≤ 9999 := by
    rcases Int.lt_or_le (y + 400) 10000 with k | k
    · omega
    · have f := first_le (y := 9600) (z := y) (by omega) (by omega) (by omega)
      rw [show first 9600 = 2786800 by decide] at f
      omega
  have v := vld_iff.1 h
  have h' : vld (y + 400) m d = true := vld_iff.2 ⟨by omega, by rw [lenM_later y0 z m0 m1]; omega⟩
  refine ⟨h', ?_, ?_, z⟩
  · rw [← hn]; unfold dayN; rw [first_later, cum_later y0 z]; omega
  · unfold ydy; rw [if_pos h, if_pos h', cum_later y0 z]
theorem wkd_later {n : Int} (h0 : -719162 ≤ n) (h1 : n < 2786800) : wkd (n + 146097) = wkd n := by
  unfold wkd; rw [if_neg (by omega), if_neg (by omega)]; omega
namespace CivilCycle
set_option maxRecDepth 100000 in
set_option maxHeartbeats 1000000 in
theorem walk_in (n y m d : Int) (n0 : -719162 ≤ n) (n1 : n < 2786800) (h : vld y m d = true) (hd : dayN y m d = n) (w : World) (ht : Lens w) :
    Calls Tryd.prog 10 #[.int .i64 n] w fun e w' => e = .returned (.bool true) ∧ Below w.heap.size w w' := by
  obtain ⟨h2, hd2, hy2, z2⟩ := date_later h hd n1
  have HX := Lib.hid (fun w => cdate_yes n y m d h hd w)
  have HX2 := Lib.hid (fun w => cdate_yes (n + 146097) (y + 400) m d h2 hd2 w)
  have HW := fun w => cweekday n ⟨by omega, by omega⟩ w
  have HW2 := fun w => cweekday (n + 146097) ⟨by omega, by omega⟩ w
  rw [wkd_later n0 n1] at HW2
  obtain ⟨y0, y1, m0, m1, d0, d1⟩ := vld_bd h
  have HY := fun w ht => cyearday y m d ⟨by omega, by omega⟩ ⟨by omega, by omega⟩ ⟨by omega, by omega⟩ w ht
  have HY2 := fun w ht => cyearday (y + 400) m d ⟨by omega, by omega⟩ ⟨by omega, by omega⟩ ⟨by omega, by omega⟩ w ht
  rw [hy2] at HY2
  generalize wkd n = W at *
  generalize ydy y m d = Y at *
  replace HW := Lib.hid HW
  replace HW2 := Lib.hid HW2
  replace HY := Lib.hid HY
  replace HY2 := Lib.hid HY2
  have k1 : decide (n < -719162) = false := decide_eq_false (by omega)
  have k2 : decide (2786800 ≤ n) = false := decide_eq_false (by omega)
  replace ht := Lib.hid ht
  clear h hd h2 hd2 hy2
  go_enter Tryd.func10, Tryd.ntmps10
  go_wp2_with fail
  refine (awake_all _ ht.out).mono ?_
  rintro e w1 ⟨rfl, A1⟩
  replace A1 := Lib.hid A1
  go_wp2_with fail
  refine (HX.out _).mono ?_
  rintro e w2 ⟨rfl, hb⟩
  have A2 := Lib.hid (down A1.out hb)
  clear hb A1
  go_wp2_with fail
  refine (HX2.out _).mono ?_
  rintro e w3 ⟨rfl, hb⟩
  have A3 := Lib.hid (down (grow A2.out _) hb)
  have B3 := Lib.hid (Box.new hb)
  clear hb A2
  obtain ⟨w4, hw4⟩ : ∃ w4 : World, w3.alloc (.cells #[.int .i64 (y + 400), .int .i64 m, .int .i64 d] 23) = w4 := ⟨_, rfl⟩
  have A4 : Hid (Below w.heap.size w w4) := by rw [← hw4]; exact grow A3.out _
  have B4 : Hid (Box w4 w2.heap.size (.int .i64 y) (.int .i64 m) (.int .i64 d)) := by rw [← hw4]; exact B3.out.old _
  have C4 : Hid (Box w4 w3.heap.size (.int .i64 (y + 400)) (.int .i64 m) (.int .i64 d)) := by rw [← hw4]; exact Box.new (here _)
  have HT : Hid (∀ x : Kept w4, Lens x.wd) := fun x => lens_below ht.out (down A4.out x.ok)
  have k0 : ∀ x : Kept w4, x.wd.cell? ⟨w2.heap.size, 0, none⟩ = some (.int .i64 y) := fun x => (B4.out.keep x.ok).c0
  have k1' : ∀ x : Kept w4, x.wd.cell? ⟨w2.heap.size, 1, none⟩ = some (.int .i64 m) := fun x => (B4.out.keep x.ok).c1
  have k2' : ∀ x : Kept w4, x.wd.cell? ⟨w2.heap.size, 2, none⟩ = some (.int .i64 d) := fun x => (B4.out.keep x.ok).c2
  have l0 : ∀ x : Kept w4, x.wd.cell? ⟨w3.heap.size, 0, none⟩ = some (.int .i64 (y + 400)) := fun x => (C4.out.keep x.ok).c0
  have l1 : ∀ x : Kept w4, x.wd.cell? ⟨w3.heap.size, 1, none⟩ = some (.int .i64 m) := fun x => (C4.out.keep x.ok).c1
  have l2 : ∀ x : Kept w4, x.wd.cell? ⟨w3.heap.size, 2, none⟩ = some (.int .i64 d) := fun x => (C4.out.keep x.ok).c2
  have q1 : IntKind.i64.wrap (y + 400) = y + 400 := wok (by omega) (by omega)
  have q2 : IntKind.i64.wrap (n + 146097) = n + 146097 := wok (by omega) (by omega)
  go_wp2
  clear hw4
  refine wp_region_kept (by kernel_rfl) (by kernel_rfl) ?_
  repeat (go_big_quiet_step (first
    | (go_at_call 21; first | (with_reducible exact kept_drew _ (HW.out _)) | exact kept_drew _ (HW2.out _))
    | (go_at_call 23; first | (with_reducible exact kept_call _ (HY.out _ (HT.out _))) | exact kept_call _ (HY2.out _ (HT.out _)))))
  refine wpQuiet_nil ?_
  intro _ hx
  obtain ⟨⟨w5, hb5⟩, hw⟩ := hx
  subst hw
  go_wp2
  go_ret
  exact ⟨rfl, down A4.out hb5⟩
theorem walk (n : Int) (hn : (Lit.int .i64 n).wf = true) (w : World) (ht : Lens w) :
    Calls Tryd.prog 10 #[.int .i64 n] w fun e w' => e = .returned (.bool true) ∧ Below w.heap.size w w' := by
  obtain ⟨h0, h1⟩ := i64_wf hn
  by_cases k : n < -719162 ∨ 2786800 ≤ n
  · rcases k with k | k
    · have k1 : decide (n < -719162) = true := decide_eq_true k
      go_enter Tryd.func10, Tryd.ntmps10
      go_wp2_with fail
      refine (awake_all _ ht).mono ?_
      rintro e w1 ⟨rfl, A1⟩
      go_wp2
      go_ret
      exact ⟨rfl, A1⟩
    · have k1 : decide (n < -719162) = false := decide_eq_false (by omega)
      have k2 : decide (2786800 ≤ n) = true := decide_eq_true k
      go_enter Tryd.func10, Tryd.ntmps10
      go_wp2_with fail
      refine (awake_all _ ht).mono ?_
      rintro e w1 ⟨rfl, A1⟩
      go_wp2
      go_ret
      exact ⟨rfl, A1⟩
  · obtain ⟨y, m, d, hv, he⟩ := date_of (n := n) (by omega) (by omega)
    exact walk_in n y m d (by omega) (by omega) hv he w ht
end CivilCycle
end Go.Proofs.YtdhedkcbkchpgaaDoor

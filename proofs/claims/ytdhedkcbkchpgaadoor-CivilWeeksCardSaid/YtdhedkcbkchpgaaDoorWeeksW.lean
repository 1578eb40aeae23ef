/- The walk of CivilWeeks: the Go text returns true, at every input. -/
import Derived.Test.YtdhedkcbkchpgaaDoorLengthsW
namespace Go.Proofs.YtdhedkcbkchpgaaDoor
open Go.RowKit
set_option linter.unusedVariables false

namespace CivilWeeks
set_option maxRecDepth 100000 in
set_option maxHeartbeats 2000000 in
theorem walk_no (y m v n E : Int) (hy : I64 y) (hm : I64 m) (hE : (E != 0) = true) (HX : ∀ w, Lens w → Calls Tryd.prog 31 #[.int .i64 y, .int .i64 m, .int .i64 v, .int .i64 n] w fun e w' => e = .returned (.tuple #[.int .i64 0, .int .i64 E]) ∧ Below w.heap.size w w')
    (hc : n = 0 ∨ 4 < n ∨ n < -4 ∨ lenM y m = 0 ∨ v < 1 ∨ 7 < v) (w : World) (ht : Lens w) :
    Calls Tryd.prog 12 #[.int .i64 y, .int .i64 m, .int .i64 v, .int .i64 n] w fun e w' => e = .returned (.bool true) ∧ Below w.heap.size w w' := by
  have HL := Lib.hid (fun w ht => clen y m hy hm w ht)
  replace HX := Lib.hid HX
  replace ht := Lib.hid ht
  generalize lenM y m = L at *
  clear hy hm
  by_cases a : n = 0
  · have k1 : (n == 0) = true := by rw [a]; rfl
    clear a hc
    go_enter Tryd.func12, Tryd.ntmps12
    go_wp2_with fail
    refine (awake_all _ ht.out).mono ?_
    rintro e w1 ⟨rfl, A1⟩
    replace A1 := Lib.hid A1
    go_wp2_with fail
    refine (HX.out _ (lens_below ht.out A1.out)).mono ?_
    rintro e w2 ⟨rfl, hb⟩
    have A2 := Lib.hid (down A1.out hb)
    clear hb A1
    go_wp2
    go_ret
    exact ⟨rfl, A2.out⟩
  · have k1 : (n == 0) = false := by simpa using a
    by_cases b : 4 < n
    · have k2 : decide (4 < n) = true := decide_eq_true b
      clear a hc
      go_enter Tryd.func12, Tryd.ntmps12
      go_wp2_with fail
      refine (awake_all _ ht.out).mono ?_
      rintro e w1 ⟨rfl, A1⟩
      replace A1 := Lib.hid A1
      go_wp2_with fail
      refine (HX.out _ (lens_below ht.out A1.out)).mono ?_
      rintro e w2 ⟨rfl, hb⟩
      have A2 := Lib.hid (down A1.out hb)
      clear hb A1
      go_wp2
      go_ret
      exact ⟨rfl, A2.out⟩
    · have k2 : decide (4 < n) = false := decide_eq_false b
      by_cases c : n < -4
      · have k3 : decide (n < -4) = true := decide_eq_true c
        clear a hc
        go_enter Tryd.func12, Tryd.ntmps12
        go_wp2_with fail
        refine (awake_all _ ht.out).mono ?_
        rintro e w1 ⟨rfl, A1⟩
        replace A1 := Lib.hid A1
        go_wp2_with fail
        refine (HX.out _ (lens_below ht.out A1.out)).mono ?_
        rintro e w2 ⟨rfl, hb⟩
        have A2 := Lib.hid (down A1.out hb)
        clear hb A1
        go_wp2
        go_ret
        exact ⟨rfl, A2.out⟩
      · have k3 : decide (n < -4) = false := decide_eq_false c
        obtain ⟨x1, h1⟩ : ∃ x, (L == 0) = x := ⟨_, rfl⟩
        obtain ⟨x2, h2⟩ : ∃ x, decide (v < 1) = x := ⟨_, rfl⟩
        obtain ⟨x3, h3⟩ : ∃ x, decide (7 < v) = x := ⟨_, rfl⟩
        have ho : ((x1 || x2) || x3) = true := by rw [← h1, ← h2, ← h3]; simp only [Bool.or_eq_true, decide_eq_true_eq, beq_iff_eq]; omega
        clear a b c hc
        cases x1 <;> cases x2 <;> cases x3 <;> first | (exact absurd ho (by decide)) | skip
        all_goals
          clear ho
          go_enter Tryd.func12, Tryd.ntmps12
          go_wp2_with fail
          refine (awake_all _ ht.out).mono ?_
          rintro e w1 ⟨rfl, A1⟩
          replace A1 := Lib.hid A1
          go_wp2_with fail
          refine (HX.out _ (lens_below ht.out A1.out)).mono ?_
          rintro e w2 ⟨rfl, hb⟩
          have A2 := Lib.hid (down A1.out hb)
          clear hb A1
          go_wp2_with fail
          refine (HL.out _ (lens_below ht.out A2.out)).mono ?_
          rintro e w' ⟨rfl, rfl⟩
          go_wp2
          go_ret
          exact ⟨rfl, A2.out⟩
set_option maxRecDepth 100000 in
set_option maxHeartbeats 2000000 in
theorem walk_pos (y m v n V D : Int) (HX : ∀ w, Lens w → Calls Tryd.prog 31 #[.int .i64 y, .int .i64 m, .int .i64 v, .int .i64 n] w fun e w' => e = .returned (.tuple #[.int .i64 V, .int .i64 0]) ∧ Below w.heap.size w w')
    (h : vld y m D = true) (hD : dayN y m D = V) (hW : wkd V = v) (n0 : 1 ≤ n) (n1 : n ≤ 5) (hq : (D - 1) / 7 = n - 1) (w : World) (ht : Lens w) :
    Calls Tryd.prog 12 #[.int .i64 y, .int .i64 m, .int .i64 v, .int .i64 n] w fun e w' => e = .returned (.bool true) ∧ Below w.heap.size w w' := by
  obtain ⟨y0, y1, m0, m1, d0, d1⟩ := vld_bd h
  have r := day_range h
  rw [hD] at r
  have HC := Lib.hid (fun w => cdate_yes V y m D h hD w)
  have HW := fun w => cweekday V ⟨by omega, by omega⟩ w
  rw [hW] at HW
  replace HW := Lib.hid HW
  replace HX := Lib.hid HX
  replace ht := Lib.hid ht
  have k1 : decide (n < -5) = false := decide_eq_false (by omega)
  have k2 : decide (5 < n) = false := decide_eq_false (by omega)
  have k3 : decide (0 < n) = true := decide_eq_true (by omega)
  clear h hD hW r
  go_enter Tryd.func12, Tryd.ntmps12
  go_wp2_with fail
  refine (awake_all _ ht.out).mono ?_
  rintro e w1 ⟨rfl, A1⟩
  replace A1 := Lib.hid A1
  go_wp2_with fail
  refine (HX.out _ (lens_below ht.out A1.out)).mono ?_
  rintro e w2 ⟨rfl, hb⟩
  have A2 := Lib.hid (down A1.out hb)
  clear hb A1
  go_wp2_with fail
  refine (HC.out _).mono ?_
  rintro e w3 ⟨rfl, hb⟩
  have A3 := Lib.hid (down A2.out hb)
  clear hb A2
  go_wp2_with fail
  refine (HW.out _).mono ?_
  rintro e w' ⟨rfl, j, rfl⟩
  go_wp2
  go_ret
  exact ⟨rfl, below_drewN (grow A3.out _) _⟩
set_option maxRecDepth 100000 in
set_option maxHeartbeats 2000000 in
theorem walk_neg (y m v n V D L : Int) (HX : ∀ w, Lens w → Calls Tryd.prog 31 #[.int .i64 y, .int .i64 m, .int .i64 v, .int .i64 n] w fun e w' => e = .returned (.tuple #[.int .i64 V, .int .i64 0]) ∧ Below w.heap.size w w')
    (h : vld y m D = true) (hD : dayN y m D = V) (hL : lenM y m = L) (hW : wkd V = v) (n0 : n ≤ -1) (n1 : -5 ≤ n) (hq : (L - D) / 7 = -n - 1) (w : World) (ht : Lens w) :
    Calls Tryd.prog 12 #[.int .i64 y, .int .i64 m, .int .i64 v, .int .i64 n] w fun e w' => e = .returned (.bool true) ∧ Below w.heap.size w w' := by
  obtain ⟨y0, y1, m0, m1, d0, d1⟩ := vld_bd h
  have v0 := vld_iff.1 h
  have l1 := lenM_in y0 y1 m0 m1
  rw [hL] at v0 l1
  have r := day_range h
  rw [hD] at r
  have HC := Lib.hid (fun w => cdate_yes V y m D h hD w)
  have HW := fun w => cweekday V ⟨by omega, by omega⟩ w
  rw [hW] at HW
  have HL := fun w ht => clen y m ⟨by omega, by omega⟩ ⟨by omega, by omega⟩ w ht
  rw [hL] at HL
  replace HL := Lib.hid HL
  replace HW := Lib.hid HW
  replace HX := Lib.hid HX
  replace ht := Lib.hid ht
  have k1 : decide (n < -5) = false := decide_eq_false (by omega)
  have k2 : decide (5 < n) = false := decide_eq_false (by omega)
  have k3 : decide (0 < n) = false := decide_eq_false (by omega)
  have q1 : IntKind.i64.wrap (L - D) = L - D := wok (by omega) (by omega)
  have q2 : IntKind.i64.wrap ((L - D).tdiv 7) = -n - 1 := by rw [Int.tdiv_eq_ediv_of_nonneg (by omega), hq]; exact wok (by omega) (by omega)
  have q3 : IntKind.i64.wrap (-n) = -n := wok (by omega) (by omega)
  have q4 : IntKind.i64.wrap (-n - 1) = -n - 1 := wok (by omega) (by omega)
  obtain ⟨l0, l1⟩ := l1
  have ld : 0 ≤ L - D := by omega
  clear h hD hW hL r hq v0
  go_enter Tryd.func12, Tryd.ntmps12
  go_wp2_with fail
  refine (awake_all _ ht.out).mono ?_
  rintro e w1 ⟨rfl, A1⟩
  replace A1 := Lib.hid A1
  go_wp2_with fail
  refine (HX.out _ (lens_below ht.out A1.out)).mono ?_
  rintro e w2 ⟨rfl, hb⟩
  have A2 := Lib.hid (down A1.out hb)
  clear hb A1
  go_wp2_with fail
  refine (HC.out _).mono ?_
  rintro e w3 ⟨rfl, hb⟩
  have A3 := Lib.hid (down A2.out hb)
  clear hb A2
  go_wp2_with fail
  refine (HW.out _).mono ?_
  rintro e w' ⟨rfl, j, rfl⟩
  go_wp2
  have A4 := Lib.hid (below_drewN (grow A3.out (.cells #[.int .i64 y, .int .i64 m, .int .i64 D] 23)) j)
  have B4 := Lib.hid ((Box.new (here (w3.alloc (.cells #[.int .i64 y, .int .i64 m, .int .i64 D] 23)))).drewN j)
  generalize (w3.alloc (.cells #[.int .i64 y, .int .i64 m, .int .i64 D] 23)).drewN j = w4 at *
  obtain ⟨c0, c1, c2, z⟩ := B4.out
  go_quiet ((go_at_call 19; exact qleft (HL.out _ (lens_drewN (lens_below ht.out A4.out) _))))
  go_wp2
  go_ret
  exact ⟨rfl, below_drewN A4.out _⟩
theorem walk (y m v n : Int) (hy : (Lit.int .i64 y).wf = true) (hm : (Lit.int .i64 m).wf = true) (hv : (Lit.int .i64 v).wf = true) (hn : (Lit.int .i64 n).wf = true) (w : World) (ht : Lens w) :
    Calls Tryd.prog 12 #[.int .i64 y, .int .i64 m, .int .i64 v, .int .i64 n] w fun e w' => e = .returned (.bool true) ∧ Below w.heap.size w w' := by
  replace hy := i64_wf hy
  replace hm := i64_wf hm
  replace hv := i64_wf hv
  replace hn := i64_wf hn
  by_cases h : lenM y m = 0 ∨ v < 1 ∨ 7 < v ∨ n = 0
  · exact walk_no y m v n 1 hy hm (by decide) (fun w ht => cnth_bad y m v n hy hm hv h w ht) (by omega) w ht
  · have l0 : 1 ≤ lenM y m := by
      by_cases k : y < 1 ∨ 9999 < y ∨ m < 1 ∨ 12 < m
      · have := lenM_out k; omega
      · have := lenM_in (y := y) (m := m) (by omega) (by omega) (by omega) (by omega); omega
    obtain ⟨L, hL⟩ : ∃ L, lenM y m = L := ⟨_, rfl⟩
    obtain ⟨y0, y1, m0, m1⟩ := lenM_pos (show 0 < lenM y m by omega)
    have lb := lenM_in y0 y1 m0 m1
    rw [hL] at l0 lb
    have h1 : vld y m 1 = true := vld_iff.2 ⟨by omega, by omega⟩
    have h2 : vld y m L = true := vld_iff.2 ⟨by omega, by omega⟩
    have r1 := day_range h1
    have r2 := day_range h2
    obtain ⟨s, hs⟩ : ∃ s, dayN y m 1 = s := ⟨_, rfl⟩
    have hD : ∀ D, dayN y m D = s + D - 1 := fun D => by rw [← hs]; unfold dayN; omega
    rw [hs] at r1
    rw [hD] at r2
    by_cases p : 1 ≤ n
    · obtain ⟨o, ho⟩ : ∃ o, (v - 1 - (s + 719162)) % 7 = o := ⟨_, rfl⟩
      have HX := fun w ht => cnth_pos y m v n s L o hL hs l0 (by omega) (by omega) p hn ho w ht
      by_cases z : o + 7 * (n - 1) < L
      · rw [show nthD s L o n = s + o + 7 * (n - 1) by unfold nthD; rw [if_pos z], show nthE L o n = 0 by unfold nthE; rw [if_pos z]] at HX
        refine walk_pos y m v n (s + o + 7 * (n - 1)) (o + 7 * (n - 1) + 1) HX (vld_iff.2 ⟨by omega, by omega⟩) (by rw [hD]; omega) ?_ p (by omega) (by omega) w ht
        unfold wkd; rw [if_neg (by omega)]; omega
      · rw [show nthD s L o n = 0 by unfold nthD; rw [if_neg z], show nthE L o n = 7 by unfold nthE; rw [if_neg z]] at HX
        exact walk_no y m v n 7 hy hm (by decide) HX (by omega) w ht
    · obtain ⟨o, ho⟩ : ∃ o, (s + L - 1 + 719162 - (v - 1)) % 7 = o := ⟨_, rfl⟩
      have HX := fun w ht => cnth_neg y m v n s L o hL hs l0 (by omega) (by omega) (by omega) hn ho w ht
      by_cases z : o + 7 * (-n - 1) < L
      · rw [show nthB s L o (-n) = s + L - 1 - (o + 7 * (-n - 1)) by unfold nthB; rw [if_pos z], show nthE L o (-n) = 0 by unfold nthE; rw [if_pos z]] at HX
        refine walk_neg y m v n (s + L - 1 - (o + 7 * (-n - 1))) (L - (o + 7 * (-n - 1))) L HX (vld_iff.2 ⟨by omega, by omega⟩) (by rw [hD]; omega) hL ?_ (by omega) (by omega) (by omega) w ht
        unfold wkd; rw [if_neg (by omega)]; omega
      · rw [show nthB s L o (-n) = 0 by unfold nthB; rw [if_neg z], show nthE L o (-n) = 7 by unfold nthE; rw [if_neg z]] at HX
        exact walk_no y m v n 7 hy hm (by decide) HX (by omega) w ht
end CivilWeeks
end Go.Proofs.YtdhedkcbkchpgaaDoor

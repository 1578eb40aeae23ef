/- Contracts of package civil's YearDay and Date. -/
import Derived.Test.YtdhedkcbkchpgaaDoorCivB
namespace Go.Proofs.YtdhedkcbkchpgaaDoor
open Go.RowKit
set_option linter.unusedVariables false

theorem grow_alloc {a w : World} {o : Obj} (h : Below a.heap.size a w) : Below a.heap.size a (w.alloc o) := h.alloc h.size o
theorem cyearday_no (y m d : Int) (hy : I64 y) (hm : I64 m) (hd : I64 d) (h : vld y m d = false) (w : World) (ht : Lens w) :
    Calls Tryd.prog 23 #[.agg #[.int .i64 y, .int .i64 m, .int .i64 d]] w fun e w' => e = .returned (.int .i64 0) ∧ Below w.heap.size w w' := by
  have HD := Lib.hid (fun w ht => cday_no y m d hy hm hd h w ht)
  have ht2 := Lib.hid (lens_alloc ht (.cells #[.int .i64 y, .int .i64 m, .int .i64 d] 23))
  clear ht h
  go_enter Tryd.func23, Tryd.ntmps23
  go_wp2_with fail
  refine (HD.out _ ht2.out).mono ?_
  rintro e w1 ⟨rfl, hb⟩
  have hb2 := box_below hb
  go_wp2
  go_ret
  exact ⟨rfl, hb2⟩
theorem day_first {y : Int} (y0 : 1 ≤ y) (y1 : y ≤ 9999) : vld y 1 1 = true ∧ dayN y 1 1 = first y := by
  refine ⟨vld_iff.2 ⟨by omega, ?_⟩, ?_⟩
  · have := lenM_in y0 y1 (m := 1) (by omega) (by omega); omega
  · unfold dayN; rw [cum_one]; omega
theorem cyearday_yes (y m d : Int) (h : vld y m d = true) (w : World) (ht : Lens w) :
    Calls Tryd.prog 23 #[.agg #[.int .i64 y, .int .i64 m, .int .i64 d]] w fun e w' => e = .returned (.int .i64 (cum y m + d)) ∧ Below w.heap.size w w' := by
  obtain ⟨y0, y1, m0, m1, d0, d1⟩ := vld_bd h
  have HD := Lib.hid (fun w ht => cday_yes y m d h w ht)
  have HF := fun w ht => cday_yes y 1 1 (day_first y0 y1).1 w ht
  rw [(day_first y0 y1).2] at HF
  replace HF := Lib.hid HF
  have ht2 := Lib.hid (lens_alloc ht (.cells #[.int .i64 y, .int .i64 m, .int .i64 d] 23))
  have r := day_range h
  have r2 := day_in h
  have e : Hid (cum y m + d = dayN y m d - first y + 1) := by show _ = _; omega
  have cb := cum_bd y0 y1 m0 (show m ≤ 13 by omega)
  obtain ⟨n0, n1⟩ : -719162 ≤ dayN y m d ∧ dayN y m d ≤ 2932897 := by omega
  obtain ⟨q0, q1⟩ : -720000 ≤ first y ∧ first y ≤ 2932897 := by omega
  clear h ht r r2 cb
  generalize dayN y m d = n at *
  generalize first y = f at *
  go_enter Tryd.func23, Tryd.ntmps23
  go_wp2_with fail
  refine (HD.out _ ht2.out).mono ?_
  rintro e w1 ⟨rfl, hb⟩
  have hb2 := box_below hb
  have ht3 := Lib.hid (lens_below ht2.out hb)
  obtain ⟨c0, c1, c2⟩ := box_cells hb
  go_wp2_with fail
  refine (HF.out _ ht3.out).mono ?_
  rintro e w2 ⟨rfl, hb3⟩
  have hb4 := hb2.trans (hb3.mono hb2.size)
  clear hb hb2 hb3
  go_wp2
  go_ret
  exact ⟨by rw [e.out]; rfl, hb4⟩
theorem cyearday (y m d : Int) (hy : I64 y) (hm : I64 m) (hd : I64 d) (w : World) (ht : Lens w) :
    Calls Tryd.prog 23 #[.agg #[.int .i64 y, .int .i64 m, .int .i64 d]] w fun e w' => e = .returned (.int .i64 (ydy y m d)) ∧ Below w.heap.size w w' := by
  unfold ydy
  by_cases h : vld y m d = true
  · rw [if_pos h]; exact cyearday_yes y m d h w ht
  · rw [if_neg h]; exact cyearday_no y m d hy hm hd (by simpa using h) w ht
theorem cdate_no (n : Int) (hn : I64 n) (h : n < -719162 ∨ 2932897 ≤ n) (w : World) :
    Calls Tryd.prog 27 #[.int .i64 n] w fun e w' => e = .returned (.tuple #[.agg #[.int .i64 0, .int .i64 0, .int .i64 0], .int .i64 2]) ∧ Below w.heap.size w w' := by
  have HD := fun w => cdayok n hn w
  have k : dyB n = false := by rw [← Bool.not_eq_true, dyB_iff]; omega
  rw [k] at HD
  replace HD := Lib.hid HD
  clear k h
  go_enter Tryd.func27, Tryd.ntmps27
  go_wp2_with fail
  refine (HD.out _).mono ?_
  rintro e w' ⟨rfl, rfl⟩
  go_wp2
  exact bodyPost_ret (v := .tuple #[.agg #[.int .i64 0, .int .i64 0, .int .i64 0], .int .i64 2]) (by simp [results, Tryd.results27, go_sem]) rfl ⟨rfl, (Below.refl _ _).alloc (Nat.le_refl _) _⟩
set_option maxHeartbeats 1000000 in
set_option maxRecDepth 100000 in
theorem cdate_yes (n y m d : Int) (h : vld y m d = true) (hn : dayN y m d = n) (w : World) :
    Calls Tryd.prog 27 #[.int .i64 n] w fun e w' => e = .returned (.tuple #[.agg #[.int .i64 y, .int .i64 m, .int .i64 d], .int .i64 0]) ∧ Below w.heap.size w w' := by
  obtain ⟨r0, r1⟩ := day_range h
  rw [hn] at r0 r1
  have HK := fun w => cdayok n ⟨by omega, by omega⟩ w
  rw [dyB_iff.2 ⟨r0, r1⟩] at HK
  replace HK := Lib.hid HK
  have p := parts_of r0 r1
  have HD : Hid (∀ w, Calls Tryd.prog 40 #[.int .i64 (n - 11017), .int .i64 146097] w fun e w' => e = .returned (.tuple #[.int .i64 (pC n), .int .i64 (pR n), .int .i64 0]) ∧ ∃ k, w' = w.drewN k) := fun w => cdiv (n - 11017) 146097 ⟨by omega, by omega⟩ (by omega) (by omega) w
  have HL : Hid (pM n ≤ 9 → 2000 + pC n * 400 + pA n * 100 + pF n * 4 + pO n = y ∧ pM n + 3 = m ∧ pR3 n - (153 * pM n + 2) / 5 + 1 = d) := fun q =>
    day_inj (parts_late p r0 r1 q).1 h ((parts_late p r0 r1 q).2.trans hn.symm)
  have HE : Hid (10 ≤ pM n → 2000 + pC n * 400 + pA n * 100 + pF n * 4 + pO n + 1 = y ∧ pM n + 3 - 12 = m ∧ pR3 n - (153 * pM n + 2) / 5 + 1 = d) := fun q =>
    day_inj (parts_early p r0 r1 q).1 h ((parts_early p r0 r1 q).2.trans hn.symm)
  obtain ⟨rb0, rb1⟩ := pR_bd n
  obtain ⟨-, -, ab0, ab1⟩ := pA_bd n
  obtain ⟨-, -, fb0, fb1, -⟩ := pF_bd n
  have ob : pR3 n ≤ 365 := by have := p.r1; omega
  obtain ⟨c0, c1, a0, a1, f0, f1, o0, o1, q0, -, m0, m1, -, -⟩ := p
  have e1 : (if 3 < pR n / 36524 then 3 else pR n / 36524) = pA n := by unfold pA; rw [Int.min_def]; split <;> split <;> omega
  have e2 : pR n - pA n * 36524 = pR1 n := rfl
  have e3 : pR1 n / 1461 = pF n := rfl
  have e4 : pR1 n - pF n * 1461 = pR2 n := rfl
  have e5 : (if 3 < pR2 n / 365 then 3 else pR2 n / 365) = pO n := by unfold pO; rw [Int.min_def]; split <;> split <;> omega
  have e6 : pR2 n - pO n * 365 = pR3 n := rfl
  have HM : Hid (∀ w, Calls Tryd.prog 43 #[.int .i64 (pR3 n)] w fun e w' => e = .returned (.int .i64 (pM n)) ∧ w = w') := fun w => cmonth (pR3 n) q0 ob w
  have HB := Lib.hid (fun w => cbefore (pM n) m0 m1 w)
  have bb : 0 ≤ (153 * pM n + 2) / 5 ∧ (153 * pM n + 2) / 5 ≤ 400 := by omega
  have ab2 : pR1 n ≤ 36524 := by omega
  clear h hn ab1
  generalize (153 * pM n + 2) / 5 = bf at *
  generalize pC n = C at *
  generalize pR n = R at *
  generalize pA n = A at *
  generalize pR1 n = R1 at *
  generalize pF n = F at *
  generalize pR2 n = R2 at *
  generalize pO n = O at *
  generalize pR3 n = R3 at *
  generalize pM n = M at *
  obtain ⟨bb0, bb1⟩ := bb
  by_cases z : M ≤ 9
  · have k : decide (12 < M + 3) = false := decide_eq_false (by omega)
    replace HL := Lib.hid (HL.out z)
    clear HE
    go_enter Tryd.func27, Tryd.ntmps27
    go_wp2_with fail
    refine (HK.out _).mono ?_
    rintro e w' ⟨rfl, rfl⟩
    go_wp2_with fail
    refine (HD.out _).mono ?_
    rintro e w' ⟨rfl, kk, rfl⟩
    go_wp2_with fail
    refine (HM.out _).mono ?_
    rintro e w' ⟨rfl, rfl⟩
    go_wp2_with fail
    refine (HB.out _).mono ?_
    rintro e w' ⟨rfl, rfl⟩
    go_wp2
    obtain ⟨rfl, rfl, rfl⟩ := HL.out
    refine bodyPost_ret (v := .tuple #[.agg #[.int .i64 (2000 + C * 400 + A * 100 + F * 4 + O), .int .i64 (M + 3), .int .i64 (R3 - bf + 1)], .int .i64 0]) (by simp [results, Tryd.results27, go_sem]) rfl ⟨rfl, ?_⟩
    exact grow_alloc ((((below_drewN ((Below.refl _ _).alloc (Nat.le_refl _) _) _).setCell (Nat.le_refl _) _).setCell (Nat.le_refl _) _).setCell (Nat.le_refl _) _)
  · have k : decide (12 < M + 3) = true := decide_eq_true (by omega)
    replace HE := Lib.hid (HE.out (by omega))
    clear HL
    go_enter Tryd.func27, Tryd.ntmps27
    go_wp2_with fail
    refine (HK.out _).mono ?_
    rintro e w' ⟨rfl, rfl⟩
    go_wp2_with fail
    refine (HD.out _).mono ?_
    rintro e w' ⟨rfl, kk, rfl⟩
    go_wp2_with fail
    refine (HM.out _).mono ?_
    rintro e w' ⟨rfl, rfl⟩
    go_wp2_with fail
    refine (HB.out _).mono ?_
    rintro e w' ⟨rfl, rfl⟩
    go_wp2
    obtain ⟨rfl, rfl, rfl⟩ := HE.out
    refine bodyPost_ret (v := .tuple #[.agg #[.int .i64 (2000 + C * 400 + A * 100 + F * 4 + O + 1), .int .i64 (M + 3 - 12), .int .i64 (R3 - bf + 1)], .int .i64 0]) (by simp [results, Tryd.results27, go_sem]) rfl ⟨rfl, ?_⟩
    exact grow_alloc ((((below_drewN ((Below.refl _ _).alloc (Nat.le_refl _) _) _).setCell (Nat.le_refl _) _).setCell (Nat.le_refl _) _).setCell (Nat.le_refl _) _)
end Go.Proofs.YtdhedkcbkchpgaaDoor

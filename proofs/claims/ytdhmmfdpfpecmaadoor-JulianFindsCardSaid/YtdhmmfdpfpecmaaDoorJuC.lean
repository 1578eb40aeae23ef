/- Contracts of package julian: Mixed, MixedDay. -/
import Derived.Test.YtdhmmfdpfpecmaaDoorJuB
namespace Go.Proofs.YtdhmmfdpfpecmaaDoor
open Go.RowKit
set_option linter.unusedVariables false

theorem ref_yes {f : Int} (f0 : -719162 ≤ f) (f1 : f ≤ 2932897) : decide (-719162 ≤ f ∧ f ≤ 2932897) = true := decide_eq_true ⟨f0, f1⟩
theorem ref_no {f : Int} (h : f < -719162 ∨ 2932897 < f) : decide (-719162 ≤ f ∧ f ≤ 2932897) = false := decide_eq_false (by omega)
theorem ujmixed_arg (f n : Int) (hf : I64 f) (hn : I64 n) (h : f < -719162 ∨ 2932897 < f) (w : World) :
    Calls Tryd.prog 27 #[.agg #[.int .i64 f], .int .i64 n] w fun e w' => e = .returned (.tuple #[.agg #[.int .i64 0, .int .i64 0, .int .i64 0], .int .i64 1]) ∧ Below w.heap.size w w' := by
  have HR := fun w => ujreform f hf w
  rw [ref_no h] at HR
  replace HR := Lib.hid HR
  clear h
  go_enter Tryd.func27, Tryd.ntmps27
  go_wp2_with fail
  refine (HR.out _).mono ?_
  rintro e w1 ⟨rfl, hb⟩
  have A1 := Lib.hid (down (grow (grow (here w) _) _) hb)
  have O1 := Lib.hid (One.fst hb)
  have B1 := Lib.hid (Box.snd hb)
  have F1 := Lib.hid (Free.snd hb)
  clear hb
  obtain ⟨o0, oz⟩ := O1.out
  obtain ⟨c0, c1, c2, zz⟩ := B1.out
  obtain ⟨f0', f1', f2'⟩ := F1.out
  go_wp2
  obtain ⟨w9, hw9⟩ : ∃ w9 : World, (((w1.setCell ⟨w.heap.size + 1, 0, none⟩ (.int .i64 0)).setCell ⟨w.heap.size + 1, 1, none⟩ (.int .i64 0)).setCell ⟨w.heap.size + 1, 2, none⟩ (.int .i64 0)) = w9 := ⟨_, rfl⟩
  have B9 : Box w9 (w.heap.size + 1) (.int .i64 0) (.int .i64 0) (.int .i64 0) := by rw [← hw9]; exact ((B1.out.put0 _).put1 _).put2 _
  have A9 : Below w.heap.size w w9 := by rw [← hw9]; exact ((A1.out.setCell (Nat.le_succ _) _).setCell (Nat.le_succ _) _).setCell (Nat.le_succ _) _
  obtain ⟨e0, e1, e2, -⟩ := B9
  rw [hw9]
  exact bodyPost_ret (v := .tuple #[.agg #[.int .i64 0, .int .i64 0, .int .i64 0], .int .i64 1]) (by simp [results, Tryd.results27, go_sem, e0, e1, e2]) rfl ⟨rfl, A9⟩
theorem ujmixed_low (f n a b c E : Int) (f0 : -719162 ≤ f) (f1 : f ≤ 2932897) (hn : I64 n) (k : n < f)
    (HD : ∀ w, Calls Tryd.prog 19 #[.int .i64 n] w fun e w' => e = .returned (.tuple #[.agg #[.int .i64 a, .int .i64 b, .int .i64 c], .int .i64 E]) ∧ Below w.heap.size w w') (w : World) :
    Calls Tryd.prog 27 #[.agg #[.int .i64 f], .int .i64 n] w fun e w' => e = .returned (.tuple #[.agg #[.int .i64 a, .int .i64 b, .int .i64 c], .int .i64 E]) ∧ Below w.heap.size w w' := by
  have HR := fun w => ujreform f ⟨by omega, by omega⟩ w
  rw [ref_yes f0 f1] at HR
  replace HR := Lib.hid HR
  replace HD := Lib.hid HD
  have k1 : decide (n < f) = true := decide_eq_true k
  go_enter Tryd.func27, Tryd.ntmps27
  go_wp2_with fail
  refine (HR.out _).mono ?_
  rintro e w1 ⟨rfl, hb⟩
  have A1 := Lib.hid (down (grow (grow (here w) _) _) hb)
  have O1 := Lib.hid (One.fst hb)
  have B1 := Lib.hid (Box.snd hb)
  have F1 := Lib.hid (Free.snd hb)
  clear hb
  obtain ⟨o0, oz⟩ := O1.out
  obtain ⟨c0, c1, c2, zz⟩ := B1.out
  obtain ⟨f0', f1', f2'⟩ := F1.out
  go_wp2_with fail
  refine (HD.out _).mono ?_
  rintro e w2 ⟨rfl, hb⟩
  have A2 := Lib.hid (down A1.out hb)
  have B2 := Lib.hid (B1.out.keep hb)
  have F2 := Lib.hid (F1.out.keep B1.out.lt hb)
  clear hb o0 oz c0 c1 c2 zz f0' f1' f2' B1 F1 O1 A1
  obtain ⟨c0, c1, c2, zz⟩ := B2.out
  obtain ⟨f0', f1', f2'⟩ := F2.out
  go_wp2
  obtain ⟨w9, hw9⟩ : ∃ w9 : World, (((w2.setCell ⟨w.heap.size + 1, 0, none⟩ (.int .i64 a)).setCell ⟨w.heap.size + 1, 1, none⟩ (.int .i64 b)).setCell ⟨w.heap.size + 1, 2, none⟩ (.int .i64 c)) = w9 := ⟨_, rfl⟩
  have B9 : Box w9 (w.heap.size + 1) (.int .i64 a) (.int .i64 b) (.int .i64 c) := by rw [← hw9]; exact ((B2.out.put0 _).put1 _).put2 _
  have A9 : Below w.heap.size w w9 := by rw [← hw9]; exact ((A2.out.setCell (Nat.le_succ _) _).setCell (Nat.le_succ _) _).setCell (Nat.le_succ _) _
  obtain ⟨e0, e1, e2, -⟩ := B9
  rw [hw9]
  exact bodyPost_ret (v := .tuple #[.agg #[.int .i64 a, .int .i64 b, .int .i64 c], .int .i64 E]) (by simp [results, Tryd.results27, go_sem, e0, e1, e2]) rfl ⟨rfl, A9⟩
theorem ujmixed_high (f n a b c E : Int) (f0 : -719162 ≤ f) (f1 : f ≤ 2932897) (hn : I64 n) (k : f ≤ n)
    (HD : ∀ w, Calls Tryd.prog 24 #[.int .i64 n] w fun e w' => e = .returned (.tuple #[.agg #[.int .i64 a, .int .i64 b, .int .i64 c], .int .i64 E]) ∧ Below w.heap.size w w') (w : World) :
    Calls Tryd.prog 27 #[.agg #[.int .i64 f], .int .i64 n] w fun e w' => e = .returned (.tuple #[.agg #[.int .i64 a, .int .i64 b, .int .i64 c], .int .i64 E]) ∧ Below w.heap.size w w' := by
  have HR := fun w => ujreform f ⟨by omega, by omega⟩ w
  rw [ref_yes f0 f1] at HR
  replace HR := Lib.hid HR
  replace HD := Lib.hid HD
  have k1 : decide (n < f) = false := decide_eq_false (by omega)
  go_enter Tryd.func27, Tryd.ntmps27
  go_wp2_with fail
  refine (HR.out _).mono ?_
  rintro e w1 ⟨rfl, hb⟩
  have A1 := Lib.hid (down (grow (grow (here w) _) _) hb)
  have O1 := Lib.hid (One.fst hb)
  have B1 := Lib.hid (Box.snd hb)
  have F1 := Lib.hid (Free.snd hb)
  clear hb
  obtain ⟨o0, oz⟩ := O1.out
  obtain ⟨c0, c1, c2, zz⟩ := B1.out
  obtain ⟨f0', f1', f2'⟩ := F1.out
  go_wp2_with fail
  refine (HD.out _).mono ?_
  rintro e w2 ⟨rfl, hb⟩
  have A2 := Lib.hid (down A1.out hb)
  have B2 := Lib.hid (B1.out.keep hb)
  have F2 := Lib.hid (F1.out.keep B1.out.lt hb)
  clear hb o0 oz c0 c1 c2 zz f0' f1' f2' B1 F1 O1 A1
  obtain ⟨c0, c1, c2, zz⟩ := B2.out
  obtain ⟨f0', f1', f2'⟩ := F2.out
  go_wp2
  obtain ⟨w9, hw9⟩ : ∃ w9 : World, (((w2.setCell ⟨w.heap.size + 1, 0, none⟩ (.int .i64 a)).setCell ⟨w.heap.size + 1, 1, none⟩ (.int .i64 b)).setCell ⟨w.heap.size + 1, 2, none⟩ (.int .i64 c)) = w9 := ⟨_, rfl⟩
  have B9 : Box w9 (w.heap.size + 1) (.int .i64 a) (.int .i64 b) (.int .i64 c) := by rw [← hw9]; exact ((B2.out.put0 _).put1 _).put2 _
  have A9 : Below w.heap.size w w9 := by rw [← hw9]; exact ((A2.out.setCell (Nat.le_succ _) _).setCell (Nat.le_succ _) _).setCell (Nat.le_succ _) _
  obtain ⟨e0, e1, e2, -⟩ := B9
  rw [hw9]
  exact bodyPost_ret (v := .tuple #[.agg #[.int .i64 a, .int .i64 b, .int .i64 c], .int .i64 E]) (by simp [results, Tryd.results27, go_sem, e0, e1, e2]) rfl ⟨rfl, A9⟩
theorem ujmix_bad1 (f y m d : Int) (hf : I64 f) (h : f < -719162 ∨ 2932897 < f) (w : World) :
    Calls Tryd.prog 28 #[.agg #[.int .i64 f], .agg #[.int .i64 y, .int .i64 m, .int .i64 d]] w fun e w' => e = .returned (.tuple #[.int .i64 0, .int .i64 1]) ∧ Below w.heap.size w w' := by
  have HR := fun w => ujreform f hf w
  rw [ref_no h] at HR
  replace HR := Lib.hid HR
  clear h
  go_enter Tryd.func28, Tryd.ntmps28
  go_wp2_with fail
  refine (HR.out _).mono ?_
  rintro e w1 ⟨rfl, hb⟩
  have A1 := Lib.hid (down (grow (grow (here w) _) _) hb)
  have O1 := Lib.hid (One.fst hb)
  have B1 := Lib.hid (Box.snd hb)
  clear hb
  obtain ⟨o0, oz⟩ := O1.out
  obtain ⟨c0, c1, c2, zz⟩ := B1.out
  go_wp2
  go_ret2
  exact ⟨rfl, A1.out⟩
theorem ujmix_bad2 (f y m d : Int) (f0 : -719162 ≤ f) (f1 : f ≤ 2932897) (HV : ∀ w, JLens w → Calls Tryd.prog 33 #[.agg #[.int .i64 y, .int .i64 m, .int .i64 d]] w fun e w' => e = .returned (.bool false) ∧ Below w.heap.size w w') (w : World) (ht : JLens w) :
    Calls Tryd.prog 28 #[.agg #[.int .i64 f], .agg #[.int .i64 y, .int .i64 m, .int .i64 d]] w fun e w' => e = .returned (.tuple #[.int .i64 0, .int .i64 1]) ∧ Below w.heap.size w w' := by
  have HR := fun w => ujreform f ⟨by omega, by omega⟩ w
  rw [ref_yes f0 f1] at HR
  replace HR := Lib.hid HR
  replace HV := Lib.hid HV
  replace ht := Lib.hid ht
  go_enter Tryd.func28, Tryd.ntmps28
  go_wp2_with fail
  refine (HR.out _).mono ?_
  rintro e w1 ⟨rfl, hb⟩
  have A1 := Lib.hid (down (grow (grow (here w) _) _) hb)
  have O1 := Lib.hid (One.fst hb)
  have B1 := Lib.hid (Box.snd hb)
  clear hb
  obtain ⟨o0, oz⟩ := O1.out
  obtain ⟨c0, c1, c2, zz⟩ := B1.out
  go_wp2_with fail
  refine (HV.out _ (jlens_below ht.out A1.out)).mono ?_
  rintro e w2 ⟨rfl, hb⟩
  have A2 := Lib.hid (down A1.out hb)
  clear hb
  go_wp2
  go_ret2
  exact ⟨rfl, A2.out⟩
set_option maxHeartbeats 1000000 in
theorem ujmix_any (f y m d J EJ N EN R RE : Int) (f0 : -719162 ≤ f) (f1 : f ≤ 2932897) (j0 : -800000 ≤ J) (j1 : J ≤ 3000000) (n0 : -800000 ≤ N) (n1 : N ≤ 3000000)
    (HV : ∀ w, JLens w → Calls Tryd.prog 33 #[.agg #[.int .i64 y, .int .i64 m, .int .i64 d]] w fun e w' => e = .returned (.bool true) ∧ Below w.heap.size w w')
    (HJ : ∀ w, JLens w → Calls Tryd.prog 13 #[.agg #[.int .i64 y, .int .i64 m, .int .i64 d]] w fun e w' => e = .returned (.tuple #[.int .i64 J, .int .i64 EJ]) ∧ Below w.heap.size w w')
    (HC : ∀ w, Lens w → Calls Tryd.prog 32 #[.agg #[.int .i64 y, .int .i64 m, .int .i64 d]] w fun e w' => e = .returned (.tuple #[.int .i64 N, .int .i64 EN]) ∧ Below w.heap.size w w')
    (t : EJ = 0 ∧ decide (J < f) = true ∧ EN = 0 ∧ R = J ∧ RE = 0 ∨ EJ = 0 ∧ decide (J < f) = true ∧ EN = 1 ∧ R = J ∧ RE = 0 ∨
      EJ = 0 ∧ decide (J < f) = false ∧ EN = 0 ∧ decide (f ≤ N) = true ∧ R = N ∧ RE = 0 ∨ EJ = 0 ∧ decide (J < f) = false ∧ EN = 0 ∧ decide (f ≤ N) = false ∧ R = 0 ∧ RE = 7 ∨ EJ = 0 ∧ decide (J < f) = false ∧ EN = 1 ∧ R = 0 ∧ RE = 7 ∨
      EJ = 2 ∧ EN = 0 ∧ decide (f ≤ N) = true ∧ R = N ∧ RE = 0 ∨ EJ = 2 ∧ EN = 0 ∧ decide (f ≤ N) = false ∧ R = 0 ∧ RE = 7 ∨ EJ = 2 ∧ EN = 1 ∧ R = 0 ∧ RE = 7)
    (w : World) (ht : JLens w) (hl : Lens w) :
    Calls Tryd.prog 28 #[.agg #[.int .i64 f], .agg #[.int .i64 y, .int .i64 m, .int .i64 d]] w fun e w' => e = .returned (.tuple #[.int .i64 R, .int .i64 RE]) ∧ Below w.heap.size w w' := by
  have HR := fun w => ujreform f ⟨by omega, by omega⟩ w
  rw [ref_yes f0 f1] at HR
  replace HR := Lib.hid HR
  replace HV := Lib.hid HV
  replace HJ := Lib.hid HJ
  replace HC := Lib.hid HC
  replace ht := Lib.hid ht
  replace hl := Lib.hid hl
  rcases t with ⟨rfl, k, rfl, rfl, rfl⟩ | ⟨rfl, k, rfl, rfl, rfl⟩ | ⟨rfl, k, rfl, k2, rfl, rfl⟩ | ⟨rfl, k, rfl, k2, rfl, rfl⟩ | ⟨rfl, k, rfl, rfl, rfl⟩ | ⟨rfl, rfl, k2, rfl, rfl⟩ | ⟨rfl, rfl, k2, rfl, rfl⟩ | ⟨rfl, rfl, rfl, rfl⟩
  all_goals
    go_enter Tryd.func28, Tryd.ntmps28
    go_wp2_with fail
    refine (HR.out _).mono ?_
    rintro e w1 ⟨rfl, hb⟩
    have A1 := Lib.hid (down (grow (grow (here w) _) _) hb)
    have O1 := Lib.hid (One.fst hb)
    have B1 := Lib.hid (Box.snd hb)
    clear hb
    obtain ⟨o0, oz⟩ := O1.out
    obtain ⟨c0, c1, c2, zz⟩ := B1.out
    go_wp2_with fail
    refine (HV.out _ (jlens_below ht.out A1.out)).mono ?_
    rintro e w2 ⟨rfl, hb⟩
    have A2 := Lib.hid (down A1.out hb)
    have O2 := Lib.hid (O1.out.keep hb)
    have B2 := Lib.hid (B1.out.keep hb)
    clear hb o0 oz c0 c1 c2 zz A1 O1 B1
    obtain ⟨o0, oz⟩ := O2.out
    obtain ⟨c0, c1, c2, zz⟩ := B2.out
    go_wp2_with fail
    refine (HJ.out _ (jlens_below ht.out A2.out)).mono ?_
    rintro e w3 ⟨rfl, hb⟩
    have A3 := Lib.hid (down A2.out hb)
    have O3 := Lib.hid (O2.out.keep hb)
    have B3 := Lib.hid (B2.out.keep hb)
    clear hb o0 oz c0 c1 c2 zz A2 O2 B2
    obtain ⟨o0, oz⟩ := O3.out
    obtain ⟨c0, c1, c2, zz⟩ := B3.out
    go_wp2_with fail
    refine (HC.out _ (lens_below hl.out A3.out)).mono ?_
    rintro e w4 ⟨rfl, hb⟩
    have A4 := Lib.hid (down A3.out hb)
    have O4 := Lib.hid (O3.out.keep hb)
    clear hb o0 oz c0 c1 c2 zz A3 O3 B3
    obtain ⟨o0, oz⟩ := O4.out
    go_wp2
    go_ret2
    exact ⟨rfl, A4.out⟩
theorem ujmix (f y m d : Int) (hf : I64 f) (hy : I64 y) (hm : I64 m) (hd : I64 d) (w : World) (ht : JLens w) (hl : Lens w) :
    Calls Tryd.prog 28 #[.agg #[.int .i64 f], .agg #[.int .i64 y, .int .i64 m, .int .i64 d]] w fun e w' => e = .returned (.tuple #[.int .i64 (mixN f y m d), .int .i64 (mixE f y m d)]) ∧ Below w.heap.size w w' := by
  by_cases b : f < -719162 ∨ 2932897 < f
  · have e := mix_bad (f := f) (y := y) (m := m) (d := d) (by omega)
    rw [e.1, e.2]
    exact ujmix_bad1 f y m d hf b w
  · have f0 : -719162 ≤ f := by omega
    have f1 : f ≤ 2932897 := by omega
    cases hj : jvld y m d
    · have e := mix_bad (f := f) (Or.inr (Or.inr hj))
      rw [e.1, e.2]
      exact ujmix_bad2 f y m d f0 f1 (fun w ht => by have q := ujvalid y m d hy hm hd w ht; rw [hj] at q; exact q) w ht
    · have HV : ∀ w, JLens w → Calls Tryd.prog 33 #[.agg #[.int .i64 y, .int .i64 m, .int .i64 d]] w fun e w' => e = .returned (.bool true) ∧ Below w.heap.size w w' := fun w ht => by have q := ujvalid y m d hy hm hd w ht; rw [hj] at q; exact q
      have HJ := fun w ht => ujday_yes y m d hj w ht
      have jb := jday_bd hj
      by_cases c : -719162 ≤ jdayN y m d ∧ jdayN y m d < f
      · have e := mix_julian f0 f1 hj c.1 c.2
        rw [e.1, e.2]
        rw [dyB_iff.2 ⟨c.1, by omega⟩] at HJ
        cases hv : vld y m d
        · exact ujmix_any f y m d (jdayN y m d) 0 0 1 _ _ f0 f1 (by omega) (by omega) (by omega) (by omega) HV HJ (fun w h => cday_no y m d hy hm hd hv w h) (.inr (.inl ⟨rfl, decide_eq_true c.2, rfl, rfl, rfl⟩)) w ht hl
        · have r := day_range hv
          exact ujmix_any f y m d (jdayN y m d) 0 (dayN y m d) 0 _ _ f0 f1 (by omega) (by omega) (by omega) (by omega) HV HJ (fun w h => cday_yes y m d hv w h) (.inl ⟨rfl, decide_eq_true c.2, rfl, rfl, rfl⟩) w ht hl
      · cases hv : vld y m d
        · have e := mix_none f0 f1 hj c (Or.inl hv)
          rw [e.1, e.2]
          cases hb : dyB (jdayN y m d)
          · rw [hb] at HJ
            exact ujmix_any f y m d 0 2 0 1 _ _ f0 f1 (by omega) (by omega) (by omega) (by omega) HV HJ (fun w h => cday_no y m d hy hm hd hv w h) (.inr (.inr (.inr (.inr (.inr (.inr (.inr ⟨rfl, rfl, rfl, rfl⟩))))))) w ht hl
          · rw [hb] at HJ
            have q := dyB_iff.1 hb
            exact ujmix_any f y m d (jdayN y m d) 0 0 1 _ _ f0 f1 (by omega) (by omega) (by omega) (by omega) HV HJ (fun w h => cday_no y m d hy hm hd hv w h) (.inr (.inr (.inr (.inr (.inl ⟨rfl, decide_eq_false (by omega), rfl, rfl, rfl⟩))))) w ht hl
        · have r := day_range hv
          have HC := fun w h => cday_yes y m d hv w h
          by_cases k : f ≤ dayN y m d
          · have e := mix_greg f0 f1 hv c k
            rw [e.1, e.2]
            cases hb : dyB (jdayN y m d)
            · rw [hb] at HJ
              exact ujmix_any f y m d 0 2 (dayN y m d) 0 _ _ f0 f1 (by omega) (by omega) (by omega) (by omega) HV HJ HC (.inr (.inr (.inr (.inr (.inr (.inl ⟨rfl, rfl, decide_eq_true k, rfl, rfl⟩)))))) w ht hl
            · rw [hb] at HJ
              have q := dyB_iff.1 hb
              exact ujmix_any f y m d (jdayN y m d) 0 (dayN y m d) 0 _ _ f0 f1 (by omega) (by omega) (by omega) (by omega) HV HJ HC (.inr (.inr (.inl ⟨rfl, decide_eq_false (by omega), rfl, decide_eq_true k, rfl, rfl⟩))) w ht hl
          · have e := mix_none f0 f1 hj c (Or.inr (by omega))
            rw [e.1, e.2]
            cases hb : dyB (jdayN y m d)
            · rw [hb] at HJ
              exact ujmix_any f y m d 0 2 (dayN y m d) 0 _ _ f0 f1 (by omega) (by omega) (by omega) (by omega) HV HJ HC (.inr (.inr (.inr (.inr (.inr (.inr (.inl ⟨rfl, rfl, decide_eq_false k, rfl, rfl⟩))))))) w ht hl
            · rw [hb] at HJ
              have q := dyB_iff.1 hb
              exact ujmix_any f y m d (jdayN y m d) 0 (dayN y m d) 0 _ _ f0 f1 (by omega) (by omega) (by omega) (by omega) HV HJ HC (.inr (.inr (.inr (.inl ⟨rfl, decide_eq_false (by omega), rfl, decide_eq_false k, rfl, rfl⟩)))) w ht hl
end Go.Proofs.YtdhmmfdpfpecmaaDoor

/- The examples of the chapter, and what both sides return. -/
import Derived.Test.YtimpaaimdjlhjaaDoorRefY
namespace Go.Proofs.YtimpaaimdjlhjaaDoor
open Go.RowKit
set_option linter.unusedVariables false

theorem ex_of (w : World) (ht : Lens w) : Calls Tryd.prog 13 #[.agg #[.int .i64 1, .int .i64 4], .int .i64 20454] w fun e w' => e = .returned (.tuple #[.agg #[.int .i64 2026, .int .i64 1, .int .i64 4], .int .i64 0]) ∧ Below w.heap.size w w' := by
  have h := kOf_in 1 4 20454 2026 (by decide) ⟨by decide, by decide, by decide +kernel, by decide +kernel⟩ (by decide) (by decide) w ht
  rw [show wkW 1 4 20454 2026 = 1 by decide +kernel, show wdy 20454 = 4 by decide +kernel] at h
  exact h
theorem ex_start (w : World) (ht : Lens w) : Calls Tryd.prog 20 #[.agg #[.int .i64 1, .int .i64 4], .int .i64 2026] w fun e w' => e = .returned (.tuple #[.int .i64 20451, .int .i64 0]) ∧ Below w.heap.size w w' := by
  have h := kStart_yes 1 4 2026 (by decide) (by decide) (by decide) w ht
  rw [show wkS 1 4 2026 = 20451 by decide +kernel] at h
  exact h
theorem ex_start2 (w : World) (ht : Lens w) : Calls Tryd.prog 20 #[.agg #[.int .i64 7, .int .i64 1], .int .i64 2026] w fun e w' => e = .returned (.tuple #[.int .i64 20450, .int .i64 0]) ∧ Below w.heap.size w w' := by
  have h := kStart_yes 7 1 2026 (by decide) (by decide) (by decide) w ht
  rw [show wkS 7 1 2026 = 20450 by decide +kernel] at h
  exact h
set_option maxRecDepth 100000 in
set_option maxHeartbeats 1000000 in
theorem awake_all (w : World) (ht : Lens w) :
    Calls Tryd.prog 12 #[] w fun e w' => e = .returned (.bool true) ∧ Below w.heap.size w w' := by
  replace ht := Lib.hid ht
  go_enter Tryd.func12, Tryd.ntmps12
  go_wp2_with fail
  refine (kiso _).mono ?_
  rintro e w1 ⟨rfl, A1⟩
  replace A1 := Lib.hid A1
  go_wp2_with fail
  refine (ex_of _ (lens_below ht.out A1.out)).mono ?_
  rintro e w2 ⟨rfl, hb⟩
  have A2 := Lib.hid (down A1.out hb)
  clear hb A1
  go_wp2_with fail
  refine (kiso _).mono ?_
  rintro e w3 ⟨rfl, hb⟩
  have A3 := Lib.hid (down (grow A2.out _) hb)
  have B3 := Lib.hid (Box.new hb)
  clear hb A2
  go_wp2_with fail
  refine (ex_start _ (lens_below ht.out A3.out)).mono ?_
  rintro e w4 ⟨rfl, hb⟩
  have A4 := Lib.hid (down A3.out hb)
  have B4 := Lib.hid (B3.out.keep hb)
  clear hb A3 B3
  go_wp2_with fail
  refine (ex_start2 _ (lens_below ht.out A4.out)).mono ?_
  rintro e w5 ⟨rfl, hb⟩
  have A5 := Lib.hid (down A4.out hb)
  have B5 := Lib.hid (B4.out.keep hb)
  clear hb A4 B4
  obtain ⟨c0, c1, c2, z⟩ := B5.out
  go_wp2
  go_ret
  exact ⟨rfl, A5.out⟩
theorem both_of (F M n : Int) (hF : I64 F) (hM : I64 M) (hn : I64 n) : ∃ a b c E : Int,
    (∀ w, Lens w → Calls Tryd.prog 13 #[.agg #[.int .i64 F, .int .i64 M], .int .i64 n] w fun e w' => e = .returned (.tuple #[.agg #[.int .i64 a, .int .i64 b, .int .i64 c], .int .i64 E]) ∧ Below w.heap.size w w') ∧
    (∀ w, Calls Tryd.prog 14 #[.agg #[.int .i64 F, .int .i64 M], .int .i64 n] w fun e w' => e = .returned (.tuple #[.agg #[.int .i64 a, .int .i64 b, .int .i64 c], .int .i64 E]) ∧ Below w.heap.size w w') := by
  rcases ofE_cases F M n with ⟨h, -⟩ | ⟨h, -, k, q⟩ | ⟨h, -, r0, r1, Y, k⟩
  · exact ⟨_, _, _, _, fun w ht => kOf_arg F M n hF hM h w, fun w => rOf_arg F M n hF hM h w⟩
  · rcases k with k | ⟨r, k⟩
    · exact ⟨_, _, _, _, fun w ht => kOf_no F M n h hn (by omega) w, fun w => rOf_out F M n h hn (by rw [← Bool.not_eq_true, dyB_iff]; exact k) w⟩
    · exact ⟨_, _, _, _, fun w ht => kOf_out F M n h k r.1 r.2 w ht, fun w => rOf_far F M n h (dyB_iff.2 r) (fun x => q ⟨r.1, r.2, x.1, x.2⟩) w⟩
  · exact ⟨_, _, _, _, fun w ht => kOf_in F M n Y h k r0 r1 w ht, fun w => rOf_in F M n Y h k r0 r1 w⟩
theorem both_day (F M Y W D : Int) (hF : I64 F) (hM : I64 M) (hY : I64 Y) (hW : I64 W) (hD : I64 D) : ∃ V E : Int,
    (∀ w, Lens w → Calls Tryd.prog 18 #[.agg #[.int .i64 F, .int .i64 M], .agg #[.int .i64 Y, .int .i64 W, .int .i64 D]] w fun e w' => e = .returned (.tuple #[.int .i64 V, .int .i64 E]) ∧ Below w.heap.size w w') ∧
    (∀ w, Calls Tryd.prog 19 #[.agg #[.int .i64 F, .int .i64 M], .agg #[.int .i64 Y, .int .i64 W, .int .i64 D]] w fun e w' => e = .returned (.tuple #[.int .i64 V, .int .i64 E]) ∧ Below w.heap.size w w') := by
  by_cases h : rulB F M = true
  · by_cases y : yrB Y = true
    · obtain ⟨y0, y1⟩ := yrB_iff.1 y
      by_cases k : 1 ≤ W ∧ W ≤ wkN F M Y ∧ 1 ≤ D ∧ D ≤ 7
      · exact ⟨_, _, fun w ht => kDay_yes F M Y W D h y0 y1 k.1 k.2.1 k.2.2.1 k.2.2.2 _ rfl w ht, fun w => rDay_yes F M Y W D h y0 y1 k.1 k.2.1 k.2.2.1 k.2.2.2 _ rfl w⟩
      · exact ⟨_, _, fun w ht => kDay_bad F M Y W D h y0 y1 hW hD k w ht, fun w => rDay_bad F M Y W D h hY hW hD (fun _ _ => k) w⟩
    · have y' : ¬ (1 ≤ Y ∧ Y ≤ 9999) := fun x => y (yrB_iff.2 x)
      rw [Bool.not_eq_true] at y
      exact ⟨_, _, fun w ht => kDay_no F M Y W D 2 (by omega) (by omega) (fun w => kWeeks_no F M Y 2 (by omega) (by omega) (fun w => kStart_range F M Y h hY y w) w) w, fun w => rDay_bad F M Y W D h hY hW hD (fun a b => absurd ⟨a, b⟩ y') w⟩
  · rw [Bool.not_eq_true] at h
    exact ⟨_, _, fun w ht => kDay_no F M Y W D 1 (by omega) (by omega) (fun w => kWeeks_no F M Y 1 (by omega) (by omega) (fun w => kStart_arg F M Y hF hM h w) w) w, fun w => rDay_arg F M Y W D hF hM h w⟩
theorem both_ord (n : Int) (hn : I64 n) : ∃ a b E : Int,
    (∀ w, Lens w → Calls Tryd.prog 28 #[.int .i64 n] w fun e w' => e = .returned (.tuple #[.int .i64 a, .int .i64 b, .int .i64 E]) ∧ Below w.heap.size w w') ∧
    (∀ w, Calls Tryd.prog 29 #[.int .i64 n] w fun e w' => e = .returned (.tuple #[.int .i64 a, .int .i64 b, .int .i64 E]) ∧ w = w') := by
  by_cases h : n < -719162 ∨ 2932897 ≤ n
  · exact ⟨_, _, _, fun w ht => kOrd_no n hn h w, fun w => rOrd_no n hn (by rw [← Bool.not_eq_true, dyB_iff]; omega) w⟩
  · obtain ⟨y, m, d, hv, he⟩ := date_of (n := n) (by omega) (by omega)
    obtain ⟨y0, y1, -, -, -, -⟩ := vld_bd hv
    have a := day_in hv
    rw [he] at a
    exact ⟨_, _, _, fun w ht => kOrd_yes n y m d hv he w ht, fun w => rOrd_yes n y y0 y1 a.1 a.2.1 w⟩
theorem both_from (y n : Int) (hy : I64 y) (hn : I64 n) : ∃ V E : Int,
    (∀ w, Lens w → Calls Tryd.prog 30 #[.int .i64 y, .int .i64 n] w fun e w' => e = .returned (.tuple #[.int .i64 V, .int .i64 E]) ∧ Below w.heap.size w w') ∧
    (∀ w, Calls Tryd.prog 31 #[.int .i64 y, .int .i64 n] w fun e w' => e = .returned (.tuple #[.int .i64 V, .int .i64 E]) ∧ w = w') := by
  by_cases h : yrB y = true
  · obtain ⟨y0, y1⟩ := yrB_iff.1 h
    by_cases k : n < 1 ∨ 366 < n
    · have s := first_succ y0 y1
      have l := lp_01 y
      exact ⟨_, _, fun w ht => kFrom_in y n y0 y1 hn false (decide_eq_false (by omega)) w ht, fun w => rFrom_no y n hy hn (by omega) w⟩
    · exact ⟨_, _, fun w ht => kFrom_in y n y0 y1 hn (decide (first y + n ≤ first (y + 1))) (decide_eq_decide.2 (by omega)) w ht, fun w => rFrom_in y n y0 y1 (by omega) (by omega) _ rfl w⟩
  · have h' : ¬ (1 ≤ y ∧ y ≤ 9999) := fun x => h (yrB_iff.2 x)
    rw [Bool.not_eq_true] at h
    exact ⟨_, _, fun w ht => kFrom_year y n hy h w, fun w => rFrom_no y n hy hn (by omega) w⟩
end Go.Proofs.YtimpaaimdjlhjaaDoor

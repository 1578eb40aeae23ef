/- Contracts of package week: Of in one piece, Day, Ordinal, FromOrdinal. -/
import Derived.Test.YtimpaaimdjlhjaaDoorWkB
import Derived.Deep.RegionWith
import Derived.RegionTactic
namespace Go.Proofs.YtimpaaimdjlhjaaDoor
open Go.RowKit
set_option linter.unusedVariables false

theorem inY_of {F M n : Int} (m0 : 1 ≤ M) (m1 : M ≤ 7) (r0 : -719162 ≤ n) (r1 : n < 2932897) (a : wkS F M 1 ≤ n) (b : n < wkS F M 10000) : ∃ Y, InY F M n Y := by
  obtain ⟨y, m, d, hv, hn⟩ := date_of r0 r1
  obtain ⟨y0, y1, -, -, -, -⟩ := vld_bd hv
  have h := day_in hv
  rw [hn] at h
  obtain ⟨p1, p2, -, -⟩ := year_near (F := F) m0 m1 y0 y1 h.1 h.2.1
  rcases near F M n y with c | ⟨c, c'⟩ | ⟨c, c'⟩
  · have z : 2 ≤ y := by
      rcases Int.lt_or_le y 2 with k | k
      · obtain rfl : y = 1 := by omega
        omega
      · exact k
    exact ⟨y - 1, by omega, by omega, p1 c z, by rw [show y - 1 + 1 = y by omega]; exact c⟩
  · exact ⟨y, y0, y1, c, c'⟩
  · have z : y ≤ 9998 := by
      rcases Int.lt_or_le 9998 y with k | k
      · obtain rfl : y = 9999 := by omega
        rw [show (9999 : Int) + 1 = 10000 from rfl] at c'
        omega
      · exact k
    exact ⟨y + 1, by omega, by omega, c', p2 c' z⟩
theorem kOf_in (F M n Y : Int) (h : rulB F M = true) (k : InY F M n Y) (r0 : -719162 ≤ n) (r1 : n < 2932897) (w : World) (ht : Lens w) :
    Calls Tryd.prog 13 #[.agg #[.int .i64 F, .int .i64 M], .int .i64 n] w fun e w' => e = .returned (.tuple #[.agg #[.int .i64 Y, .int .i64 (wkW F M n Y), .int .i64 (wdy n)], .int .i64 0]) ∧ Below w.heap.size w w' := by
  obtain ⟨f0, f1, m0, m1⟩ := rulB_iff.1 h
  obtain ⟨y, m, d, hv, hn⟩ := date_of r0 r1
  obtain ⟨y0, y1, -, -, -, -⟩ := vld_bd hv
  have hd := day_in hv
  rw [hn] at hd
  obtain ⟨p1, p2, -, -⟩ := year_near (F := F) m0 m1 y0 y1 hd.1 hd.2.1
  rcases near F M n y with c | ⟨c, c'⟩ | ⟨c, c'⟩
  · have z : 2 ≤ y := by
      rcases Int.lt_or_le y 2 with q | q
      · obtain rfl : y = 1 := by omega
        have := wkS_mono (F := F) m0 m1 (y := 1) (z := Y) (by omega) k.y0 (by have := k.y1; omega)
        have := k.lo
        omega
      · exact q
    have e : InY F M n (y - 1) := ⟨by omega, by omega, p1 c z, by rw [show y - 1 + 1 = y by omega]; exact c⟩
    obtain rfl := InY.uniq m0 m1 k e
    exact kOf_before F M n y m d h hv hn z e.lo c w ht
  · obtain rfl := InY.uniq m0 m1 k ⟨y0, y1, c, c'⟩
    exact kOf_same F M n Y m d h hv hn c c' w ht
  · have z : y ≤ 9998 := by
      rcases Int.lt_or_le 9998 y with q | q
      · obtain rfl : y = 9999 := by omega
        have := wkS_mono (F := F) m0 m1 (y := Y + 1) (z := 9999 + 1) (by have := k.y0; omega) (by have := k.y1; omega) (by omega)
        have := k.hi
        omega
      · exact q
    obtain rfl := InY.uniq m0 m1 k ⟨by omega, by omega, c', p2 c' z⟩
    exact kOf_behind F M n y m d h hv hn z c c' w ht
theorem kOf_out (F M n : Int) (h : rulB F M = true) (k : ∀ Y, ¬ InY F M n Y) (r0 : -719162 ≤ n) (r1 : n < 2932897) (w : World) (ht : Lens w) :
    Calls Tryd.prog 13 #[.agg #[.int .i64 F, .int .i64 M], .int .i64 n] w fun e w' => e = .returned (.tuple #[.agg #[.int .i64 0, .int .i64 0, .int .i64 0], .int .i64 2]) ∧ Below w.heap.size w w' := by
  obtain ⟨f0, f1, m0, m1⟩ := rulB_iff.1 h
  obtain ⟨y, m, d, hv, hn⟩ := date_of r0 r1
  obtain ⟨y0, y1, -, -, -, -⟩ := vld_bd hv
  have hd := day_in hv
  rw [hn] at hd
  obtain ⟨p1, p2, -, -⟩ := year_near (F := F) m0 m1 y0 y1 hd.1 hd.2.1
  rcases near F M n y with c | ⟨c, c'⟩ | ⟨c, c'⟩
  · have z : y ≤ 1 := by
      rcases Int.lt_or_le 1 y with q | q
      · exact absurd ⟨by omega, by omega, p1 c (by omega), by rw [show y - 1 + 1 = y by omega]; exact c⟩ (k (y - 1))
      · exact q
    exact kOf_first F M n y m d h hv hn z c w ht
  · exact absurd ⟨y0, y1, c, c'⟩ (k y)
  · have z : 9999 ≤ y := by
      rcases Int.lt_or_le y 9999 with q | q
      · exact absurd ⟨by omega, by omega, c', p2 c' (by omega)⟩ (k (y + 1))
      · exact q
    exact kOf_last F M n y m d h hv hn z c c' w ht
/-- What Of returns, and its error number. -/
def ofE (F M n : Int) : Int := if rulB F M then (if -719162 ≤ n ∧ n < 2932897 ∧ wkS F M 1 ≤ n ∧ n < wkS F M 10000 then 0 else 2) else 1
theorem ofE_cases (F M n : Int) : rulB F M = false ∧ ofE F M n = 1 ∨ rulB F M = true ∧ ofE F M n = 2 ∧ (¬ (-719162 ≤ n ∧ n < 2932897) ∨ (-719162 ≤ n ∧ n < 2932897) ∧ ∀ Y, ¬ InY F M n Y) ∧ ¬ (-719162 ≤ n ∧ n < 2932897 ∧ wkS F M 1 ≤ n ∧ n < wkS F M 10000)
    ∨ rulB F M = true ∧ ofE F M n = 0 ∧ -719162 ≤ n ∧ n < 2932897 ∧ ∃ Y, InY F M n Y := by
  unfold ofE
  by_cases h : rulB F M = true
  · obtain ⟨f0, f1, m0, m1⟩ := rulB_iff.1 h
    rw [if_pos h]
    by_cases k : -719162 ≤ n ∧ n < 2932897 ∧ wkS F M 1 ≤ n ∧ n < wkS F M 10000
    · rw [if_pos k]
      exact .inr (.inr ⟨h, rfl, k.1, k.2.1, inY_of m0 m1 k.1 k.2.1 k.2.2.1 k.2.2.2⟩)
    · rw [if_neg k]
      refine .inr (.inl ⟨h, rfl, ?_, k⟩)
      by_cases r : -719162 ≤ n ∧ n < 2932897
      · refine .inr ⟨r, fun Y ⟨a, b, c, d⟩ => k ⟨r.1, r.2, ?_, ?_⟩⟩
        · have := wkS_mono (F := F) m0 m1 (y := 1) (z := Y) (by omega) a (by omega); omega
        · have := wkS_mono (F := F) m0 m1 (y := Y + 1) (z := 10000) (by omega) (by omega) (by omega); omega
      · exact .inl r
  · rw [if_neg h]
    exact .inl ⟨by simpa using h, rfl⟩
theorem kDay_no (F M Y W D E : Int) (e0 : 1 ≤ E) (e1 : E ≤ 2) (H : ∀ w, Calls Tryd.prog 21 #[.agg #[.int .i64 F, .int .i64 M], .int .i64 Y] w fun e w' => e = .returned (.tuple #[.int .i64 0, .int .i64 E]) ∧ Below w.heap.size w w') (w : World) :
    Calls Tryd.prog 18 #[.agg #[.int .i64 F, .int .i64 M], .agg #[.int .i64 Y, .int .i64 W, .int .i64 D]] w fun e w' => e = .returned (.tuple #[.int .i64 0, .int .i64 E]) ∧ Below w.heap.size w w' := by
  replace H := Lib.hid H
  have k : (E != 0) = true := by simp; omega
  clear e0 e1
  go_enter Tryd.func18, Tryd.ntmps18
  go_wp2_with fail
  refine (H.out _).mono ?_
  rintro e w1 ⟨rfl, hb⟩
  have A1 := Lib.hid (down (grow (grow (here w) _) _) hb)
  clear hb
  go_wp2
  go_ret2
  exact ⟨rfl, A1.out⟩
theorem kDay_bad (F M Y W D : Int) (h : rulB F M = true) (y0 : 1 ≤ Y) (y1 : Y ≤ 9999) (hW : I64 W) (hD : I64 D) (k : ¬ (1 ≤ W ∧ W ≤ wkN F M Y ∧ 1 ≤ D ∧ D ≤ 7)) (w : World) (ht : Lens w) :
    Calls Tryd.prog 18 #[.agg #[.int .i64 F, .int .i64 M], .agg #[.int .i64 Y, .int .i64 W, .int .i64 D]] w fun e w' => e = .returned (.tuple #[.int .i64 0, .int .i64 2]) ∧ Below w.heap.size w w' := by
  have HW := fun w ht => kWeeks_yes F M Y h y0 y1 w ht
  have HD := fun w => kwday D hD w
  obtain ⟨h0, h1⟩ := hW
  obtain ⟨f0, f1, m0, m1⟩ := rulB_iff.1 h
  have kb := (wkN_in (F := F) m0 m1 y0 y1).2
  generalize wkN F M Y = K at *
  obtain ⟨a, ha⟩ : ∃ a, decide (W < 1) = a := ⟨_, rfl⟩
  obtain ⟨b, hb⟩ : ∃ a, decide (K < W) = a := ⟨_, rfl⟩
  obtain ⟨c, hc⟩ : ∃ a, (decide (1 ≤ D) && decide (D ≤ 7)) = a := ⟨_, rfl⟩
  rw [hc] at HD
  have t : (a || b || !c) = true := by
    subst ha; subst hb; subst hc
    simp only [Bool.or_eq_true, Bool.not_eq_true', Bool.and_eq_false_iff, decide_eq_true_eq, decide_eq_false_iff_not]; omega
  have k0 : -9223372036854775808 ≤ K := by omega
  have k1 : K ≤ 9223372036854775807 := by omega
  replace HW := Lib.hid HW
  replace HD := Lib.hid HD
  replace ht := Lib.hid ht
  clear h hc k kb
  cases a <;> cases b <;> cases c <;> (try cases t)
  all_goals
    go_enter Tryd.func18, Tryd.ntmps18
    go_wp2_with fail
    refine (HW.out _ (lens_alloc (lens_alloc ht.out _) _)).mono ?_
    rintro e w1 ⟨rfl, hb⟩
    have A1 := Lib.hid (down (grow (grow (here w) _) _) hb)
    have B1 := Lib.hid (Box.snd hb)
    clear hb
    obtain ⟨c0, c1, c2, z⟩ := B1.out
    first
    | (go_wp2_with fail
       refine (HD.out _).mono ?_
       rintro e w2 ⟨rfl, rfl⟩
       go_wp2
       go_ret2
       exact ⟨rfl, A1.out⟩)
    | (go_wp2
       go_ret2
       exact ⟨rfl, A1.out⟩)
set_option maxHeartbeats 1000000 in
theorem kDay_yes (F M Y W D : Int) (h : rulB F M = true) (y0 : 1 ≤ Y) (y1 : Y ≤ 9999) (w0 : 1 ≤ W) (w1 : W ≤ wkN F M Y) (d0 : 1 ≤ D) (d1 : D ≤ 7) (i : Bool) (hi : dyB (wkD F M Y W D) = i) (w : World) (ht : Lens w) :
    Calls Tryd.prog 18 #[.agg #[.int .i64 F, .int .i64 M], .agg #[.int .i64 Y, .int .i64 W, .int .i64 D]] w fun e w' => e = .returned (.tuple #[.int .i64 (if i then wkD F M Y W D else 0), .int .i64 (if i then 0 else 2)]) ∧ Below w.heap.size w w' := by
  obtain ⟨f0, f1, m0, m1⟩ := rulB_iff.1 h
  have HW := fun w ht => kWeeks_yes F M Y h y0 y1 w ht
  have HD := fun w => kwday D ⟨by omega, by omega⟩ w
  rw [decide_eq_true d0, decide_eq_true d1] at HD
  have HS := fun w ht => kstart F M Y f0 f1 m0 m1 y0 (by omega) w ht
  have HM := Lib.hid (fun w => cmod7 (D - F) ⟨by omega, by omega⟩ w)
  have kb := wkN_in (F := F) m0 m1 y0 y1
  have sb := wkS_bd (F := F) m0 m1 y0 (show Y ≤ 10000 by omega)
  have e : wkD F M Y W D = wkS F M Y + 7 * (W - 1) + (D - F) % 7 := rfl
  rw [dyB_eq] at hi
  rw [e] at hi ⊢
  have q : 0 ≤ (D - F) % 7 ∧ (D - F) % 7 ≤ 6 := by omega
  generalize (D - F) % 7 = x at *
  generalize wkN F M Y = K at *
  generalize wkS F M Y = s at *
  obtain ⟨q0, q1⟩ := q
  obtain ⟨sb0, sb1⟩ := sb
  have k0 : 0 ≤ K := by omega
  have k1 : K ≤ 53 := by omega
  replace HW := Lib.hid HW
  replace HD := Lib.hid HD
  replace HS := Lib.hid HS
  replace ht := Lib.hid ht
  clear h e kb
  obtain ⟨a, ha⟩ : ∃ a, decide (-719162 ≤ s + 7 * (W - 1) + x) = a := ⟨_, rfl⟩
  obtain ⟨b, hb⟩ : ∃ a, decide (s + 7 * (W - 1) + x < 2932897) = a := ⟨_, rfl⟩
  rw [ha, hb] at hi
  subst hi
  have hn : s + 7 * (W - 1) + x ≤ 4000000 ∧ -4000000 ≤ s + 7 * (W - 1) + x := by omega
  obtain ⟨n, en⟩ : ∃ n, s + 7 * (W - 1) + x = n := ⟨_, rfl⟩
  rw [en] at ha hb hn ⊢
  obtain ⟨hn0, hn1⟩ := hn
  have ha' : decide (n < -719162) = !a := by rw [← ha, ← decide_not]; exact decide_eq_decide.2 (by omega)
  have hb' : decide (2932897 ≤ n) = !b := by rw [← hb, ← decide_not]; exact decide_eq_decide.2 (by omega)
  clear ha hb
  have o1 : 0 ≤ 7 * (W - 1) := by omega
  have o2 : 7 * (W - 1) ≤ 371 := by omega
  cases a <;> cases b
  all_goals
    go_enter Tryd.func18, Tryd.ntmps18
    go_wp2_with fail
    refine (HW.out _ (lens_alloc (lens_alloc ht.out _) _)).mono ?_
    rintro e w1 ⟨rfl, hb⟩
    have A1 := Lib.hid (down (grow (grow (here w) _) _) hb)
    have R1 := Lib.hid (Two.fst hb)
    have B1 := Lib.hid (Box.snd hb)
    clear hb
    obtain ⟨c0, c1, c2, z⟩ := B1.out
    go_wp2_with fail
    refine (HD.out _).mono ?_
    rintro e w2 ⟨rfl, rfl⟩
    have HT : Hid (∀ x : Kept w1, Lens x.wd) := fun x => lens_below ht.out (down A1.out x.ok)
    have k0 : ∀ x : Kept w1, x.wd.cell? ⟨w.heap.size, 0, none⟩ = some (.int .i64 F) := fun x => (R1.out.keep x.ok).c0
    have k1 : ∀ x : Kept w1, x.wd.cell? ⟨w.heap.size, 1, none⟩ = some (.int .i64 M) := fun x => (R1.out.keep x.ok).c1
    have l0 : ∀ x : Kept w1, x.wd.cell? ⟨w.heap.size + 1, 0, none⟩ = some (.int .i64 Y) := fun x => (B1.out.keep x.ok).c0
    have l1 : ∀ x : Kept w1, x.wd.cell? ⟨w.heap.size + 1, 1, none⟩ = some (.int .i64 W) := fun x => (B1.out.keep x.ok).c1
    have l2 : ∀ x : Kept w1, x.wd.cell? ⟨w.heap.size + 1, 2, none⟩ = some (.int .i64 D) := fun x => (B1.out.keep x.ok).c2
    go_wp2
    refine wp_region_kept (by kernel_rfl) (by kernel_rfl) ?_
    repeat (go_big_quiet_step (first
      | (go_at_call 36; exact kept_call _ (HS.out _ (HT.out _)))
      | (go_at_call 43; exact kept_drew _ (HM.out _))))
    refine wpQuiet_nil ?_
    intro _ hx
    obtain ⟨⟨w3, hb3⟩, hw⟩ := hx
    subst hw
    go_wp2
    go_ret2
    exact ⟨rfl, down A1.out hb3⟩
set_option maxHeartbeats 1000000 in
theorem kOrd_yes (n y m d : Int) (hv : vld y m d = true) (hn : dayN y m d = n) (w : World) (ht : Lens w) :
    Calls Tryd.prog 28 #[.int .i64 n] w fun e w' => e = .returned (.tuple #[.int .i64 y, .int .i64 (n - first y + 1), .int .i64 0]) ∧ Below w.heap.size w w' := by
  have HD := Lib.hid (fun w => cdate_yes n y m d hv hn w)
  have HY := fun w ht => cyearday_yes y m d hv w ht
  rw [show cum y m + d = n - first y + 1 by unfold dayN at hn; omega] at HY
  generalize n - first y + 1 = o at *
  replace HY := Lib.hid HY
  replace ht := Lib.hid ht
  clear hv hn
  go_enter Tryd.func28, Tryd.ntmps28
  go_wp2_with fail
  refine (HD.out _).mono ?_
  rintro e w1 ⟨rfl, A1⟩
  replace A1 := Lib.hid A1
  obtain ⟨w2, hw2⟩ : ∃ w2 : World, w1.alloc (.cells #[.int .i64 y, .int .i64 m, .int .i64 d] 55) = w2 := ⟨_, rfl⟩
  have A2 : Hid (Below w.heap.size w w2) := by rw [← hw2]; exact grow A1.out _
  have B2 : Hid (Box w2 w1.heap.size (.int .i64 y) (.int .i64 m) (.int .i64 d)) := by rw [← hw2]; exact Box.new (here _)
  have HT : Hid (∀ x : Kept w2, Lens x.wd) := fun x => lens_below ht.out (down A2.out x.ok)
  have k0 : ∀ x : Kept w2, x.wd.cell? ⟨w1.heap.size, 0, none⟩ = some (.int .i64 y) := fun x => (B2.out.keep x.ok).c0
  have k1 : ∀ x : Kept w2, x.wd.cell? ⟨w1.heap.size, 1, none⟩ = some (.int .i64 m) := fun x => (B2.out.keep x.ok).c1
  have k2 : ∀ x : Kept w2, x.wd.cell? ⟨w1.heap.size, 2, none⟩ = some (.int .i64 d) := fun x => (B2.out.keep x.ok).c2
  go_wp2
  clear hw2
  refine wp_region_kept (by kernel_rfl) (by kernel_rfl) ?_
  repeat (go_big_quiet_step ((go_at_call 34; exact kept_call _ (HY.out _ (HT.out _)))))
  refine wpQuiet_nil ?_
  intro _ hx
  obtain ⟨⟨w3, hb3⟩, hw⟩ := hx
  subst hw
  go_wp2
  go_ret3
  exact ⟨rfl, down A2.out hb3⟩
theorem kOrd_no (n : Int) (hn : I64 n) (h : n < -719162 ∨ 2932897 ≤ n) (w : World) :
    Calls Tryd.prog 28 #[.int .i64 n] w fun e w' => e = .returned (.tuple #[.int .i64 0, .int .i64 0, .int .i64 2]) ∧ Below w.heap.size w w' := by
  have HD := Lib.hid (fun w => cdate_no n hn h w)
  clear h
  go_enter Tryd.func28, Tryd.ntmps28
  go_wp2_with fail
  refine (HD.out _).mono ?_
  rintro e w1 ⟨rfl, A1⟩
  go_wp2
  go_ret3
  exact ⟨rfl, grow A1 _⟩
theorem kFrom_year (y n : Int) (hy : I64 y) (k : yrB y = false) (w : World) :
    Calls Tryd.prog 30 #[.int .i64 y, .int .i64 n] w fun e w' => e = .returned (.tuple #[.int .i64 0, .int .i64 2]) ∧ Below w.heap.size w w' := by
  have HY := fun w => kyear y hy w
  rw [k] at HY
  replace HY := Lib.hid HY
  clear k
  go_enter Tryd.func30, Tryd.ntmps30
  go_wp2_with fail
  refine (HY.out _).mono ?_
  rintro e w1 ⟨rfl, rfl⟩
  go_wp2
  go_ret2
  exact ⟨rfl, here _⟩
set_option maxHeartbeats 400000 in
theorem kFrom_in (y n : Int) (y0 : 1 ≤ y) (y1 : y ≤ 9999) (hn : I64 n) (i : Bool) (hi : decide (1 ≤ n ∧ first y + n ≤ first (y + 1)) = i) (w : World) (ht : Lens w) :
    Calls Tryd.prog 30 #[.int .i64 y, .int .i64 n] w fun e w' => e = .returned (.tuple #[.int .i64 (if i then first y + n - 1 else 0), .int .i64 (if i then 0 else 2)]) ∧ Below w.heap.size w w' := by
  have HY := fun w => kyear y ⟨by omega, by omega⟩ w
  rw [yrB_iff.2 ⟨y0, y1⟩] at HY
  have HN := Lib.hid (fun w ht => knew y y0 (by omega) w ht)
  have HM := Lib.hid (fun w ht => knew (y + 1) (by omega) (by omega) w ht)
  have b := first_bd y0 (show y ≤ 10000 by omega)
  have b' := first_bd (show 1 ≤ y + 1 by omega) (show y + 1 ≤ 10000 by omega)
  have s := first_succ y0 y1
  have l := lp_01 y
  obtain ⟨h0, h1⟩ := hn
  generalize first y = f at *
  generalize first (y + 1) = g at *
  have sb : f + 365 ≤ g ∧ g ≤ f + 366 := by omega
  obtain ⟨sb0, sb1⟩ := sb
  obtain ⟨b0, b1⟩ := b
  obtain ⟨b2, b3⟩ := b'
  clear s l
  replace HY := Lib.hid HY
  replace ht := Lib.hid ht
  by_cases a : n < 1
  · have e : decide (1 ≤ n ∧ f + n ≤ g) = false := decide_eq_false (by omega)
    rw [e] at hi
    subst hi
    have k1 : decide (n < 1) = true := decide_eq_true a
    go_enter Tryd.func30, Tryd.ntmps30
    go_wp2_with fail
    refine (HY.out _).mono ?_
    rintro e w1 ⟨rfl, rfl⟩
    go_wp2
    go_ret2
    exact ⟨rfl, here _⟩
  · have k1 : decide (n < 1) = false := decide_eq_false a
    by_cases c : f + n ≤ g
    · have e : decide (1 ≤ n ∧ f + n ≤ g) = true := decide_eq_true (by omega)
      rw [e] at hi
      subst hi
      have k2 : decide (g - f < n) = false := decide_eq_false (by omega)
      go_enter Tryd.func30, Tryd.ntmps30
      go_wp2_with fail
      refine (HY.out _).mono ?_
      rintro e w1 ⟨rfl, rfl⟩
      go_wp2_with fail
      refine (HM.out _ ht.out).mono ?_
      rintro e w1 ⟨rfl, A1⟩
      replace A1 := Lib.hid A1
      go_wp2_with fail
      refine (HN.out _ (lens_below ht.out A1.out)).mono ?_
      rintro e w2 ⟨rfl, hb⟩
      have A2 := Lib.hid (down A1.out hb)
      clear hb A1
      go_wp2_with fail
      refine (HN.out _ (lens_below ht.out A2.out)).mono ?_
      rintro e w3 ⟨rfl, hb⟩
      have A3 := Lib.hid (down A2.out hb)
      clear hb A2
      go_wp2
      go_ret2
      exact ⟨rfl, A3.out⟩
    · have e : decide (1 ≤ n ∧ f + n ≤ g) = false := decide_eq_false (by omega)
      rw [e] at hi
      subst hi
      have k2 : decide (g - f < n) = true := decide_eq_true (by omega)
      go_enter Tryd.func30, Tryd.ntmps30
      go_wp2_with fail
      refine (HY.out _).mono ?_
      rintro e w1 ⟨rfl, rfl⟩
      go_wp2_with fail
      refine (HM.out _ ht.out).mono ?_
      rintro e w1 ⟨rfl, A1⟩
      replace A1 := Lib.hid A1
      go_wp2_with fail
      refine (HN.out _ (lens_below ht.out A1.out)).mono ?_
      rintro e w2 ⟨rfl, hb⟩
      have A2 := Lib.hid (down A1.out hb)
      clear hb A1
      go_wp2
      go_ret2
      exact ⟨rfl, A2.out⟩
end Go.Proofs.YtimpaaimdjlhjaaDoor

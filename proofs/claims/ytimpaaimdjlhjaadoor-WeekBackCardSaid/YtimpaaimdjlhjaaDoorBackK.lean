/- The walk of WeekBack: the Go text returns true, at every input. -/
import Derived.Test.YtimpaaimdjlhjaaDoorNextK
namespace Go.Proofs.YtimpaaimdjlhjaaDoor
open Go.RowKit
set_option linter.unusedVariables false

/-- A date of weeks has a day, and the day has this date, or Day returns an error. -/
theorem day_fate (F M Y W D : Int) (hF : I64 F) (hM : I64 M) (hY : I64 Y) (hW : I64 W) (hD : I64 D) : (∃ V E : Int, E ≠ 0 ∧
    ∀ w, Lens w → Calls Tryd.prog 18 #[.agg #[.int .i64 F, .int .i64 M], .agg #[.int .i64 Y, .int .i64 W, .int .i64 D]] w fun e w' => e = .returned (.tuple #[.int .i64 V, .int .i64 E]) ∧ Below w.heap.size w w') ∨
    (∃ V : Int, (∀ w, Lens w → Calls Tryd.prog 18 #[.agg #[.int .i64 F, .int .i64 M], .agg #[.int .i64 Y, .int .i64 W, .int .i64 D]] w fun e w' => e = .returned (.tuple #[.int .i64 V, .int .i64 0]) ∧ Below w.heap.size w w') ∧
     (∀ w, Lens w → Calls Tryd.prog 13 #[.agg #[.int .i64 F, .int .i64 M], .int .i64 V] w fun e w' => e = .returned (.tuple #[.agg #[.int .i64 Y, .int .i64 W, .int .i64 D], .int .i64 0]) ∧ Below w.heap.size w w')) := by
  by_cases h : rulB F M = true
  · obtain ⟨f0, f1, m0, m1⟩ := rulB_iff.1 h
    by_cases y : yrB Y = true
    · obtain ⟨y0, y1⟩ := yrB_iff.1 y
      by_cases k : 1 ≤ W ∧ W ≤ wkN F M Y ∧ 1 ≤ D ∧ D ≤ 7
      · by_cases i : dyB (wkD F M Y W D) = true
        · obtain ⟨r0, r1⟩ := dyB_iff.1 i
          obtain ⟨g1, g2, g3⟩ := wk_forth f0 f1 m0 m1 y0 y1 k.1 k.2.1 k.2.2.1 k.2.2.2
          have q := fun w ht => kOf_in F M _ Y h g1 r0 r1 w ht
          rw [g2, g3] at q
          exact .inr ⟨_, fun w ht => kDay_yes F M Y W D h y0 y1 k.1 k.2.1 k.2.2.1 k.2.2.2 true i w ht, q⟩
        · rw [Bool.not_eq_true] at i
          exact .inl ⟨_, _, by decide, fun w ht => kDay_yes F M Y W D h y0 y1 k.1 k.2.1 k.2.2.1 k.2.2.2 false i w ht⟩
      · exact .inl ⟨_, _, by decide, fun w ht => kDay_bad F M Y W D h y0 y1 hW hD k w ht⟩
    · rw [Bool.not_eq_true] at y
      exact .inl ⟨_, _, by decide, fun w ht => kDay_no F M Y W D 2 (by omega) (by omega) (fun w => kWeeks_no F M Y 2 (by omega) (by omega) (fun w => kStart_range F M Y h hY y w) w) w⟩
  · rw [Bool.not_eq_true] at h
    exact .inl ⟨_, _, by decide, fun w ht => kDay_no F M Y W D 1 (by omega) (by omega) (fun w => kWeeks_no F M Y 1 (by omega) (by omega) (fun w => kStart_arg F M Y hF hM h w) w) w⟩
namespace WeekBack
abbrev OfIs (F M n a b c E : Int) : Prop := ∀ w, Lens w → Calls Tryd.prog 13 #[.agg #[.int .i64 F, .int .i64 M], .int .i64 n] w fun e w' => e = .returned (.tuple #[.agg #[.int .i64 a, .int .i64 b, .int .i64 c], .int .i64 E]) ∧ Below w.heap.size w w'
abbrev DayIs (F M a b c V E : Int) : Prop := ∀ w, Lens w → Calls Tryd.prog 18 #[.agg #[.int .i64 F, .int .i64 M], .agg #[.int .i64 a, .int .i64 b, .int .i64 c]] w fun e w' => e = .returned (.tuple #[.int .i64 V, .int .i64 E]) ∧ Below w.heap.size w w'
set_option maxRecDepth 100000 in
set_option maxHeartbeats 4000000 in
theorem go_aaa (F M n dY dW dD : Int) (hn : I64 n) (a b c : Int) (HX : OfIs F M n a b c 0) (HB : DayIs F M a b c n 0) (HW : ∀ w, Calls Tryd.prog 32 #[.int .i64 n] w fun e w' => e = .returned (.int .i64 c) ∧ ∃ k, w' = w.drewN k) (V : Int) (HD : DayIs F M dY dW dD V 0) (HZ : OfIs F M V dY dW dD 0) (y m d : Int) (hv : vld y m d = true) (he : dayN y m d = n) (w : World) (ht : Lens w) :
    Calls Tryd.prog 8 #[.agg #[.int .i64 F, .int .i64 M], .int .i64 n, .agg #[.int .i64 dY, .int .i64 dW, .int .i64 dD]] w fun e w' => e = .returned (.bool true) ∧ Below w.heap.size w w' := by
  replace HX := Lib.hid HX
  replace HD := Lib.hid HD
  replace ht := Lib.hid ht
  replace HB := Lib.hid HB
  replace HW := Lib.hid HW
  replace HZ := Lib.hid HZ
  obtain ⟨y0, y1, -, -, -, -⟩ := vld_bd hv
  have hd := day_in hv
  rw [he] at hd
  have HO := fun w ht => kOrd_yes n y m d hv he w ht
  have HT := Lib.hid (fun w => cdate_yes n y m d hv he w)
  have HU := fun w ht => cyearday_yes y m d hv w ht
  rw [show cum y m + d = n - first y + 1 by unfold dayN at he; omega] at HU
  have bf := first_bd y0 (show y ≤ 10000 by omega)
  have HQ := fun w ht => kFrom_in y (n - first y + 1) y0 y1 ⟨by omega, by have := first_bd (show 1 ≤ y + 1 by omega) (show y + 1 ≤ 10000 by omega); omega⟩ true (decide_eq_true (by omega)) w ht
  rw [show (if true = true then first y + (n - first y + 1) - 1 else 0) = n by rw [if_pos rfl]; omega, show (if true = true then (0 : Int) else 2) = 0 from rfl] at HQ
  obtain ⟨h0, h1⟩ := hn
  clear hv he hd bf
  generalize n - first y + 1 = N at *
  replace HO := Lib.hid HO
  replace HU := Lib.hid HU
  replace HQ := Lib.hid HQ
  go_enter Tryd.func8, Tryd.ntmps8
  go_wp2_with fail
  refine (awake_all _ (lens_alloc (lens_alloc ht.out _) _)).mono ?_
  rintro e w1 ⟨rfl, hb⟩
  have A1 := Lib.hid (down (grow (grow (here w) _) _) hb)
  have R1 := Lib.hid (Two.fst hb)
  have B1 := Lib.hid (Box.snd hb)
  clear hb
  obtain ⟨c0, c1, z⟩ := R1.out
  go_wp2_with fail
  refine (HX.out _ (lens_below ht.out A1.out)).mono ?_
  rintro e w2 ⟨rfl, hb⟩
  have A2 := Lib.hid (down A1.out hb)
  have R2 := Lib.hid (R1.out.keep hb)
  have B2 := Lib.hid (B1.out.keep hb)
  clear hb A1 R1 B1 c0 c1 z
  obtain ⟨w3, hw3⟩ : ∃ w3 : World, w2.alloc (.cells #[.int .i64 a, .int .i64 b, .int .i64 c] 26) = w3 := ⟨_, rfl⟩
  have A3 : Hid (Below w.heap.size w w3) := by rw [← hw3]; exact grow A2.out _
  have R3 : Hid (Two w3 w.heap.size (.int .i64 F) (.int .i64 M)) := by rw [← hw3]; exact R2.out.old _
  have B3 : Hid (Box w3 (w.heap.size + 1) (.int .i64 dY) (.int .i64 dW) (.int .i64 dD)) := by rw [← hw3]; exact B2.out.old _
  have C3 : Hid (Box w3 w2.heap.size (.int .i64 a) (.int .i64 b) (.int .i64 c)) := by rw [← hw3]; exact Box.new (here _)
  clear A2 R2 B2
  obtain ⟨c0, c1, z⟩ := R3.out
  obtain ⟨e0, e1, e2, ze⟩ := C3.out
  go_wp2_with fail
  clear hw3
  refine (HB.out _ (lens_below ht.out A3.out)).mono ?_
  rintro e w4 ⟨rfl, hb⟩
  have A4 := Lib.hid (down A3.out hb)
  have R4 := Lib.hid (R3.out.keep hb)
  have B4 := Lib.hid (B3.out.keep hb)
  have C4 := Lib.hid (C3.out.keep hb)
  clear hb A3 R3 B3 C3 c0 c1 z e0 e1 e2 ze
  have p0 : ∀ x : Kept w4, x.wd.cell? ⟨w2.heap.size, 0, none⟩ = some (.int .i64 a) := fun x => (C4.out.keep x.ok).c0
  have p1 : ∀ x : Kept w4, x.wd.cell? ⟨w2.heap.size, 1, none⟩ = some (.int .i64 b) := fun x => (C4.out.keep x.ok).c1
  have p2 : ∀ x : Kept w4, x.wd.cell? ⟨w2.heap.size, 2, none⟩ = some (.int .i64 c) := fun x => (C4.out.keep x.ok).c2
  go_wp2
  refine wp_region_kept (by kernel_rfl) (by kernel_rfl) ?_
  repeat (go_big_quiet_step ((go_at_call 32; exact kept_drew _ (HW.out _))))
  refine wpQuiet_nil ?_
  intro w5 hx
  obtain ⟨⟨x5, hb5⟩, hw⟩ := hx
  replace hw : w5 = x5 := hw
  subst x5
  have A5 := Lib.hid (down A4.out hb5)
  have R5 := Lib.hid (R4.out.keep hb5)
  have B5 := Lib.hid (B4.out.keep hb5)
  clear A4 R4 B4 C4 p0 p1 p2 hb5
  obtain ⟨c0, c1, z⟩ := R5.out
  obtain ⟨d0, d1, d2, zd⟩ := B5.out
  go_wp2_with fail
  refine (HD.out _ (lens_below ht.out A5.out)).mono ?_
  rintro e w6 ⟨rfl, hb⟩
  have A6 := Lib.hid (down A5.out hb)
  have R6 := Lib.hid (R5.out.keep hb)
  have B6 := Lib.hid (B5.out.keep hb)
  clear hb A5 R5 B5 c0 c1 z d0 d1 d2 zd
  obtain ⟨c0, c1, z⟩ := R6.out
  go_wp2_with fail
  refine (HZ.out _ (lens_below ht.out A6.out)).mono ?_
  rintro e w7 ⟨rfl, hb⟩
  have A7 := Lib.hid (down A6.out hb)
  have B7 := Lib.hid (B6.out.keep hb)
  clear hb A6 R6 B6 c0 c1 z
  obtain ⟨w8, hw8⟩ : ∃ w8 : World, w7.alloc (.cells #[.int .i64 dY, .int .i64 dW, .int .i64 dD] 26) = w8 := ⟨_, rfl⟩
  have A8 : Hid (Below w.heap.size w w8) := by rw [← hw8]; exact grow A7.out _
  have B8 : Hid (Box w8 (w.heap.size + 1) (.int .i64 dY) (.int .i64 dW) (.int .i64 dD)) := by rw [← hw8]; exact B7.out.old _
  have C8 : Hid (Box w8 w7.heap.size (.int .i64 dY) (.int .i64 dW) (.int .i64 dD)) := by rw [← hw8]; exact Box.new (here _)
  clear A7 B7
  obtain ⟨d0, d1, d2, zd⟩ := B8.out
  obtain ⟨e0, e1, e2, ze⟩ := C8.out
  go_wp2_with fail
  clear hw8 d0 d1 d2 zd e0 e1 e2 ze B8 C8
  refine (HO.out _ (lens_below ht.out A8.out)).mono ?_
  rintro e w9 ⟨rfl, hb⟩
  have A9 := Lib.hid (down A8.out hb)
  clear hb A8
  go_wp2_with fail
  refine (HT.out _).mono ?_
  rintro e w10 ⟨rfl, hb⟩
  have A10 := Lib.hid (down A9.out hb)
  clear hb A9
  obtain ⟨w11, hw11⟩ : ∃ w11 : World, w10.alloc (.cells #[.int .i64 y, .int .i64 m, .int .i64 d] 55) = w11 := ⟨_, rfl⟩
  have A11 : Hid (Below w.heap.size w w11) := by rw [← hw11]; exact grow A10.out _
  have B11 : Hid (Box w11 w10.heap.size (.int .i64 y) (.int .i64 m) (.int .i64 d)) := by rw [← hw11]; exact Box.new (here _)
  clear A10
  go_wp2_with fail
  clear hw11
  refine (HQ.out _ (lens_below ht.out A11.out)).mono ?_
  rintro e w12 ⟨rfl, hb⟩
  have A12 := Lib.hid (down A11.out hb)
  have B12 := Lib.hid (B11.out.keep hb)
  clear hb A11 B11
  obtain ⟨d0, d1, d2, zd⟩ := B12.out
  go_wp2_with fail
  refine (HU.out _ (lens_below ht.out A12.out)).mono ?_
  rintro e w13 ⟨rfl, hb⟩
  have A13 := Lib.hid (down A12.out hb)
  clear hb A12 B12 d0 d1 d2 zd
  go_wp2
  go_ret
  exact ⟨rfl, A13.out⟩
set_option maxRecDepth 100000 in
set_option maxHeartbeats 4000000 in
theorem go_aba (F M n dY dW dD : Int) (hn : I64 n) (a b c : Int) (HX : OfIs F M n a b c 0) (HB : DayIs F M a b c n 0) (HW : ∀ w, Calls Tryd.prog 32 #[.int .i64 n] w fun e w' => e = .returned (.int .i64 c) ∧ ∃ k, w' = w.drewN k) (V G : Int) (hG : G ≠ 0) (HD : DayIs F M dY dW dD V G) (y m d : Int) (hv : vld y m d = true) (he : dayN y m d = n) (w : World) (ht : Lens w) :
    Calls Tryd.prog 8 #[.agg #[.int .i64 F, .int .i64 M], .int .i64 n, .agg #[.int .i64 dY, .int .i64 dW, .int .i64 dD]] w fun e w' => e = .returned (.bool true) ∧ Below w.heap.size w w' := by
  replace HX := Lib.hid HX
  replace HD := Lib.hid HD
  replace ht := Lib.hid ht
  replace HB := Lib.hid HB
  replace HW := Lib.hid HW
  have kG : (G == 0) = false := by simpa using hG
  clear hG
  obtain ⟨y0, y1, -, -, -, -⟩ := vld_bd hv
  have hd := day_in hv
  rw [he] at hd
  have HO := fun w ht => kOrd_yes n y m d hv he w ht
  have HT := Lib.hid (fun w => cdate_yes n y m d hv he w)
  have HU := fun w ht => cyearday_yes y m d hv w ht
  rw [show cum y m + d = n - first y + 1 by unfold dayN at he; omega] at HU
  have bf := first_bd y0 (show y ≤ 10000 by omega)
  have HQ := fun w ht => kFrom_in y (n - first y + 1) y0 y1 ⟨by omega, by have := first_bd (show 1 ≤ y + 1 by omega) (show y + 1 ≤ 10000 by omega); omega⟩ true (decide_eq_true (by omega)) w ht
  rw [show (if true = true then first y + (n - first y + 1) - 1 else 0) = n by rw [if_pos rfl]; omega, show (if true = true then (0 : Int) else 2) = 0 from rfl] at HQ
  obtain ⟨h0, h1⟩ := hn
  clear hv he hd bf
  generalize n - first y + 1 = N at *
  replace HO := Lib.hid HO
  replace HU := Lib.hid HU
  replace HQ := Lib.hid HQ
  go_enter Tryd.func8, Tryd.ntmps8
  go_wp2_with fail
  refine (awake_all _ (lens_alloc (lens_alloc ht.out _) _)).mono ?_
  rintro e w1 ⟨rfl, hb⟩
  have A1 := Lib.hid (down (grow (grow (here w) _) _) hb)
  have R1 := Lib.hid (Two.fst hb)
  have B1 := Lib.hid (Box.snd hb)
  clear hb
  obtain ⟨c0, c1, z⟩ := R1.out
  go_wp2_with fail
  refine (HX.out _ (lens_below ht.out A1.out)).mono ?_
  rintro e w2 ⟨rfl, hb⟩
  have A2 := Lib.hid (down A1.out hb)
  have R2 := Lib.hid (R1.out.keep hb)
  have B2 := Lib.hid (B1.out.keep hb)
  clear hb A1 R1 B1 c0 c1 z
  obtain ⟨w3, hw3⟩ : ∃ w3 : World, w2.alloc (.cells #[.int .i64 a, .int .i64 b, .int .i64 c] 26) = w3 := ⟨_, rfl⟩
  have A3 : Hid (Below w.heap.size w w3) := by rw [← hw3]; exact grow A2.out _
  have R3 : Hid (Two w3 w.heap.size (.int .i64 F) (.int .i64 M)) := by rw [← hw3]; exact R2.out.old _
  have B3 : Hid (Box w3 (w.heap.size + 1) (.int .i64 dY) (.int .i64 dW) (.int .i64 dD)) := by rw [← hw3]; exact B2.out.old _
  have C3 : Hid (Box w3 w2.heap.size (.int .i64 a) (.int .i64 b) (.int .i64 c)) := by rw [← hw3]; exact Box.new (here _)
  clear A2 R2 B2
  obtain ⟨c0, c1, z⟩ := R3.out
  obtain ⟨e0, e1, e2, ze⟩ := C3.out
  go_wp2_with fail
  clear hw3
  refine (HB.out _ (lens_below ht.out A3.out)).mono ?_
  rintro e w4 ⟨rfl, hb⟩
  have A4 := Lib.hid (down A3.out hb)
  have R4 := Lib.hid (R3.out.keep hb)
  have B4 := Lib.hid (B3.out.keep hb)
  have C4 := Lib.hid (C3.out.keep hb)
  clear hb A3 R3 B3 C3 c0 c1 z e0 e1 e2 ze
  have p0 : ∀ x : Kept w4, x.wd.cell? ⟨w2.heap.size, 0, none⟩ = some (.int .i64 a) := fun x => (C4.out.keep x.ok).c0
  have p1 : ∀ x : Kept w4, x.wd.cell? ⟨w2.heap.size, 1, none⟩ = some (.int .i64 b) := fun x => (C4.out.keep x.ok).c1
  have p2 : ∀ x : Kept w4, x.wd.cell? ⟨w2.heap.size, 2, none⟩ = some (.int .i64 c) := fun x => (C4.out.keep x.ok).c2
  go_wp2
  refine wp_region_kept (by kernel_rfl) (by kernel_rfl) ?_
  repeat (go_big_quiet_step ((go_at_call 32; exact kept_drew _ (HW.out _))))
  refine wpQuiet_nil ?_
  intro w5 hx
  obtain ⟨⟨x5, hb5⟩, hw⟩ := hx
  replace hw : w5 = x5 := hw
  subst x5
  have A5 := Lib.hid (down A4.out hb5)
  have R5 := Lib.hid (R4.out.keep hb5)
  have B5 := Lib.hid (B4.out.keep hb5)
  clear A4 R4 B4 C4 p0 p1 p2 hb5
  obtain ⟨c0, c1, z⟩ := R5.out
  obtain ⟨d0, d1, d2, zd⟩ := B5.out
  go_wp2_with fail
  refine (HD.out _ (lens_below ht.out A5.out)).mono ?_
  rintro e w6 ⟨rfl, hb⟩
  have A6 := Lib.hid (down A5.out hb)
  have R6 := Lib.hid (R5.out.keep hb)
  have B6 := Lib.hid (B5.out.keep hb)
  clear hb A5 R5 B5 c0 c1 z d0 d1 d2 zd
  go_wp2_with fail
  clear R6 B6
  refine (HO.out _ (lens_below ht.out A6.out)).mono ?_
  rintro e w9 ⟨rfl, hb⟩
  have A9 := Lib.hid (down A6.out hb)
  clear hb A6
  go_wp2_with fail
  refine (HT.out _).mono ?_
  rintro e w10 ⟨rfl, hb⟩
  have A10 := Lib.hid (down A9.out hb)
  clear hb A9
  obtain ⟨w11, hw11⟩ : ∃ w11 : World, w10.alloc (.cells #[.int .i64 y, .int .i64 m, .int .i64 d] 55) = w11 := ⟨_, rfl⟩
  have A11 : Hid (Below w.heap.size w w11) := by rw [← hw11]; exact grow A10.out _
  have B11 : Hid (Box w11 w10.heap.size (.int .i64 y) (.int .i64 m) (.int .i64 d)) := by rw [← hw11]; exact Box.new (here _)
  clear A10
  go_wp2_with fail
  clear hw11
  refine (HQ.out _ (lens_below ht.out A11.out)).mono ?_
  rintro e w12 ⟨rfl, hb⟩
  have A12 := Lib.hid (down A11.out hb)
  have B12 := Lib.hid (B11.out.keep hb)
  clear hb A11 B11
  obtain ⟨d0, d1, d2, zd⟩ := B12.out
  go_wp2_with fail
  refine (HU.out _ (lens_below ht.out A12.out)).mono ?_
  rintro e w13 ⟨rfl, hb⟩
  have A13 := Lib.hid (down A12.out hb)
  clear hb A12 B12 d0 d1 d2 zd
  go_wp2
  go_ret
  exact ⟨rfl, A13.out⟩
set_option maxRecDepth 100000 in
set_option maxHeartbeats 4000000 in
theorem go_baa (F M n dY dW dD : Int) (hn : I64 n) (a b c E : Int) (hE : E ≠ 0) (HX : OfIs F M n a b c E) (V : Int) (HD : DayIs F M dY dW dD V 0) (HZ : OfIs F M V dY dW dD 0) (y m d : Int) (hv : vld y m d = true) (he : dayN y m d = n) (w : World) (ht : Lens w) :
    Calls Tryd.prog 8 #[.agg #[.int .i64 F, .int .i64 M], .int .i64 n, .agg #[.int .i64 dY, .int .i64 dW, .int .i64 dD]] w fun e w' => e = .returned (.bool true) ∧ Below w.heap.size w w' := by
  replace HX := Lib.hid HX
  replace HD := Lib.hid HD
  replace ht := Lib.hid ht
  have kE : (E == 0) = false := by simpa using hE
  clear hE
  replace HZ := Lib.hid HZ
  obtain ⟨y0, y1, -, -, -, -⟩ := vld_bd hv
  have hd := day_in hv
  rw [he] at hd
  have HO := fun w ht => kOrd_yes n y m d hv he w ht
  have HT := Lib.hid (fun w => cdate_yes n y m d hv he w)
  have HU := fun w ht => cyearday_yes y m d hv w ht
  rw [show cum y m + d = n - first y + 1 by unfold dayN at he; omega] at HU
  have bf := first_bd y0 (show y ≤ 10000 by omega)
  have HQ := fun w ht => kFrom_in y (n - first y + 1) y0 y1 ⟨by omega, by have := first_bd (show 1 ≤ y + 1 by omega) (show y + 1 ≤ 10000 by omega); omega⟩ true (decide_eq_true (by omega)) w ht
  rw [show (if true = true then first y + (n - first y + 1) - 1 else 0) = n by rw [if_pos rfl]; omega, show (if true = true then (0 : Int) else 2) = 0 from rfl] at HQ
  obtain ⟨h0, h1⟩ := hn
  clear hv he hd bf
  generalize n - first y + 1 = N at *
  replace HO := Lib.hid HO
  replace HU := Lib.hid HU
  replace HQ := Lib.hid HQ
  go_enter Tryd.func8, Tryd.ntmps8
  go_wp2_with fail
  refine (awake_all _ (lens_alloc (lens_alloc ht.out _) _)).mono ?_
  rintro e w1 ⟨rfl, hb⟩
  have A1 := Lib.hid (down (grow (grow (here w) _) _) hb)
  have R1 := Lib.hid (Two.fst hb)
  have B1 := Lib.hid (Box.snd hb)
  clear hb
  obtain ⟨c0, c1, z⟩ := R1.out
  go_wp2_with fail
  refine (HX.out _ (lens_below ht.out A1.out)).mono ?_
  rintro e w2 ⟨rfl, hb⟩
  have A2 := Lib.hid (down A1.out hb)
  have R2 := Lib.hid (R1.out.keep hb)
  have B2 := Lib.hid (B1.out.keep hb)
  clear hb A1 R1 B1 c0 c1 z
  obtain ⟨w3, hw3⟩ : ∃ w3 : World, w2.alloc (.cells #[.int .i64 a, .int .i64 b, .int .i64 c] 26) = w3 := ⟨_, rfl⟩
  have A3 : Hid (Below w.heap.size w w3) := by rw [← hw3]; exact grow A2.out _
  have R3 : Hid (Two w3 w.heap.size (.int .i64 F) (.int .i64 M)) := by rw [← hw3]; exact R2.out.old _
  have B3 : Hid (Box w3 (w.heap.size + 1) (.int .i64 dY) (.int .i64 dW) (.int .i64 dD)) := by rw [← hw3]; exact B2.out.old _
  have C3 : Hid (Box w3 w2.heap.size (.int .i64 a) (.int .i64 b) (.int .i64 c)) := by rw [← hw3]; exact Box.new (here _)
  clear A2 R2 B2
  obtain ⟨c0, c1, z⟩ := R3.out
  obtain ⟨d0, d1, d2, zd⟩ := B3.out
  go_wp2_with fail
  clear hw3 C3
  refine (HD.out _ (lens_below ht.out A3.out)).mono ?_
  rintro e w6 ⟨rfl, hb⟩
  have A6 := Lib.hid (down A3.out hb)
  have R6 := Lib.hid (R3.out.keep hb)
  have B6 := Lib.hid (B3.out.keep hb)
  clear hb A3 R3 B3 c0 c1 z d0 d1 d2 zd
  obtain ⟨c0, c1, z⟩ := R6.out
  go_wp2_with fail
  refine (HZ.out _ (lens_below ht.out A6.out)).mono ?_
  rintro e w7 ⟨rfl, hb⟩
  have A7 := Lib.hid (down A6.out hb)
  have B7 := Lib.hid (B6.out.keep hb)
  clear hb A6 R6 B6 c0 c1 z
  obtain ⟨w8, hw8⟩ : ∃ w8 : World, w7.alloc (.cells #[.int .i64 dY, .int .i64 dW, .int .i64 dD] 26) = w8 := ⟨_, rfl⟩
  have A8 : Hid (Below w.heap.size w w8) := by rw [← hw8]; exact grow A7.out _
  have B8 : Hid (Box w8 (w.heap.size + 1) (.int .i64 dY) (.int .i64 dW) (.int .i64 dD)) := by rw [← hw8]; exact B7.out.old _
  have C8 : Hid (Box w8 w7.heap.size (.int .i64 dY) (.int .i64 dW) (.int .i64 dD)) := by rw [← hw8]; exact Box.new (here _)
  clear A7 B7
  obtain ⟨d0, d1, d2, zd⟩ := B8.out
  obtain ⟨e0, e1, e2, ze⟩ := C8.out
  go_wp2_with fail
  clear hw8 d0 d1 d2 zd e0 e1 e2 ze B8 C8
  refine (HO.out _ (lens_below ht.out A8.out)).mono ?_
  rintro e w9 ⟨rfl, hb⟩
  have A9 := Lib.hid (down A8.out hb)
  clear hb A8
  go_wp2_with fail
  refine (HT.out _).mono ?_
  rintro e w10 ⟨rfl, hb⟩
  have A10 := Lib.hid (down A9.out hb)
  clear hb A9
  obtain ⟨w11, hw11⟩ : ∃ w11 : World, w10.alloc (.cells #[.int .i64 y, .int .i64 m, .int .i64 d] 55) = w11 := ⟨_, rfl⟩
  have A11 : Hid (Below w.heap.size w w11) := by rw [← hw11]; exact grow A10.out _
  have B11 : Hid (Box w11 w10.heap.size (.int .i64 y) (.int .i64 m) (.int .i64 d)) := by rw [← hw11]; exact Box.new (here _)
  clear A10
  go_wp2_with fail
  clear hw11
  refine (HQ.out _ (lens_below ht.out A11.out)).mono ?_
  rintro e w12 ⟨rfl, hb⟩
  have A12 := Lib.hid (down A11.out hb)
  have B12 := Lib.hid (B11.out.keep hb)
  clear hb A11 B11
  obtain ⟨d0, d1, d2, zd⟩ := B12.out
  go_wp2_with fail
  refine (HU.out _ (lens_below ht.out A12.out)).mono ?_
  rintro e w13 ⟨rfl, hb⟩
  have A13 := Lib.hid (down A12.out hb)
  clear hb A12 B12 d0 d1 d2 zd
  go_wp2
  go_ret
  exact ⟨rfl, A13.out⟩
set_option maxRecDepth 100000 in
set_option maxHeartbeats 4000000 in
theorem go_bba (F M n dY dW dD : Int) (hn : I64 n) (a b c E : Int) (hE : E ≠ 0) (HX : OfIs F M n a b c E) (V G : Int) (hG : G ≠ 0) (HD : DayIs F M dY dW dD V G) (y m d : Int) (hv : vld y m d = true) (he : dayN y m d = n) (w : World) (ht : Lens w) :
    Calls Tryd.prog 8 #[.agg #[.int .i64 F, .int .i64 M], .int .i64 n, .agg #[.int .i64 dY, .int .i64 dW, .int .i64 dD]] w fun e w' => e = .returned (.bool true) ∧ Below w.heap.size w w' := by
  replace HX := Lib.hid HX
  replace HD := Lib.hid HD
  replace ht := Lib.hid ht
  have kE : (E == 0) = false := by simpa using hE
  clear hE
  have kG : (G == 0) = false := by simpa using hG
  clear hG
  obtain ⟨y0, y1, -, -, -, -⟩ := vld_bd hv
  have hd := day_in hv
  rw [he] at hd
  have HO := fun w ht => kOrd_yes n y m d hv he w ht
  have HT := Lib.hid (fun w => cdate_yes n y m d hv he w)
  have HU := fun w ht => cyearday_yes y m d hv w ht
  rw [show cum y m + d = n - first y + 1 by unfold dayN at he; omega] at HU
  have bf := first_bd y0 (show y ≤ 10000 by omega)
  have HQ := fun w ht => kFrom_in y (n - first y + 1) y0 y1 ⟨by omega, by have := first_bd (show 1 ≤ y + 1 by omega) (show y + 1 ≤ 10000 by omega); omega⟩ true (decide_eq_true (by omega)) w ht
  rw [show (if true = true then first y + (n - first y + 1) - 1 else 0) = n by rw [if_pos rfl]; omega, show (if true = true then (0 : Int) else 2) = 0 from rfl] at HQ
  obtain ⟨h0, h1⟩ := hn
  clear hv he hd bf
  generalize n - first y + 1 = N at *
  replace HO := Lib.hid HO
  replace HU := Lib.hid HU
  replace HQ := Lib.hid HQ
  go_enter Tryd.func8, Tryd.ntmps8
  go_wp2_with fail
  refine (awake_all _ (lens_alloc (lens_alloc ht.out _) _)).mono ?_
  rintro e w1 ⟨rfl, hb⟩
  have A1 := Lib.hid (down (grow (grow (here w) _) _) hb)
  have R1 := Lib.hid (Two.fst hb)
  have B1 := Lib.hid (Box.snd hb)
  clear hb
  obtain ⟨c0, c1, z⟩ := R1.out
  go_wp2_with fail
  refine (HX.out _ (lens_below ht.out A1.out)).mono ?_
  rintro e w2 ⟨rfl, hb⟩
  have A2 := Lib.hid (down A1.out hb)
  have R2 := Lib.hid (R1.out.keep hb)
  have B2 := Lib.hid (B1.out.keep hb)
  clear hb A1 R1 B1 c0 c1 z
  obtain ⟨w3, hw3⟩ : ∃ w3 : World, w2.alloc (.cells #[.int .i64 a, .int .i64 b, .int .i64 c] 26) = w3 := ⟨_, rfl⟩
  have A3 : Hid (Below w.heap.size w w3) := by rw [← hw3]; exact grow A2.out _
  have R3 : Hid (Two w3 w.heap.size (.int .i64 F) (.int .i64 M)) := by rw [← hw3]; exact R2.out.old _
  have B3 : Hid (Box w3 (w.heap.size + 1) (.int .i64 dY) (.int .i64 dW) (.int .i64 dD)) := by rw [← hw3]; exact B2.out.old _
  have C3 : Hid (Box w3 w2.heap.size (.int .i64 a) (.int .i64 b) (.int .i64 c)) := by rw [← hw3]; exact Box.new (here _)
  clear A2 R2 B2
  obtain ⟨c0, c1, z⟩ := R3.out
  obtain ⟨d0, d1, d2, zd⟩ := B3.out
  go_wp2_with fail
  clear hw3 C3
  refine (HD.out _ (lens_below ht.out A3.out)).mono ?_
  rintro e w6 ⟨rfl, hb⟩
  have A6 := Lib.hid (down A3.out hb)
  have R6 := Lib.hid (R3.out.keep hb)
  have B6 := Lib.hid (B3.out.keep hb)
  clear hb A3 R3 B3 c0 c1 z d0 d1 d2 zd
  go_wp2_with fail
  clear R6 B6
  refine (HO.out _ (lens_below ht.out A6.out)).mono ?_
  rintro e w9 ⟨rfl, hb⟩
  have A9 := Lib.hid (down A6.out hb)
  clear hb A6
  go_wp2_with fail
  refine (HT.out _).mono ?_
  rintro e w10 ⟨rfl, hb⟩
  have A10 := Lib.hid (down A9.out hb)
  clear hb A9
  obtain ⟨w11, hw11⟩ : ∃ w11 : World, w10.alloc (.cells #[.int .i64 y, .int .i64 m, .int .i64 d] 55) = w11 := ⟨_, rfl⟩
  have A11 : Hid (Below w.heap.size w w11) := by rw [← hw11]; exact grow A10.out _
  have B11 : Hid (Box w11 w10.heap.size (.int .i64 y) (.int .i64 m) (.int .i64 d)) := by rw [← hw11]; exact Box.new (here _)
  clear A10
  go_wp2_with fail
  clear hw11
  refine (HQ.out _ (lens_below ht.out A11.out)).mono ?_
  rintro e w12 ⟨rfl, hb⟩
  have A12 := Lib.hid (down A11.out hb)
  have B12 := Lib.hid (B11.out.keep hb)
  clear hb A11 B11
  obtain ⟨d0, d1, d2, zd⟩ := B12.out
  go_wp2_with fail
  refine (HU.out _ (lens_below ht.out A12.out)).mono ?_
  rintro e w13 ⟨rfl, hb⟩
  have A13 := Lib.hid (down A12.out hb)
  clear hb A12 B12 d0 d1 d2 zd
  go_wp2
  go_ret
  exact ⟨rfl, A13.out⟩
set_option maxRecDepth 100000 in
set_option maxHeartbeats 4000000 in
theorem go_bab (F M n dY dW dD : Int) (hn : I64 n) (a b c E : Int) (hE : E ≠ 0) (HX : OfIs F M n a b c E) (V : Int) (HD : DayIs F M dY dW dD V 0) (HZ : OfIs F M V dY dW dD 0) (hr : n < -719162 ∨ 2932897 ≤ n) (w : World) (ht : Lens w) :
    Calls Tryd.prog 8 #[.agg #[.int .i64 F, .int .i64 M], .int .i64 n, .agg #[.int .i64 dY, .int .i64 dW, .int .i64 dD]] w fun e w' => e = .returned (.bool true) ∧ Below w.heap.size w w' := by
  replace HX := Lib.hid HX
  replace HD := Lib.hid HD
  replace ht := Lib.hid ht
  have kE : (E == 0) = false := by simpa using hE
  clear hE
  replace HZ := Lib.hid HZ
  have HO := Lib.hid (fun w => kOrd_no n hn hr w)
  obtain ⟨h0, h1⟩ := hn
  have kr : (decide (n < -719162) || decide (2932897 ≤ n)) = true := by simpa using hr
  clear hr
  obtain ⟨s1, hs1⟩ : ∃ s, decide (n < -719162) = s := ⟨_, rfl⟩
  obtain ⟨s2, hs2⟩ : ∃ s, decide (2932897 ≤ n) = s := ⟨_, rfl⟩
  rw [hs1, hs2] at kr
  go_enter Tryd.func8, Tryd.ntmps8
  go_wp2_with fail
  refine (awake_all _ (lens_alloc (lens_alloc ht.out _) _)).mono ?_
  rintro e w1 ⟨rfl, hb⟩
  have A1 := Lib.hid (down (grow (grow (here w) _) _) hb)
  have R1 := Lib.hid (Two.fst hb)
  have B1 := Lib.hid (Box.snd hb)
  clear hb
  obtain ⟨c0, c1, z⟩ := R1.out
  go_wp2_with fail
  refine (HX.out _ (lens_below ht.out A1.out)).mono ?_
  rintro e w2 ⟨rfl, hb⟩
  have A2 := Lib.hid (down A1.out hb)
  have R2 := Lib.hid (R1.out.keep hb)
  have B2 := Lib.hid (B1.out.keep hb)
  clear hb A1 R1 B1 c0 c1 z
  obtain ⟨w3, hw3⟩ : ∃ w3 : World, w2.alloc (.cells #[.int .i64 a, .int .i64 b, .int .i64 c] 26) = w3 := ⟨_, rfl⟩
  have A3 : Hid (Below w.heap.size w w3) := by rw [← hw3]; exact grow A2.out _
  have R3 : Hid (Two w3 w.heap.size (.int .i64 F) (.int .i64 M)) := by rw [← hw3]; exact R2.out.old _
  have B3 : Hid (Box w3 (w.heap.size + 1) (.int .i64 dY) (.int .i64 dW) (.int .i64 dD)) := by rw [← hw3]; exact B2.out.old _
  have C3 : Hid (Box w3 w2.heap.size (.int .i64 a) (.int .i64 b) (.int .i64 c)) := by rw [← hw3]; exact Box.new (here _)
  clear A2 R2 B2
  obtain ⟨c0, c1, z⟩ := R3.out
  obtain ⟨d0, d1, d2, zd⟩ := B3.out
  go_wp2_with fail
  clear hw3 C3
  refine (HD.out _ (lens_below ht.out A3.out)).mono ?_
  rintro e w6 ⟨rfl, hb⟩
  have A6 := Lib.hid (down A3.out hb)
  have R6 := Lib.hid (R3.out.keep hb)
  have B6 := Lib.hid (B3.out.keep hb)
  clear hb A3 R3 B3 c0 c1 z d0 d1 d2 zd
  obtain ⟨c0, c1, z⟩ := R6.out
  go_wp2_with fail
  refine (HZ.out _ (lens_below ht.out A6.out)).mono ?_
  rintro e w7 ⟨rfl, hb⟩
  have A7 := Lib.hid (down A6.out hb)
  have B7 := Lib.hid (B6.out.keep hb)
  clear hb A6 R6 B6 c0 c1 z
  obtain ⟨w8, hw8⟩ : ∃ w8 : World, w7.alloc (.cells #[.int .i64 dY, .int .i64 dW, .int .i64 dD] 26) = w8 := ⟨_, rfl⟩
  have A8 : Hid (Below w.heap.size w w8) := by rw [← hw8]; exact grow A7.out _
  have B8 : Hid (Box w8 (w.heap.size + 1) (.int .i64 dY) (.int .i64 dW) (.int .i64 dD)) := by rw [← hw8]; exact B7.out.old _
  have C8 : Hid (Box w8 w7.heap.size (.int .i64 dY) (.int .i64 dW) (.int .i64 dD)) := by rw [← hw8]; exact Box.new (here _)
  clear A7 B7
  obtain ⟨d0, d1, d2, zd⟩ := B8.out
  obtain ⟨e0, e1, e2, ze⟩ := C8.out
  go_wp2_with fail
  clear hw8 d0 d1 d2 zd e0 e1 e2 ze B8 C8
  refine (HO.out _).mono ?_
  rintro e w9 ⟨rfl, hb⟩
  have A9 := Lib.hid (down A8.out hb)
  clear hb A8
  cases s1 <;> cases s2 <;> (try cases kr)
  all_goals
    go_wp2
    go_ret
    exact ⟨rfl, A9.out⟩
set_option maxRecDepth 100000 in
set_option maxHeartbeats 4000000 in
theorem go_bbb (F M n dY dW dD : Int) (hn : I64 n) (a b c E : Int) (hE : E ≠ 0) (HX : OfIs F M n a b c E) (V G : Int) (hG : G ≠ 0) (HD : DayIs F M dY dW dD V G) (hr : n < -719162 ∨ 2932897 ≤ n) (w : World) (ht : Lens w) :
    Calls Tryd.prog 8 #[.agg #[.int .i64 F, .int .i64 M], .int .i64 n, .agg #[.int .i64 dY, .int .i64 dW, .int .i64 dD]] w fun e w' => e = .returned (.bool true) ∧ Below w.heap.size w w' := by
  replace HX := Lib.hid HX
  replace HD := Lib.hid HD
  replace ht := Lib.hid ht
  have kE : (E == 0) = false := by simpa using hE
  clear hE
  have kG : (G == 0) = false := by simpa using hG
  clear hG
  have HO := Lib.hid (fun w => kOrd_no n hn hr w)
  obtain ⟨h0, h1⟩ := hn
  have kr : (decide (n < -719162) || decide (2932897 ≤ n)) = true := by simpa using hr
  clear hr
  obtain ⟨s1, hs1⟩ : ∃ s, decide (n < -719162) = s := ⟨_, rfl⟩
  obtain ⟨s2, hs2⟩ : ∃ s, decide (2932897 ≤ n) = s := ⟨_, rfl⟩
  rw [hs1, hs2] at kr
  go_enter Tryd.func8, Tryd.ntmps8
  go_wp2_with fail
  refine (awake_all _ (lens_alloc (lens_alloc ht.out _) _)).mono ?_
  rintro e w1 ⟨rfl, hb⟩
  have A1 := Lib.hid (down (grow (grow (here w) _) _) hb)
  have R1 := Lib.hid (Two.fst hb)
  have B1 := Lib.hid (Box.snd hb)
  clear hb
  obtain ⟨c0, c1, z⟩ := R1.out
  go_wp2_with fail
  refine (HX.out _ (lens_below ht.out A1.out)).mono ?_
  rintro e w2 ⟨rfl, hb⟩
  have A2 := Lib.hid (down A1.out hb)
  have R2 := Lib.hid (R1.out.keep hb)
  have B2 := Lib.hid (B1.out.keep hb)
  clear hb A1 R1 B1 c0 c1 z
  obtain ⟨w3, hw3⟩ : ∃ w3 : World, w2.alloc (.cells #[.int .i64 a, .int .i64 b, .int .i64 c] 26) = w3 := ⟨_, rfl⟩
  have A3 : Hid (Below w.heap.size w w3) := by rw [← hw3]; exact grow A2.out _
  have R3 : Hid (Two w3 w.heap.size (.int .i64 F) (.int .i64 M)) := by rw [← hw3]; exact R2.out.old _
  have B3 : Hid (Box w3 (w.heap.size + 1) (.int .i64 dY) (.int .i64 dW) (.int .i64 dD)) := by rw [← hw3]; exact B2.out.old _
  have C3 : Hid (Box w3 w2.heap.size (.int .i64 a) (.int .i64 b) (.int .i64 c)) := by rw [← hw3]; exact Box.new (here _)
  clear A2 R2 B2
  obtain ⟨c0, c1, z⟩ := R3.out
  obtain ⟨d0, d1, d2, zd⟩ := B3.out
  go_wp2_with fail
  clear hw3 C3
  refine (HD.out _ (lens_below ht.out A3.out)).mono ?_
  rintro e w6 ⟨rfl, hb⟩
  have A6 := Lib.hid (down A3.out hb)
  have R6 := Lib.hid (R3.out.keep hb)
  have B6 := Lib.hid (B3.out.keep hb)
  clear hb A3 R3 B3 c0 c1 z d0 d1 d2 zd
  go_wp2_with fail
  clear R6 B6
  refine (HO.out _).mono ?_
  rintro e w9 ⟨rfl, hb⟩
  have A9 := Lib.hid (down A6.out hb)
  clear hb A6
  cases s1 <;> cases s2 <;> (try cases kr)
  all_goals
    go_wp2
    go_ret
    exact ⟨rfl, A9.out⟩
theorem walk (F M n dY dW dD : Int) (hF : (Lit.int .i64 F).wf = true) (hM : (Lit.int .i64 M).wf = true) (hn : (Lit.int .i64 n).wf = true) (hY : (Lit.int .i64 dY).wf = true) (hW : (Lit.int .i64 dW).wf = true) (hD : (Lit.int .i64 dD).wf = true) (w : World) (ht : Lens w) :
    Calls Tryd.prog 8 #[.agg #[.int .i64 F, .int .i64 M], .int .i64 n, .agg #[.int .i64 dY, .int .i64 dW, .int .i64 dD]] w fun e w' => e = .returned (.bool true) ∧ Below w.heap.size w w' := by
  replace hF := i64_wf hF
  replace hM := i64_wf hM
  replace hn := i64_wf hn
  rcases of_fate F M n hF hM hn with ⟨a, b, c, E, hE, HX⟩ | ⟨h, r0, r1, Y, hk⟩
  · by_cases r : n < -719162 ∨ 2932897 ≤ n
    · rcases day_fate F M dY dW dD hF hM (i64_wf hY) (i64_wf hW) (i64_wf hD) with ⟨V, G, hG, HD⟩ | ⟨V, HD, HZ⟩
      · exact go_bbb F M n dY dW dD hn a b c E hE HX V G hG HD r w ht
      · exact go_bab F M n dY dW dD hn a b c E hE HX V HD HZ r w ht
    · obtain ⟨y, m, d, hv, he⟩ := date_of (n := n) (by omega) (by omega)
      rcases day_fate F M dY dW dD hF hM (i64_wf hY) (i64_wf hW) (i64_wf hD) with ⟨V, G, hG, HD⟩ | ⟨V, HD, HZ⟩
      · exact go_bba F M n dY dW dD hn a b c E hE HX V G hG HD y m d hv he w ht
      · exact go_baa F M n dY dW dD hn a b c E hE HX V HD HZ y m d hv he w ht
  · obtain ⟨f0, f1, m0, m1⟩ := rulB_iff.1 h
    obtain ⟨g1, g2, g3⟩ := wk_back f0 f1 m0 m1 hk
    have hb := wdy_bd n
    have HB := fun w ht => kDay_yes F M Y (wkW F M n Y) (wdy n) h hk.y0 hk.y1 g2 g3 hb.1 hb.2 true (by rw [g1]; exact dyB_iff.2 ⟨r0, r1⟩) w ht
    rw [g1] at HB
    have HW := fun w => cweekday n hn w
    rw [wkd_wdy r0 r1] at HW
    have HX := fun w ht => kOf_in F M n Y h hk r0 r1 w ht
    obtain ⟨y, m, d, hv, he⟩ := date_of r0 r1
    rcases day_fate F M dY dW dD hF hM (i64_wf hY) (i64_wf hW) (i64_wf hD) with ⟨V, G, hG, HD⟩ | ⟨V, HD, HZ⟩
    · exact go_aba F M n dY dW dD hn Y (wkW F M n Y) (wdy n) HX HB HW V G hG HD y m d hv he w ht
    · exact go_aaa F M n dY dW dD hn Y (wkW F M n Y) (wdy n) HX HB HW V HD HZ y m d hv he w ht
end WeekBack
end Go.Proofs.YtimpaaimdjlhjaaDoor

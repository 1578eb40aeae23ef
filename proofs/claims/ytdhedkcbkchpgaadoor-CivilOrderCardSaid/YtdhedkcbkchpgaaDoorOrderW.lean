/- The walk of CivilOrder: the Go text returns true, at every input. -/
import Derived.Test.YtdhedkcbkchpgaaDoorLengthsW
import Derived.Test.YtdhedkcbkchpgaaDoorTextF
namespace Go.Proofs.YtdhedkcbkchpgaaDoor
open Go.RowKit
set_option linter.unusedVariables false

theorem some_day (y m d : Int) (hy : I64 y) (hm : I64 m) (hd : I64 d) : ∃ V E : Int,
    ∀ w, Lens w → Calls Tryd.prog 25 #[.agg #[.int .i64 y, .int .i64 m, .int .i64 d]] w fun e w' => e = .returned (.tuple #[.int .i64 V, .int .i64 E]) ∧ Below w.heap.size w w' := by
  by_cases h : vld y m d = true
  · exact ⟨_, _, fun w ht => cday_yes y m d h w ht⟩
  · rw [Bool.not_eq_true] at h
    exact ⟨_, _, fun w ht => cday_no y m d hy hm hd h w ht⟩
theorem less_text {y m d y' m' d' : Int} (h : vld y m d = true) (h' : vld y' m' d' = true) :
    Op.bytesLess (⟨(textD y m d).toArray⟩ : ByteArray).toList (⟨(textD y' m' d').toArray⟩ : ByteArray).toList = (decide (y < y') || ((y == y') && (decide (m < m') || ((m == m') && decide (d < d'))))) := by
  rw [ByteArray.toList_eq, ByteArray.toList_eq]
  simpa using text_less h h'
namespace CivilOrder
set_option maxRecDepth 100000 in
set_option maxHeartbeats 2000000 in
theorem bad_one (ya ma da yb mb db V E X G : Int) (hG : (E != 0) = true)
    (HA : ∀ w, Lens w → Calls Tryd.prog 25 #[.agg #[.int .i64 ya, .int .i64 ma, .int .i64 da]] w fun e w' => e = .returned (.tuple #[.int .i64 V, .int .i64 E]) ∧ Below w.heap.size w w')
    (HB : ∀ w, Lens w → Calls Tryd.prog 25 #[.agg #[.int .i64 yb, .int .i64 mb, .int .i64 db]] w fun e w' => e = .returned (.tuple #[.int .i64 X, .int .i64 G]) ∧ Below w.heap.size w w')
    (w : World) (ht : Lens w) :
    Calls Tryd.prog 13 #[.agg #[.int .i64 ya, .int .i64 ma, .int .i64 da], .agg #[.int .i64 yb, .int .i64 mb, .int .i64 db]] w fun e w' => e = .returned (.bool true) ∧ Below w.heap.size w w' := by
  replace HA := Lib.hid HA
  replace HB := Lib.hid HB
  replace ht := Lib.hid ht
  go_enter Tryd.func13, Tryd.ntmps13
  go_wp2_with fail
  refine (awake_all _ (lens_alloc (lens_alloc ht.out _) _)).mono ?_
  rintro e w1 ⟨rfl, hb⟩
  have A1 := Lib.hid (down (grow (grow (here w) _) _) hb)
  have s1 : (w.alloc (.cells #[.int .i64 ya, .int .i64 ma, .int .i64 da] 23)).heap.size = w.heap.size + 1 := by simp
  have B1 : Hid (Box w1 w.heap.size (.int .i64 ya) (.int .i64 ma) (.int .i64 da)) := ((Box.new (here _)).old _).keep hb
  have C1 : Hid (Box w1 (w.heap.size + 1) (.int .i64 yb) (.int .i64 mb) (.int .i64 db)) := by rw [← s1]; exact Box.new hb
  clear hb s1
  obtain ⟨c0, c1, c2, z⟩ := B1.out
  go_wp2_with fail
  refine (HA.out _ (lens_below ht.out A1.out)).mono ?_
  rintro e w2 ⟨rfl, hb⟩
  have A2 := Lib.hid (down A1.out hb)
  have B2 := Lib.hid (B1.out.keep hb)
  have C2 := Lib.hid (C1.out.keep hb)
  clear hb A1 B1 C1 c0 c1 c2 z
  obtain ⟨d0, d1, d2, z⟩ := C2.out
  go_wp2_with fail
  refine (HB.out _ (lens_below ht.out A2.out)).mono ?_
  rintro e w3 ⟨rfl, hb⟩
  have A3 := Lib.hid (down A2.out hb)
  have B3 := Lib.hid (B2.out.keep hb)
  have C3 := Lib.hid (C2.out.keep hb)
  clear hb A2 B2 C2 d0 d1 d2 z
  go_wp2
  go_ret
  exact ⟨rfl, A3.out⟩
set_option maxRecDepth 100000 in
set_option maxHeartbeats 2000000 in
theorem bad_two (ya ma da yb mb db V E X G : Int) (hG : (E != 0) = false ∧ (G != 0) = true)
    (HA : ∀ w, Lens w → Calls Tryd.prog 25 #[.agg #[.int .i64 ya, .int .i64 ma, .int .i64 da]] w fun e w' => e = .returned (.tuple #[.int .i64 V, .int .i64 E]) ∧ Below w.heap.size w w')
    (HB : ∀ w, Lens w → Calls Tryd.prog 25 #[.agg #[.int .i64 yb, .int .i64 mb, .int .i64 db]] w fun e w' => e = .returned (.tuple #[.int .i64 X, .int .i64 G]) ∧ Below w.heap.size w w')
    (w : World) (ht : Lens w) :
    Calls Tryd.prog 13 #[.agg #[.int .i64 ya, .int .i64 ma, .int .i64 da], .agg #[.int .i64 yb, .int .i64 mb, .int .i64 db]] w fun e w' => e = .returned (.bool true) ∧ Below w.heap.size w w' := by
  replace HA := Lib.hid HA
  replace HB := Lib.hid HB
  replace ht := Lib.hid ht
  obtain ⟨g1, g2⟩ := hG
  go_enter Tryd.func13, Tryd.ntmps13
  go_wp2_with fail
  refine (awake_all _ (lens_alloc (lens_alloc ht.out _) _)).mono ?_
  rintro e w1 ⟨rfl, hb⟩
  have A1 := Lib.hid (down (grow (grow (here w) _) _) hb)
  have s1 : (w.alloc (.cells #[.int .i64 ya, .int .i64 ma, .int .i64 da] 23)).heap.size = w.heap.size + 1 := by simp
  have B1 : Hid (Box w1 w.heap.size (.int .i64 ya) (.int .i64 ma) (.int .i64 da)) := ((Box.new (here _)).old _).keep hb
  have C1 : Hid (Box w1 (w.heap.size + 1) (.int .i64 yb) (.int .i64 mb) (.int .i64 db)) := by rw [← s1]; exact Box.new hb
  clear hb s1
  obtain ⟨c0, c1, c2, z⟩ := B1.out
  go_wp2_with fail
  refine (HA.out _ (lens_below ht.out A1.out)).mono ?_
  rintro e w2 ⟨rfl, hb⟩
  have A2 := Lib.hid (down A1.out hb)
  have B2 := Lib.hid (B1.out.keep hb)
  have C2 := Lib.hid (C1.out.keep hb)
  clear hb A1 B1 C1 c0 c1 c2 z
  obtain ⟨d0, d1, d2, z⟩ := C2.out
  go_wp2_with fail
  refine (HB.out _ (lens_below ht.out A2.out)).mono ?_
  rintro e w3 ⟨rfl, hb⟩
  have A3 := Lib.hid (down A2.out hb)
  have B3 := Lib.hid (B2.out.keep hb)
  have C3 := Lib.hid (C2.out.keep hb)
  clear hb A2 B2 C2 d0 d1 d2 z
  go_wp2
  go_ret
  exact ⟨rfl, A3.out⟩
set_option maxRecDepth 100000 in
set_option maxHeartbeats 4000000 in
theorem y_lt (ya ma da yb mb db : Int) (va : vld ya ma da = true) (vb : vld yb mb db = true) (k : ya < yb) (w : World) (ht : Lens w) (hp : Tab w) :
    Calls Tryd.prog 13 #[.agg #[.int .i64 ya, .int .i64 ma, .int .i64 da], .agg #[.int .i64 yb, .int .i64 mb, .int .i64 db]] w fun e w' => e = .returned (.bool true) ∧ Below w.heap.size w w' := by
  have HA := fun w ht => cday_yes ya ma da va w ht
  have HB := fun w ht => cday_yes yb mb db vb w ht
  have TA := fun w ht hp => ctext_yes ya ma da va w ht hp
  have TB := fun w ht hp => ctext_yes yb mb db vb w ht hp
  have kT := (less_text va vb).trans (show _ = true from by simp <;> omega)
  have l := day_lt va vb (.inl k)
  have kX : decide (dayN ya ma da < dayN yb mb db) = true := decide_eq_true l
  have kE : (dayN ya ma da == dayN yb mb db) = false := beq_eq_false_iff_ne.2 (by omega)
  have f1 : decide (ya < yb) = true := decide_eq_true k
  have f2 : (ya == yb) = false := beq_eq_false_iff_ne.2 (by omega)
  clear l k
  generalize dayN ya ma da = X at *
  generalize dayN yb mb db = Y at *
  generalize (⟨(textD ya ma da).toArray⟩ : ByteArray) = SA at *
  generalize (⟨(textD yb mb db).toArray⟩ : ByteArray) = SB at *
  replace HA := Lib.hid HA
  replace HB := Lib.hid HB
  replace TA := Lib.hid TA
  replace TB := Lib.hid TB
  replace ht := Lib.hid ht
  replace hp := Lib.hid hp
  clear va vb
  go_enter Tryd.func13, Tryd.ntmps13
  go_wp2_with fail
  refine (awake_all _ (lens_alloc (lens_alloc ht.out _) _)).mono ?_
  rintro e w1 ⟨rfl, hb⟩
  have A1 := Lib.hid (down (grow (grow (here w) _) _) hb)
  have s1 : (w.alloc (.cells #[.int .i64 ya, .int .i64 ma, .int .i64 da] 23)).heap.size = w.heap.size + 1 := by simp
  have B1 : Hid (Box w1 w.heap.size (.int .i64 ya) (.int .i64 ma) (.int .i64 da)) := ((Box.new (here _)).old _).keep hb
  have C1 : Hid (Box w1 (w.heap.size + 1) (.int .i64 yb) (.int .i64 mb) (.int .i64 db)) := by rw [← s1]; exact Box.new hb
  clear hb s1
  obtain ⟨c0, c1, c2, z⟩ := B1.out
  go_wp2_with fail
  refine (HA.out _ (lens_below ht.out A1.out)).mono ?_
  rintro e w2 ⟨rfl, hb⟩
  have A2 := Lib.hid (down A1.out hb)
  have B2 := Lib.hid (B1.out.keep hb)
  have C2 := Lib.hid (C1.out.keep hb)
  clear hb A1 B1 C1 c0 c1 c2 z
  obtain ⟨d0, d1, d2, z⟩ := C2.out
  go_wp2_with fail
  refine (HB.out _ (lens_below ht.out A2.out)).mono ?_
  rintro e w3 ⟨rfl, hb⟩
  have A3 := Lib.hid (down A2.out hb)
  have B3 := Lib.hid (B2.out.keep hb)
  have C3 := Lib.hid (C2.out.keep hb)
  clear hb A2 B2 C2 d0 d1 d2 z
  obtain ⟨c0, c1, c2, z⟩ := B3.out
  obtain ⟨d0, d1, d2, z2⟩ := C3.out
  have KT : Hid (∀ x : Kept w3, Lens x.wd) := fun x => lens_below ht.out (down A3.out x.ok)
  have KP : Hid (∀ x : Kept w3, Tab x.wd) := fun x => tab_below hp.out (down A3.out x.ok)
  go_wp2
  clear c0 c1 c2 z d0 d1 d2 z2
  have c0 : ∀ x : Kept w3, x.wd.cell? ⟨w.heap.size, 0, none⟩ = some (.int .i64 ya) := fun x => (B3.out.keep x.ok).c0
  have c1 : ∀ x : Kept w3, x.wd.cell? ⟨w.heap.size, 1, none⟩ = some (.int .i64 ma) := fun x => (B3.out.keep x.ok).c1
  have c2 : ∀ x : Kept w3, x.wd.cell? ⟨w.heap.size, 2, none⟩ = some (.int .i64 da) := fun x => (B3.out.keep x.ok).c2
  have d0 : ∀ x : Kept w3, x.wd.cell? ⟨w.heap.size + 1, 0, none⟩ = some (.int .i64 yb) := fun x => (C3.out.keep x.ok).c0
  have d1 : ∀ x : Kept w3, x.wd.cell? ⟨w.heap.size + 1, 1, none⟩ = some (.int .i64 mb) := fun x => (C3.out.keep x.ok).c1
  have d2 : ∀ x : Kept w3, x.wd.cell? ⟨w.heap.size + 1, 2, none⟩ = some (.int .i64 db) := fun x => (C3.out.keep x.ok).c2
  refine wp_region_kept (by kernel_rfl) (by kernel_rfl) ?_
  repeat (go_big_quiet_step ((go_at_call 35; first | (with_reducible exact kept_call _ (TA.out _ (KT.out _) (KP.out _))) | exact kept_call _ (TB.out _ (KT.out _) (KP.out _)))))
  refine wpQuiet_nil ?_
  intro _ hx
  obtain ⟨⟨w4, hb⟩, hw⟩ := hx
  subst hw
  go_wp2
  go_ret
  exact ⟨rfl, down A3.out hb⟩
set_option maxRecDepth 100000 in
set_option maxHeartbeats 4000000 in
theorem y_gt (ya ma da yb mb db : Int) (va : vld ya ma da = true) (vb : vld yb mb db = true) (k : yb < ya) (w : World) (ht : Lens w) (hp : Tab w) :
    Calls Tryd.prog 13 #[.agg #[.int .i64 ya, .int .i64 ma, .int .i64 da], .agg #[.int .i64 yb, .int .i64 mb, .int .i64 db]] w fun e w' => e = .returned (.bool true) ∧ Below w.heap.size w w' := by
  have HA := fun w ht => cday_yes ya ma da va w ht
  have HB := fun w ht => cday_yes yb mb db vb w ht
  have TA := fun w ht hp => ctext_yes ya ma da va w ht hp
  have TB := fun w ht hp => ctext_yes yb mb db vb w ht hp
  have kT := (less_text va vb).trans (show _ = false from by simp <;> omega)
  have l := day_lt vb va (.inl k)
  have kX : decide (dayN ya ma da < dayN yb mb db) = false := decide_eq_false (by omega)
  have kE : (dayN ya ma da == dayN yb mb db) = false := beq_eq_false_iff_ne.2 (by omega)
  have f1 : decide (ya < yb) = false := decide_eq_false (by omega)
  have f2 : (ya == yb) = false := beq_eq_false_iff_ne.2 (by omega)
  clear l k
  generalize dayN ya ma da = X at *
  generalize dayN yb mb db = Y at *
  generalize (⟨(textD ya ma da).toArray⟩ : ByteArray) = SA at *
  generalize (⟨(textD yb mb db).toArray⟩ : ByteArray) = SB at *
  replace HA := Lib.hid HA
  replace HB := Lib.hid HB
  replace TA := Lib.hid TA
  replace TB := Lib.hid TB
  replace ht := Lib.hid ht
  replace hp := Lib.hid hp
  clear va vb
  go_enter Tryd.func13, Tryd.ntmps13
  go_wp2_with fail
  refine (awake_all _ (lens_alloc (lens_alloc ht.out _) _)).mono ?_
  rintro e w1 ⟨rfl, hb⟩
  have A1 := Lib.hid (down (grow (grow (here w) _) _) hb)
  have s1 : (w.alloc (.cells #[.int .i64 ya, .int .i64 ma, .int .i64 da] 23)).heap.size = w.heap.size + 1 := by simp
  have B1 : Hid (Box w1 w.heap.size (.int .i64 ya) (.int .i64 ma) (.int .i64 da)) := ((Box.new (here _)).old _).keep hb
  have C1 : Hid (Box w1 (w.heap.size + 1) (.int .i64 yb) (.int .i64 mb) (.int .i64 db)) := by rw [← s1]; exact Box.new hb
  clear hb s1
  obtain ⟨c0, c1, c2, z⟩ := B1.out
  go_wp2_with fail
  refine (HA.out _ (lens_below ht.out A1.out)).mono ?_
  rintro e w2 ⟨rfl, hb⟩
  have A2 := Lib.hid (down A1.out hb)
  have B2 := Lib.hid (B1.out.keep hb)
  have C2 := Lib.hid (C1.out.keep hb)
  clear hb A1 B1 C1 c0 c1 c2 z
  obtain ⟨d0, d1, d2, z⟩ := C2.out
  go_wp2_with fail
  refine (HB.out _ (lens_below ht.out A2.out)).mono ?_
  rintro e w3 ⟨rfl, hb⟩
  have A3 := Lib.hid (down A2.out hb)
  have B3 := Lib.hid (B2.out.keep hb)
  have C3 := Lib.hid (C2.out.keep hb)
  clear hb A2 B2 C2 d0 d1 d2 z
  obtain ⟨c0, c1, c2, z⟩ := B3.out
  obtain ⟨d0, d1, d2, z2⟩ := C3.out
  have KT : Hid (∀ x : Kept w3, Lens x.wd) := fun x => lens_below ht.out (down A3.out x.ok)
  have KP : Hid (∀ x : Kept w3, Tab x.wd) := fun x => tab_below hp.out (down A3.out x.ok)
  go_wp2
  clear c0 c1 c2 z d0 d1 d2 z2
  have c0 : ∀ x : Kept w3, x.wd.cell? ⟨w.heap.size, 0, none⟩ = some (.int .i64 ya) := fun x => (B3.out.keep x.ok).c0
  have c1 : ∀ x : Kept w3, x.wd.cell? ⟨w.heap.size, 1, none⟩ = some (.int .i64 ma) := fun x => (B3.out.keep x.ok).c1
  have c2 : ∀ x : Kept w3, x.wd.cell? ⟨w.heap.size, 2, none⟩ = some (.int .i64 da) := fun x => (B3.out.keep x.ok).c2
  have d0 : ∀ x : Kept w3, x.wd.cell? ⟨w.heap.size + 1, 0, none⟩ = some (.int .i64 yb) := fun x => (C3.out.keep x.ok).c0
  have d1 : ∀ x : Kept w3, x.wd.cell? ⟨w.heap.size + 1, 1, none⟩ = some (.int .i64 mb) := fun x => (C3.out.keep x.ok).c1
  have d2 : ∀ x : Kept w3, x.wd.cell? ⟨w.heap.size + 1, 2, none⟩ = some (.int .i64 db) := fun x => (C3.out.keep x.ok).c2
  refine wp_region_kept (by kernel_rfl) (by kernel_rfl) ?_
  repeat (go_big_quiet_step ((go_at_call 35; first | (with_reducible exact kept_call _ (TA.out _ (KT.out _) (KP.out _))) | exact kept_call _ (TB.out _ (KT.out _) (KP.out _)))))
  refine wpQuiet_nil ?_
  intro _ hx
  obtain ⟨⟨w4, hb⟩, hw⟩ := hx
  subst hw
  go_wp2
  go_ret
  exact ⟨rfl, down A3.out hb⟩
set_option maxRecDepth 100000 in
set_option maxHeartbeats 4000000 in
theorem m_lt (y ma da mb db : Int) (va : vld y ma da = true) (vb : vld y mb db = true) (k : ma < mb) (w : World) (ht : Lens w) (hp : Tab w) :
    Calls Tryd.prog 13 #[.agg #[.int .i64 y, .int .i64 ma, .int .i64 da], .agg #[.int .i64 y, .int .i64 mb, .int .i64 db]] w fun e w' => e = .returned (.bool true) ∧ Below w.heap.size w w' := by
  have HA := fun w ht => cday_yes y ma da va w ht
  have HB := fun w ht => cday_yes y mb db vb w ht
  have TA := fun w ht hp => ctext_yes y ma da va w ht hp
  have TB := fun w ht hp => ctext_yes y mb db vb w ht hp
  have kT := (less_text va vb).trans (show _ = true from by simp <;> omega)
  have l := day_lt va vb (.inr ⟨rfl, .inl k⟩)
  have kX : decide (dayN y ma da < dayN y mb db) = true := decide_eq_true l
  have kE : (dayN y ma da == dayN y mb db) = false := beq_eq_false_iff_ne.2 (by omega)
  have f1 : decide (ma < mb) = true := decide_eq_true k
  have f2 : (ma == mb) = false := beq_eq_false_iff_ne.2 (by omega)
  clear l k
  generalize dayN y ma da = X at *
  generalize dayN y mb db = Y at *
  generalize (⟨(textD y ma da).toArray⟩ : ByteArray) = SA at *
  generalize (⟨(textD y mb db).toArray⟩ : ByteArray) = SB at *
  replace HA := Lib.hid HA
  replace HB := Lib.hid HB
  replace TA := Lib.hid TA
  replace TB := Lib.hid TB
  replace ht := Lib.hid ht
  replace hp := Lib.hid hp
  clear va vb
  go_enter Tryd.func13, Tryd.ntmps13
  go_wp2_with fail
  refine (awake_all _ (lens_alloc (lens_alloc ht.out _) _)).mono ?_
  rintro e w1 ⟨rfl, hb⟩
  have A1 := Lib.hid (down (grow (grow (here w) _) _) hb)
  have s1 : (w.alloc (.cells #[.int .i64 y, .int .i64 ma, .int .i64 da] 23)).heap.size = w.heap.size + 1 := by simp
  have B1 : Hid (Box w1 w.heap.size (.int .i64 y) (.int .i64 ma) (.int .i64 da)) := ((Box.new (here _)).old _).keep hb
  have C1 : Hid (Box w1 (w.heap.size + 1) (.int .i64 y) (.int .i64 mb) (.int .i64 db)) := by rw [← s1]; exact Box.new hb
  clear hb s1
  obtain ⟨c0, c1, c2, z⟩ := B1.out
  go_wp2_with fail
  refine (HA.out _ (lens_below ht.out A1.out)).mono ?_
  rintro e w2 ⟨rfl, hb⟩
  have A2 := Lib.hid (down A1.out hb)
  have B2 := Lib.hid (B1.out.keep hb)
  have C2 := Lib.hid (C1.out.keep hb)
  clear hb A1 B1 C1 c0 c1 c2 z
  obtain ⟨d0, d1, d2, z⟩ := C2.out
  go_wp2_with fail
  refine (HB.out _ (lens_below ht.out A2.out)).mono ?_
  rintro e w3 ⟨rfl, hb⟩
  have A3 := Lib.hid (down A2.out hb)
  have B3 := Lib.hid (B2.out.keep hb)
  have C3 := Lib.hid (C2.out.keep hb)
  clear hb A2 B2 C2 d0 d1 d2 z
  obtain ⟨c0, c1, c2, z⟩ := B3.out
  obtain ⟨d0, d1, d2, z2⟩ := C3.out
  have KT : Hid (∀ x : Kept w3, Lens x.wd) := fun x => lens_below ht.out (down A3.out x.ok)
  have KP : Hid (∀ x : Kept w3, Tab x.wd) := fun x => tab_below hp.out (down A3.out x.ok)
  go_wp2
  clear c0 c1 c2 z d0 d1 d2 z2
  have c0 : ∀ x : Kept w3, x.wd.cell? ⟨w.heap.size, 0, none⟩ = some (.int .i64 y) := fun x => (B3.out.keep x.ok).c0
  have c1 : ∀ x : Kept w3, x.wd.cell? ⟨w.heap.size, 1, none⟩ = some (.int .i64 ma) := fun x => (B3.out.keep x.ok).c1
  have c2 : ∀ x : Kept w3, x.wd.cell? ⟨w.heap.size, 2, none⟩ = some (.int .i64 da) := fun x => (B3.out.keep x.ok).c2
  have d0 : ∀ x : Kept w3, x.wd.cell? ⟨w.heap.size + 1, 0, none⟩ = some (.int .i64 y) := fun x => (C3.out.keep x.ok).c0
  have d1 : ∀ x : Kept w3, x.wd.cell? ⟨w.heap.size + 1, 1, none⟩ = some (.int .i64 mb) := fun x => (C3.out.keep x.ok).c1
  have d2 : ∀ x : Kept w3, x.wd.cell? ⟨w.heap.size + 1, 2, none⟩ = some (.int .i64 db) := fun x => (C3.out.keep x.ok).c2
  refine wp_region_kept (by kernel_rfl) (by kernel_rfl) ?_
  repeat (go_big_quiet_step ((go_at_call 35; first | (with_reducible exact kept_call _ (TA.out _ (KT.out _) (KP.out _))) | exact kept_call _ (TB.out _ (KT.out _) (KP.out _)))))
  refine wpQuiet_nil ?_
  intro _ hx
  obtain ⟨⟨w4, hb⟩, hw⟩ := hx
  subst hw
  go_wp2
  go_ret
  exact ⟨rfl, down A3.out hb⟩
set_option maxRecDepth 100000 in
set_option maxHeartbeats 4000000 in
theorem m_gt (y ma da mb db : Int) (va : vld y ma da = true) (vb : vld y mb db = true) (k : mb < ma) (w : World) (ht : Lens w) (hp : Tab w) :
    Calls Tryd.prog 13 #[.agg #[.int .i64 y, .int .i64 ma, .int .i64 da], .agg #[.int .i64 y, .int .i64 mb, .int .i64 db]] w fun e w' => e = .returned (.bool true) ∧ Below w.heap.size w w' := by
  have HA := fun w ht => cday_yes y ma da va w ht
  have HB := fun w ht => cday_yes y mb db vb w ht
  have TA := fun w ht hp => ctext_yes y ma da va w ht hp
  have TB := fun w ht hp => ctext_yes y mb db vb w ht hp
  have kT := (less_text va vb).trans (show _ = false from by simp <;> omega)
  have l := day_lt vb va (.inr ⟨rfl, .inl k⟩)
  have kX : decide (dayN y ma da < dayN y mb db) = false := decide_eq_false (by omega)
  have kE : (dayN y ma da == dayN y mb db) = false := beq_eq_false_iff_ne.2 (by omega)
  have f1 : decide (ma < mb) = false := decide_eq_false (by omega)
  have f2 : (ma == mb) = false := beq_eq_false_iff_ne.2 (by omega)
  clear l k
  generalize dayN y ma da = X at *
  generalize dayN y mb db = Y at *
  generalize (⟨(textD y ma da).toArray⟩ : ByteArray) = SA at *
  generalize (⟨(textD y mb db).toArray⟩ : ByteArray) = SB at *
  replace HA := Lib.hid HA
  replace HB := Lib.hid HB
  replace TA := Lib.hid TA
  replace TB := Lib.hid TB
  replace ht := Lib.hid ht
  replace hp := Lib.hid hp
  clear va vb
  go_enter Tryd.func13, Tryd.ntmps13
  go_wp2_with fail
  refine (awake_all _ (lens_alloc (lens_alloc ht.out _) _)).mono ?_
  rintro e w1 ⟨rfl, hb⟩
  have A1 := Lib.hid (down (grow (grow (here w) _) _) hb)
  have s1 : (w.alloc (.cells #[.int .i64 y, .int .i64 ma, .int .i64 da] 23)).heap.size = w.heap.size + 1 := by simp
  have B1 : Hid (Box w1 w.heap.size (.int .i64 y) (.int .i64 ma) (.int .i64 da)) := ((Box.new (here _)).old _).keep hb
  have C1 : Hid (Box w1 (w.heap.size + 1) (.int .i64 y) (.int .i64 mb) (.int .i64 db)) := by rw [← s1]; exact Box.new hb
  clear hb s1
  obtain ⟨c0, c1, c2, z⟩ := B1.out
  go_wp2_with fail
  refine (HA.out _ (lens_below ht.out A1.out)).mono ?_
  rintro e w2 ⟨rfl, hb⟩
  have A2 := Lib.hid (down A1.out hb)
  have B2 := Lib.hid (B1.out.keep hb)
  have C2 := Lib.hid (C1.out.keep hb)
  clear hb A1 B1 C1 c0 c1 c2 z
  obtain ⟨d0, d1, d2, z⟩ := C2.out
  go_wp2_with fail
  refine (HB.out _ (lens_below ht.out A2.out)).mono ?_
  rintro e w3 ⟨rfl, hb⟩
  have A3 := Lib.hid (down A2.out hb)
  have B3 := Lib.hid (B2.out.keep hb)
  have C3 := Lib.hid (C2.out.keep hb)
  clear hb A2 B2 C2 d0 d1 d2 z
  obtain ⟨c0, c1, c2, z⟩ := B3.out
  obtain ⟨d0, d1, d2, z2⟩ := C3.out
  have KT : Hid (∀ x : Kept w3, Lens x.wd) := fun x => lens_below ht.out (down A3.out x.ok)
  have KP : Hid (∀ x : Kept w3, Tab x.wd) := fun x => tab_below hp.out (down A3.out x.ok)
  go_wp2
  clear c0 c1 c2 z d0 d1 d2 z2
  have c0 : ∀ x : Kept w3, x.wd.cell? ⟨w.heap.size, 0, none⟩ = some (.int .i64 y) := fun x => (B3.out.keep x.ok).c0
  have c1 : ∀ x : Kept w3, x.wd.cell? ⟨w.heap.size, 1, none⟩ = some (.int .i64 ma) := fun x => (B3.out.keep x.ok).c1
  have c2 : ∀ x : Kept w3, x.wd.cell? ⟨w.heap.size, 2, none⟩ = some (.int .i64 da) := fun x => (B3.out.keep x.ok).c2
  have d0 : ∀ x : Kept w3, x.wd.cell? ⟨w.heap.size + 1, 0, none⟩ = some (.int .i64 y) := fun x => (C3.out.keep x.ok).c0
  have d1 : ∀ x : Kept w3, x.wd.cell? ⟨w.heap.size + 1, 1, none⟩ = some (.int .i64 mb) := fun x => (C3.out.keep x.ok).c1
  have d2 : ∀ x : Kept w3, x.wd.cell? ⟨w.heap.size + 1, 2, none⟩ = some (.int .i64 db) := fun x => (C3.out.keep x.ok).c2
  refine wp_region_kept (by kernel_rfl) (by kernel_rfl) ?_
  repeat (go_big_quiet_step ((go_at_call 35; first | (with_reducible exact kept_call _ (TA.out _ (KT.out _) (KP.out _))) | exact kept_call _ (TB.out _ (KT.out _) (KP.out _)))))
  refine wpQuiet_nil ?_
  intro _ hx
  obtain ⟨⟨w4, hb⟩, hw⟩ := hx
  subst hw
  go_wp2
  go_ret
  exact ⟨rfl, down A3.out hb⟩
set_option maxRecDepth 100000 in
set_option maxHeartbeats 4000000 in
theorem d_lt (y m da db : Int) (va : vld y m da = true) (vb : vld y m db = true) (k : da < db) (w : World) (ht : Lens w) (hp : Tab w) :
    Calls Tryd.prog 13 #[.agg #[.int .i64 y, .int .i64 m, .int .i64 da], .agg #[.int .i64 y, .int .i64 m, .int .i64 db]] w fun e w' => e = .returned (.bool true) ∧ Below w.heap.size w w' := by
  have HA := fun w ht => cday_yes y m da va w ht
  have HB := fun w ht => cday_yes y m db vb w ht
  have TA := fun w ht hp => ctext_yes y m da va w ht hp
  have TB := fun w ht hp => ctext_yes y m db vb w ht hp
  have kT := (less_text va vb).trans (show _ = true from by simp <;> omega)
  have l := day_lt va vb (.inr ⟨rfl, .inr ⟨rfl, k⟩⟩)
  have kX : decide (dayN y m da < dayN y m db) = true := decide_eq_true l
  have kE : (dayN y m da == dayN y m db) = false := beq_eq_false_iff_ne.2 (by omega)
  have f1 : decide (da < db) = true := decide_eq_true k
  have f2 : (da == db) = false := beq_eq_false_iff_ne.2 (by omega)
  clear l k
  generalize dayN y m da = X at *
  generalize dayN y m db = Y at *
  generalize (⟨(textD y m da).toArray⟩ : ByteArray) = SA at *
  generalize (⟨(textD y m db).toArray⟩ : ByteArray) = SB at *
  replace HA := Lib.hid HA
  replace HB := Lib.hid HB
  replace TA := Lib.hid TA
  replace TB := Lib.hid TB
  replace ht := Lib.hid ht
  replace hp := Lib.hid hp
  clear va vb
  go_enter Tryd.func13, Tryd.ntmps13
  go_wp2_with fail
  refine (awake_all _ (lens_alloc (lens_alloc ht.out _) _)).mono ?_
  rintro e w1 ⟨rfl, hb⟩
  have A1 := Lib.hid (down (grow (grow (here w) _) _) hb)
  have s1 : (w.alloc (.cells #[.int .i64 y, .int .i64 m, .int .i64 da] 23)).heap.size = w.heap.size + 1 := by simp
  have B1 : Hid (Box w1 w.heap.size (.int .i64 y) (.int .i64 m) (.int .i64 da)) := ((Box.new (here _)).old _).keep hb
  have C1 : Hid (Box w1 (w.heap.size + 1) (.int .i64 y) (.int .i64 m) (.int .i64 db)) := by rw [← s1]; exact Box.new hb
  clear hb s1
  obtain ⟨c0, c1, c2, z⟩ := B1.out
  go_wp2_with fail
  refine (HA.out _ (lens_below ht.out A1.out)).mono ?_
  rintro e w2 ⟨rfl, hb⟩
  have A2 := Lib.hid (down A1.out hb)
  have B2 := Lib.hid (B1.out.keep hb)
  have C2 := Lib.hid (C1.out.keep hb)
  clear hb A1 B1 C1 c0 c1 c2 z
  obtain ⟨d0, d1, d2, z⟩ := C2.out
  go_wp2_with fail
  refine (HB.out _ (lens_below ht.out A2.out)).mono ?_
  rintro e w3 ⟨rfl, hb⟩
  have A3 := Lib.hid (down A2.out hb)
  have B3 := Lib.hid (B2.out.keep hb)
  have C3 := Lib.hid (C2.out.keep hb)
  clear hb A2 B2 C2 d0 d1 d2 z
  obtain ⟨c0, c1, c2, z⟩ := B3.out
  obtain ⟨d0, d1, d2, z2⟩ := C3.out
  have KT : Hid (∀ x : Kept w3, Lens x.wd) := fun x => lens_below ht.out (down A3.out x.ok)
  have KP : Hid (∀ x : Kept w3, Tab x.wd) := fun x => tab_below hp.out (down A3.out x.ok)
  go_wp2
  clear c0 c1 c2 z d0 d1 d2 z2
  have c0 : ∀ x : Kept w3, x.wd.cell? ⟨w.heap.size, 0, none⟩ = some (.int .i64 y) := fun x => (B3.out.keep x.ok).c0
  have c1 : ∀ x : Kept w3, x.wd.cell? ⟨w.heap.size, 1, none⟩ = some (.int .i64 m) := fun x => (B3.out.keep x.ok).c1
  have c2 : ∀ x : Kept w3, x.wd.cell? ⟨w.heap.size, 2, none⟩ = some (.int .i64 da) := fun x => (B3.out.keep x.ok).c2
  have d0 : ∀ x : Kept w3, x.wd.cell? ⟨w.heap.size + 1, 0, none⟩ = some (.int .i64 y) := fun x => (C3.out.keep x.ok).c0
  have d1 : ∀ x : Kept w3, x.wd.cell? ⟨w.heap.size + 1, 1, none⟩ = some (.int .i64 m) := fun x => (C3.out.keep x.ok).c1
  have d2 : ∀ x : Kept w3, x.wd.cell? ⟨w.heap.size + 1, 2, none⟩ = some (.int .i64 db) := fun x => (C3.out.keep x.ok).c2
  refine wp_region_kept (by kernel_rfl) (by kernel_rfl) ?_
  repeat (go_big_quiet_step ((go_at_call 35; first | (with_reducible exact kept_call _ (TA.out _ (KT.out _) (KP.out _))) | exact kept_call _ (TB.out _ (KT.out _) (KP.out _)))))
  refine wpQuiet_nil ?_
  intro _ hx
  obtain ⟨⟨w4, hb⟩, hw⟩ := hx
  subst hw
  go_wp2
  go_ret
  exact ⟨rfl, down A3.out hb⟩
set_option maxRecDepth 100000 in
set_option maxHeartbeats 4000000 in
theorem d_gt (y m da db : Int) (va : vld y m da = true) (vb : vld y m db = true) (k : db < da) (w : World) (ht : Lens w) (hp : Tab w) :
    Calls Tryd.prog 13 #[.agg #[.int .i64 y, .int .i64 m, .int .i64 da], .agg #[.int .i64 y, .int .i64 m, .int .i64 db]] w fun e w' => e = .returned (.bool true) ∧ Below w.heap.size w w' := by
  have HA := fun w ht => cday_yes y m da va w ht
  have HB := fun w ht => cday_yes y m db vb w ht
  have TA := fun w ht hp => ctext_yes y m da va w ht hp
  have TB := fun w ht hp => ctext_yes y m db vb w ht hp
  have kT := (less_text va vb).trans (show _ = false from by simp <;> omega)
  have l := day_lt vb va (.inr ⟨rfl, .inr ⟨rfl, k⟩⟩)
  have kX : decide (dayN y m da < dayN y m db) = false := decide_eq_false (by omega)
  have kE : (dayN y m da == dayN y m db) = false := beq_eq_false_iff_ne.2 (by omega)
  have f1 : decide (da < db) = false := decide_eq_false (by omega)
  have f2 : (da == db) = false := beq_eq_false_iff_ne.2 (by omega)
  clear l k
  generalize dayN y m da = X at *
  generalize dayN y m db = Y at *
  generalize (⟨(textD y m da).toArray⟩ : ByteArray) = SA at *
  generalize (⟨(textD y m db).toArray⟩ : ByteArray) = SB at *
  replace HA := Lib.hid HA
  replace HB := Lib.hid HB
  replace TA := Lib.hid TA
  replace TB := Lib.hid TB
  replace ht := Lib.hid ht
  replace hp := Lib.hid hp
  clear va vb
  go_enter Tryd.func13, Tryd.ntmps13
  go_wp2_with fail
  refine (awake_all _ (lens_alloc (lens_alloc ht.out _) _)).mono ?_
  rintro e w1 ⟨rfl, hb⟩
  have A1 := Lib.hid (down (grow (grow (here w) _) _) hb)
  have s1 : (w.alloc (.cells #[.int .i64 y, .int .i64 m, .int .i64 da] 23)).heap.size = w.heap.size + 1 := by simp
  have B1 : Hid (Box w1 w.heap.size (.int .i64 y) (.int .i64 m) (.int .i64 da)) := ((Box.new (here _)).old _).keep hb
  have C1 : Hid (Box w1 (w.heap.size + 1) (.int .i64 y) (.int .i64 m) (.int .i64 db)) := by rw [← s1]; exact Box.new hb
  clear hb s1
  obtain ⟨c0, c1, c2, z⟩ := B1.out
  go_wp2_with fail
  refine (HA.out _ (lens_below ht.out A1.out)).mono ?_
  rintro e w2 ⟨rfl, hb⟩
  have A2 := Lib.hid (down A1.out hb)
  have B2 := Lib.hid (B1.out.keep hb)
  have C2 := Lib.hid (C1.out.keep hb)
  clear hb A1 B1 C1 c0 c1 c2 z
  obtain ⟨d0, d1, d2, z⟩ := C2.out
  go_wp2_with fail
  refine (HB.out _ (lens_below ht.out A2.out)).mono ?_
  rintro e w3 ⟨rfl, hb⟩
  have A3 := Lib.hid (down A2.out hb)
  have B3 := Lib.hid (B2.out.keep hb)
  have C3 := Lib.hid (C2.out.keep hb)
  clear hb A2 B2 C2 d0 d1 d2 z
  obtain ⟨c0, c1, c2, z⟩ := B3.out
  obtain ⟨d0, d1, d2, z2⟩ := C3.out
  have KT : Hid (∀ x : Kept w3, Lens x.wd) := fun x => lens_below ht.out (down A3.out x.ok)
  have KP : Hid (∀ x : Kept w3, Tab x.wd) := fun x => tab_below hp.out (down A3.out x.ok)
  go_wp2
  clear c0 c1 c2 z d0 d1 d2 z2
  have c0 : ∀ x : Kept w3, x.wd.cell? ⟨w.heap.size, 0, none⟩ = some (.int .i64 y) := fun x => (B3.out.keep x.ok).c0
  have c1 : ∀ x : Kept w3, x.wd.cell? ⟨w.heap.size, 1, none⟩ = some (.int .i64 m) := fun x => (B3.out.keep x.ok).c1
  have c2 : ∀ x : Kept w3, x.wd.cell? ⟨w.heap.size, 2, none⟩ = some (.int .i64 da) := fun x => (B3.out.keep x.ok).c2
  have d0 : ∀ x : Kept w3, x.wd.cell? ⟨w.heap.size + 1, 0, none⟩ = some (.int .i64 y) := fun x => (C3.out.keep x.ok).c0
  have d1 : ∀ x : Kept w3, x.wd.cell? ⟨w.heap.size + 1, 1, none⟩ = some (.int .i64 m) := fun x => (C3.out.keep x.ok).c1
  have d2 : ∀ x : Kept w3, x.wd.cell? ⟨w.heap.size + 1, 2, none⟩ = some (.int .i64 db) := fun x => (C3.out.keep x.ok).c2
  refine wp_region_kept (by kernel_rfl) (by kernel_rfl) ?_
  repeat (go_big_quiet_step ((go_at_call 35; first | (with_reducible exact kept_call _ (TA.out _ (KT.out _) (KP.out _))) | exact kept_call _ (TB.out _ (KT.out _) (KP.out _)))))
  refine wpQuiet_nil ?_
  intro _ hx
  obtain ⟨⟨w4, hb⟩, hw⟩ := hx
  subst hw
  go_wp2
  go_ret
  exact ⟨rfl, down A3.out hb⟩
set_option maxRecDepth 100000 in
set_option maxHeartbeats 4000000 in
theorem same (y m d : Int) (va : vld y m d = true) (vb : vld y m d = true)  (w : World) (ht : Lens w) (hp : Tab w) :
    Calls Tryd.prog 13 #[.agg #[.int .i64 y, .int .i64 m, .int .i64 d], .agg #[.int .i64 y, .int .i64 m, .int .i64 d]] w fun e w' => e = .returned (.bool true) ∧ Below w.heap.size w w' := by
  have HA := fun w ht => cday_yes y m d va w ht
  have HB := fun w ht => cday_yes y m d vb w ht
  have TA := fun w ht hp => ctext_yes y m d va w ht hp
  have TB := fun w ht hp => ctext_yes y m d vb w ht hp
  have kT := (less_text va vb).trans (show _ = false from by simp <;> omega)
  generalize dayN y m d = X at *
  generalize (⟨(textD y m d).toArray⟩ : ByteArray) = SA at *
  replace HA := Lib.hid HA
  replace HB := Lib.hid HB
  replace TA := Lib.hid TA
  replace TB := Lib.hid TB
  replace ht := Lib.hid ht
  replace hp := Lib.hid hp
  clear va vb
  go_enter Tryd.func13, Tryd.ntmps13
  go_wp2_with fail
  refine (awake_all _ (lens_alloc (lens_alloc ht.out _) _)).mono ?_
  rintro e w1 ⟨rfl, hb⟩
  have A1 := Lib.hid (down (grow (grow (here w) _) _) hb)
  have s1 : (w.alloc (.cells #[.int .i64 y, .int .i64 m, .int .i64 d] 23)).heap.size = w.heap.size + 1 := by simp
  have B1 : Hid (Box w1 w.heap.size (.int .i64 y) (.int .i64 m) (.int .i64 d)) := ((Box.new (here _)).old _).keep hb
  have C1 : Hid (Box w1 (w.heap.size + 1) (.int .i64 y) (.int .i64 m) (.int .i64 d)) := by rw [← s1]; exact Box.new hb
  clear hb s1
  obtain ⟨c0, c1, c2, z⟩ := B1.out
  go_wp2_with fail
  refine (HA.out _ (lens_below ht.out A1.out)).mono ?_
  rintro e w2 ⟨rfl, hb⟩
  have A2 := Lib.hid (down A1.out hb)
  have B2 := Lib.hid (B1.out.keep hb)
  have C2 := Lib.hid (C1.out.keep hb)
  clear hb A1 B1 C1 c0 c1 c2 z
  obtain ⟨d0, d1, d2, z⟩ := C2.out
  go_wp2_with fail
  refine (HB.out _ (lens_below ht.out A2.out)).mono ?_
  rintro e w3 ⟨rfl, hb⟩
  have A3 := Lib.hid (down A2.out hb)
  have B3 := Lib.hid (B2.out.keep hb)
  have C3 := Lib.hid (C2.out.keep hb)
  clear hb A2 B2 C2 d0 d1 d2 z
  obtain ⟨c0, c1, c2, z⟩ := B3.out
  obtain ⟨d0, d1, d2, z2⟩ := C3.out
  have KT : Hid (∀ x : Kept w3, Lens x.wd) := fun x => lens_below ht.out (down A3.out x.ok)
  have KP : Hid (∀ x : Kept w3, Tab x.wd) := fun x => tab_below hp.out (down A3.out x.ok)
  go_wp2
  clear c0 c1 c2 z d0 d1 d2 z2
  have c0 : ∀ x : Kept w3, x.wd.cell? ⟨w.heap.size, 0, none⟩ = some (.int .i64 y) := fun x => (B3.out.keep x.ok).c0
  have c1 : ∀ x : Kept w3, x.wd.cell? ⟨w.heap.size, 1, none⟩ = some (.int .i64 m) := fun x => (B3.out.keep x.ok).c1
  have c2 : ∀ x : Kept w3, x.wd.cell? ⟨w.heap.size, 2, none⟩ = some (.int .i64 d) := fun x => (B3.out.keep x.ok).c2
  have d0 : ∀ x : Kept w3, x.wd.cell? ⟨w.heap.size + 1, 0, none⟩ = some (.int .i64 y) := fun x => (C3.out.keep x.ok).c0
  have d1 : ∀ x : Kept w3, x.wd.cell? ⟨w.heap.size + 1, 1, none⟩ = some (.int .i64 m) := fun x => (C3.out.keep x.ok).c1
  have d2 : ∀ x : Kept w3, x.wd.cell? ⟨w.heap.size + 1, 2, none⟩ = some (.int .i64 d) := fun x => (C3.out.keep x.ok).c2
  refine wp_region_kept (by kernel_rfl) (by kernel_rfl) ?_
  repeat (go_big_quiet_step ((go_at_call 35; first | (with_reducible exact kept_call _ (TA.out _ (KT.out _) (KP.out _))) | exact kept_call _ (TB.out _ (KT.out _) (KP.out _)))))
  refine wpQuiet_nil ?_
  intro _ hx
  obtain ⟨⟨w4, hb⟩, hw⟩ := hx
  subst hw
  go_wp2
  go_ret
  exact ⟨rfl, down A3.out hb⟩
theorem walk (ya ma da yb mb db : Int) (h0 : (Lit.int .i64 ya).wf = true) (h1 : (Lit.int .i64 ma).wf = true) (h2 : (Lit.int .i64 da).wf = true) (h3 : (Lit.int .i64 yb).wf = true) (h4 : (Lit.int .i64 mb).wf = true) (h5 : (Lit.int .i64 db).wf = true) (w : World) (hl : Lens w ∧ Tab w) :
    Calls Tryd.prog 13 #[.agg #[.int .i64 ya, .int .i64 ma, .int .i64 da], .agg #[.int .i64 yb, .int .i64 mb, .int .i64 db]] w fun e w' => e = .returned (.bool true) ∧ Below w.heap.size w w' := by
  replace h0 := i64_wf h0
  replace h1 := i64_wf h1
  replace h2 := i64_wf h2
  replace h3 := i64_wf h3
  replace h4 := i64_wf h4
  replace h5 := i64_wf h5
  obtain ⟨ht, hp⟩ := hl
  by_cases va : vld ya ma da = true
  · by_cases vb : vld yb mb db = true
    · rcases Int.lt_trichotomy ya yb with k | rfl | k
      · exact y_lt ya ma da yb mb db va vb k w ht hp
      · rcases Int.lt_trichotomy ma mb with k | rfl | k
        · exact m_lt ya ma da mb db va vb k w ht hp
        · rcases Int.lt_trichotomy da db with k | rfl | k
          · exact d_lt ya ma da db va vb k w ht hp
          · exact same ya ma da va vb w ht hp
          · exact d_gt ya ma da db va vb k w ht hp
        · exact m_gt ya ma da mb db va vb k w ht hp
      · exact y_gt ya ma da yb mb db va vb k w ht hp
    · rw [Bool.not_eq_true] at vb
      exact bad_two ya ma da yb mb db _ _ _ _ ⟨by decide, by decide⟩ (fun w ht => cday_yes ya ma da va w ht) (fun w ht => cday_no yb mb db h3 h4 h5 vb w ht) w ht
  · rw [Bool.not_eq_true] at va
    obtain ⟨X, G, HB⟩ := some_day yb mb db h3 h4 h5
    exact bad_one ya ma da yb mb db _ _ X G (by decide) (fun w ht => cday_no ya ma da h0 h1 h2 va w ht) HB w ht
end CivilOrder
end Go.Proofs.YtdhedkcbkchpgaaDoor

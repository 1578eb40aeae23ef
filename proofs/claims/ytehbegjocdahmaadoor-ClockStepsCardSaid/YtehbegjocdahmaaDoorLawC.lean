/- The walk of ClockMoments: the Go text returns true, at every input. -/
import Derived.Test.YtehbegjocdahmaaDoorAwakeM
import Derived.Test.YtehbegjocdahmaaDoorCkC
namespace Go.Proofs.YtehbegjocdahmaaDoor
open Go.RowKit
set_option linter.unusedVariables false
theorem ins_moment {n : Int} (h : insB n = true) : ∃ a b c p q r : Int, vld a b c = true ∧ vldT p q r = true ∧ 86400 * dayN a b c + secT p q r = n := by
  obtain ⟨⟨d0, d1⟩, s0, s1, e⟩ := ins_split h
  obtain ⟨a, b, c, v, hd⟩ := date_of d0 d1
  obtain ⟨t, hs⟩ := time_back s0 s1
  exact ⟨a, b, c, _, _, _, v, t, by rw [hd, hs]; exact e⟩
namespace ClockMoments
set_option maxRecDepth 100000 in
set_option maxHeartbeats 4000000 in
theorem go_vv (y o d h m s n : Int) (hy : I64 y) (ho : I64 o) (hd : I64 d) (hh : I64 h) (hm : I64 m) (hs : I64 s) (hn : I64 n) (v : (vld y o d && vldT h m s) = true) (i : insB n = true) (w : World) (hl : Listed w) :
    Calls Tryd.prog 5 #[.agg #[.int .i64 y, .int .i64 o, .int .i64 d, .int .i64 h, .int .i64 m, .int .i64 s], .int .i64 n] w fun e w' => e = .returned (.bool true) ∧ Below w.heap.size w w' := by
  have HV := fun w => rvm y o d h m s hy ho hd hh hm hs w
  rw [v] at HV
  replace HV := Lib.hid HV
  have HI := fun w => rins n hn w
  rw [i] at HI
  replace HI := Lib.hid HI
  have v2 := v
  rw [Bool.and_eq_true] at v2
  obtain ⟨v1, v3⟩ := v2
  have HS := Lib.hid (fun w ht => kof_yes y o d h m s v1 v3 w ht)
  have RS := Lib.hid (fun w => rof_yes y o d h m s v1 v3 w)
  have HT := Lib.hid (fun w => kmom_yes _ y o d h m s v1 v3 rfl w)
  generalize 86400 * dayN y o d + secT h m s = S at *
  clear v1 v3
  obtain ⟨a, b, c, p, q, r, u1, u2, u3⟩ := ins_moment i
  have HU := Lib.hid (fun w => kmom_yes n a b c p q r u1 u2 u3 w)
  have RU := Lib.hid (fun w => rmom n a b c p q r u1 u2 u3 w)
  have HN := fun w ht => kof_yes a b c p q r u1 u2 w ht
  rw [u3] at HN
  replace HN := Lib.hid HN
  clear u1 u2 u3
  clear v i hy ho hd hh hm hs hn
  replace hl := Lib.hid hl
  go_enter Tryd.func5, Tryd.ntmps5
  go_wp2_with fail
  refine (awake_all _ (hl.out.old _)).mono ?_
  rintro e w1 ⟨rfl, hb⟩
  have A1 := Lib.hid (down (grow (here w) _) hb)
  have T1 := Lib.hid (Six.new hb)
  have L1 := Lib.hid (hl.out.keep A1.out)
  clear hb
  obtain ⟨c0, c1, c2, c3, c4, c5, cz⟩ := T1.out
  go_wp2_with fail
  refine (HS.out _ L1.out.lens).mono ?_
  rintro e w2 ⟨rfl, hb⟩
  have A2 := Lib.hid (down A1.out hb)
  have T2 := Lib.hid (T1.out.keep hb)
  clear hb A1 T1 c0 c1 c2 c3 c4 c5 cz L1
  obtain ⟨c0, c1, c2, c3, c4, c5, cz⟩ := T2.out
  go_wp2_with fail
  refine (HV.out _).mono ?_
  rintro e w3 ⟨rfl, hb⟩
  have A3 := Lib.hid (down A2.out hb)
  have T3 := Lib.hid (T2.out.keep hb)
  clear hb A2 T2 c0 c1 c2 c3 c4 c5 cz
  obtain ⟨c0, c1, c2, c3, c4, c5, cz⟩ := T3.out
  go_wp2_with fail
  refine (HT.out _).mono ?_
  rintro e w4 ⟨rfl, hb⟩
  have A4 := Lib.hid (down A3.out hb)
  have T4 := Lib.hid (T3.out.keep hb)
  clear hb A3 T3 c0 c1 c2 c3 c4 c5 cz
  obtain ⟨w5, hw5⟩ : ∃ w5, w4.alloc (.cells #[.int .i64 y, .int .i64 o, .int .i64 d, .int .i64 h, .int .i64 m, .int .i64 s] 44) = w5 := ⟨_, rfl⟩
  have A5 : Hid (Below w.heap.size w w5) := by rw [← hw5]; exact grow A4.out _
  have T5 : Hid (Six w5 w.heap.size (.int .i64 y) (.int .i64 o) (.int .i64 d) (.int .i64 h) (.int .i64 m) (.int .i64 s)) := by rw [← hw5]; exact T4.out.old _
  have B5 : Hid (Six w5 w4.heap.size (.int .i64 y) (.int .i64 o) (.int .i64 d) (.int .i64 h) (.int .i64 m) (.int .i64 s)) := by rw [← hw5]; exact Six.new (here _)
  clear A4 T4
  obtain ⟨c0, c1, c2, c3, c4, c5, cz⟩ := T5.out
  obtain ⟨d0, d1, d2, d3, d4, d5, dz⟩ := B5.out
  go_wp2_with fail
  clear hw5
  refine (RS.out _).mono ?_
  rintro e w6 ⟨rfl, hb⟩
  have A6 := Lib.hid (down A5.out hb)
  have T6 := Lib.hid (T5.out.keep hb)
  have B6 := Lib.hid (B5.out.keep hb)
  clear hb A5 T5 B5 c0 c1 c2 c3 c4 c5 cz d0 d1 d2 d3 d4 d5 dz
  obtain ⟨c0, c1, c2, c3, c4, c5, cz⟩ := T6.out
  obtain ⟨d0, d1, d2, d3, d4, d5, dz⟩ := B6.out
  go_wp2_with fail
  refine (HU.out _).mono ?_
  rintro e w7 ⟨rfl, hb⟩
  have A7 := Lib.hid (down A6.out hb)
  clear hb
  go_wp2_with fail
  refine (HI.out _).mono ?_
  rintro e w8 ⟨rfl, rfl⟩
  go_wp2_with fail
  refine (HN.out _ (lens_alloc (lens_below hl.out.lens A7.out) _)).mono ?_
  rintro e w8 ⟨rfl, hb⟩
  have A8 := Lib.hid (down (grow A7.out _) hb)
  have U8 := Lib.hid (Six.new hb)
  clear hb
  have k0 : ∀ x : Kept w8, x.wd.cell? ⟨w7.heap.size, 0, none⟩ = some (.int .i64 a) := fun x => (U8.out.keep x.ok).c0
  have k1 : ∀ x : Kept w8, x.wd.cell? ⟨w7.heap.size, 1, none⟩ = some (.int .i64 b) := fun x => (U8.out.keep x.ok).c1
  have k2 : ∀ x : Kept w8, x.wd.cell? ⟨w7.heap.size, 2, none⟩ = some (.int .i64 c) := fun x => (U8.out.keep x.ok).c2
  have k3 : ∀ x : Kept w8, x.wd.cell? ⟨w7.heap.size, 3, none⟩ = some (.int .i64 p) := fun x => (U8.out.keep x.ok).c3
  have k4 : ∀ x : Kept w8, x.wd.cell? ⟨w7.heap.size, 4, none⟩ = some (.int .i64 q) := fun x => (U8.out.keep x.ok).c4
  have k5 : ∀ x : Kept w8, x.wd.cell? ⟨w7.heap.size, 5, none⟩ = some (.int .i64 r) := fun x => (U8.out.keep x.ok).c5
  go_wp2
  refine wp_region_kept (by kernel_rfl) (by kernel_rfl) ?_
  repeat (go_big_quiet_step ((go_at_call 27; exact kept_call _ (RU.out _))))
  refine wpQuiet_nil ?_
  intro _ hx
  obtain ⟨⟨w9, hb9⟩, hw⟩ := hx
  subst hw
  go_wp2
  go_ret
  exact ⟨rfl, down A8.out hb9⟩
set_option maxRecDepth 100000 in
set_option maxHeartbeats 4000000 in
theorem go_vn (y o d h m s n : Int) (hy : I64 y) (ho : I64 o) (hd : I64 d) (hh : I64 h) (hm : I64 m) (hs : I64 s) (hn : I64 n) (v : (vld y o d && vldT h m s) = true) (i : insB n = false) (w : World) (hl : Listed w) :
    Calls Tryd.prog 5 #[.agg #[.int .i64 y, .int .i64 o, .int .i64 d, .int .i64 h, .int .i64 m, .int .i64 s], .int .i64 n] w fun e w' => e = .returned (.bool true) ∧ Below w.heap.size w w' := by
  have HV := fun w => rvm y o d h m s hy ho hd hh hm hs w
  rw [v] at HV
  replace HV := Lib.hid HV
  have HI := fun w => rins n hn w
  rw [i] at HI
  replace HI := Lib.hid HI
  have v2 := v
  rw [Bool.and_eq_true] at v2
  obtain ⟨v1, v3⟩ := v2
  have HS := Lib.hid (fun w ht => kof_yes y o d h m s v1 v3 w ht)
  have RS := Lib.hid (fun w => rof_yes y o d h m s v1 v3 w)
  have HT := Lib.hid (fun w => kmom_yes _ y o d h m s v1 v3 rfl w)
  generalize 86400 * dayN y o d + secT h m s = S at *
  clear v1 v3
  have HU := Lib.hid (fun w => kmom_no n hn i w)
  clear v i hy ho hd hh hm hs hn
  replace hl := Lib.hid hl
  go_enter Tryd.func5, Tryd.ntmps5
  go_wp2_with fail
  refine (awake_all _ (hl.out.old _)).mono ?_
  rintro e w1 ⟨rfl, hb⟩
  have A1 := Lib.hid (down (grow (here w) _) hb)
  have T1 := Lib.hid (Six.new hb)
  have L1 := Lib.hid (hl.out.keep A1.out)
  clear hb
  obtain ⟨c0, c1, c2, c3, c4, c5, cz⟩ := T1.out
  go_wp2_with fail
  refine (HS.out _ L1.out.lens).mono ?_
  rintro e w2 ⟨rfl, hb⟩
  have A2 := Lib.hid (down A1.out hb)
  have T2 := Lib.hid (T1.out.keep hb)
  clear hb A1 T1 c0 c1 c2 c3 c4 c5 cz L1
  obtain ⟨c0, c1, c2, c3, c4, c5, cz⟩ := T2.out
  go_wp2_with fail
  refine (HV.out _).mono ?_
  rintro e w3 ⟨rfl, hb⟩
  have A3 := Lib.hid (down A2.out hb)
  have T3 := Lib.hid (T2.out.keep hb)
  clear hb A2 T2 c0 c1 c2 c3 c4 c5 cz
  obtain ⟨c0, c1, c2, c3, c4, c5, cz⟩ := T3.out
  go_wp2_with fail
  refine (HT.out _).mono ?_
  rintro e w4 ⟨rfl, hb⟩
  have A4 := Lib.hid (down A3.out hb)
  have T4 := Lib.hid (T3.out.keep hb)
  clear hb A3 T3 c0 c1 c2 c3 c4 c5 cz
  obtain ⟨w5, hw5⟩ : ∃ w5, w4.alloc (.cells #[.int .i64 y, .int .i64 o, .int .i64 d, .int .i64 h, .int .i64 m, .int .i64 s] 44) = w5 := ⟨_, rfl⟩
  have A5 : Hid (Below w.heap.size w w5) := by rw [← hw5]; exact grow A4.out _
  have T5 : Hid (Six w5 w.heap.size (.int .i64 y) (.int .i64 o) (.int .i64 d) (.int .i64 h) (.int .i64 m) (.int .i64 s)) := by rw [← hw5]; exact T4.out.old _
  have B5 : Hid (Six w5 w4.heap.size (.int .i64 y) (.int .i64 o) (.int .i64 d) (.int .i64 h) (.int .i64 m) (.int .i64 s)) := by rw [← hw5]; exact Six.new (here _)
  clear A4 T4
  obtain ⟨c0, c1, c2, c3, c4, c5, cz⟩ := T5.out
  obtain ⟨d0, d1, d2, d3, d4, d5, dz⟩ := B5.out
  go_wp2_with fail
  clear hw5
  refine (RS.out _).mono ?_
  rintro e w6 ⟨rfl, hb⟩
  have A6 := Lib.hid (down A5.out hb)
  have T6 := Lib.hid (T5.out.keep hb)
  have B6 := Lib.hid (B5.out.keep hb)
  clear hb A5 T5 B5 c0 c1 c2 c3 c4 c5 cz d0 d1 d2 d3 d4 d5 dz
  obtain ⟨c0, c1, c2, c3, c4, c5, cz⟩ := T6.out
  obtain ⟨d0, d1, d2, d3, d4, d5, dz⟩ := B6.out
  go_wp2_with fail
  refine (HU.out _).mono ?_
  rintro e w7 ⟨rfl, hb⟩
  have A7 := Lib.hid (down A6.out hb)
  clear hb
  go_wp2_with fail
  refine (HI.out _).mono ?_
  rintro e w8 ⟨rfl, rfl⟩
  go_wp2
  go_ret
  exact ⟨rfl, grow A7.out _⟩
set_option maxRecDepth 100000 in
set_option maxHeartbeats 4000000 in
theorem go_nv (y o d h m s n : Int) (hy : I64 y) (ho : I64 o) (hd : I64 d) (hh : I64 h) (hm : I64 m) (hs : I64 s) (hn : I64 n) (v : (vld y o d && vldT h m s) = false) (i : insB n = true) (w : World) (hl : Listed w) :
    Calls Tryd.prog 5 #[.agg #[.int .i64 y, .int .i64 o, .int .i64 d, .int .i64 h, .int .i64 m, .int .i64 s], .int .i64 n] w fun e w' => e = .returned (.bool true) ∧ Below w.heap.size w w' := by
  have HV := fun w => rvm y o d h m s hy ho hd hh hm hs w
  rw [v] at HV
  replace HV := Lib.hid HV
  have HI := fun w => rins n hn w
  rw [i] at HI
  replace HI := Lib.hid HI
  have HS := Lib.hid (fun w ht => kof_no y o d h m s hy ho hd hh hm hs v w ht)
  obtain ⟨a, b, c, p, q, r, u1, u2, u3⟩ := ins_moment i
  have HU := Lib.hid (fun w => kmom_yes n a b c p q r u1 u2 u3 w)
  have RU := Lib.hid (fun w => rmom n a b c p q r u1 u2 u3 w)
  have HN := fun w ht => kof_yes a b c p q r u1 u2 w ht
  rw [u3] at HN
  replace HN := Lib.hid HN
  clear u1 u2 u3
  clear v i hy ho hd hh hm hs hn
  replace hl := Lib.hid hl
  go_enter Tryd.func5, Tryd.ntmps5
  go_wp2_with fail
  refine (awake_all _ (hl.out.old _)).mono ?_
  rintro e w1 ⟨rfl, hb⟩
  have A1 := Lib.hid (down (grow (here w) _) hb)
  have T1 := Lib.hid (Six.new hb)
  have L1 := Lib.hid (hl.out.keep A1.out)
  clear hb
  obtain ⟨c0, c1, c2, c3, c4, c5, cz⟩ := T1.out
  go_wp2_with fail
  refine (HS.out _ L1.out.lens).mono ?_
  rintro e w2 ⟨rfl, hb⟩
  have A2 := Lib.hid (down A1.out hb)
  have T2 := Lib.hid (T1.out.keep hb)
  clear hb A1 T1 c0 c1 c2 c3 c4 c5 cz L1
  obtain ⟨c0, c1, c2, c3, c4, c5, cz⟩ := T2.out
  go_wp2_with fail
  refine (HV.out _).mono ?_
  rintro e w3 ⟨rfl, hb⟩
  have A3 := Lib.hid (down A2.out hb)
  have T3 := Lib.hid (T2.out.keep hb)
  clear hb A2 T2 c0 c1 c2 c3 c4 c5 cz
  obtain ⟨c0, c1, c2, c3, c4, c5, cz⟩ := T3.out
  go_wp2_with fail
  refine (HU.out _).mono ?_
  rintro e w7 ⟨rfl, hb⟩
  have A7 := Lib.hid (down A3.out hb)
  clear hb
  go_wp2_with fail
  refine (HI.out _).mono ?_
  rintro e w8 ⟨rfl, rfl⟩
  go_wp2_with fail
  refine (HN.out _ (lens_alloc (lens_below hl.out.lens A7.out) _)).mono ?_
  rintro e w8 ⟨rfl, hb⟩
  have A8 := Lib.hid (down (grow A7.out _) hb)
  have U8 := Lib.hid (Six.new hb)
  clear hb
  have k0 : ∀ x : Kept w8, x.wd.cell? ⟨w7.heap.size, 0, none⟩ = some (.int .i64 a) := fun x => (U8.out.keep x.ok).c0
  have k1 : ∀ x : Kept w8, x.wd.cell? ⟨w7.heap.size, 1, none⟩ = some (.int .i64 b) := fun x => (U8.out.keep x.ok).c1
  have k2 : ∀ x : Kept w8, x.wd.cell? ⟨w7.heap.size, 2, none⟩ = some (.int .i64 c) := fun x => (U8.out.keep x.ok).c2
  have k3 : ∀ x : Kept w8, x.wd.cell? ⟨w7.heap.size, 3, none⟩ = some (.int .i64 p) := fun x => (U8.out.keep x.ok).c3
  have k4 : ∀ x : Kept w8, x.wd.cell? ⟨w7.heap.size, 4, none⟩ = some (.int .i64 q) := fun x => (U8.out.keep x.ok).c4
  have k5 : ∀ x : Kept w8, x.wd.cell? ⟨w7.heap.size, 5, none⟩ = some (.int .i64 r) := fun x => (U8.out.keep x.ok).c5
  go_wp2
  refine wp_region_kept (by kernel_rfl) (by kernel_rfl) ?_
  repeat (go_big_quiet_step ((go_at_call 27; exact kept_call _ (RU.out _))))
  refine wpQuiet_nil ?_
  intro _ hx
  obtain ⟨⟨w9, hb9⟩, hw⟩ := hx
  subst hw
  go_wp2
  go_ret
  exact ⟨rfl, down A8.out hb9⟩
set_option maxRecDepth 100000 in
set_option maxHeartbeats 4000000 in
theorem go_nn (y o d h m s n : Int) (hy : I64 y) (ho : I64 o) (hd : I64 d) (hh : I64 h) (hm : I64 m) (hs : I64 s) (hn : I64 n) (v : (vld y o d && vldT h m s) = false) (i : insB n = false) (w : World) (hl : Listed w) :
    Calls Tryd.prog 5 #[.agg #[.int .i64 y, .int .i64 o, .int .i64 d, .int .i64 h, .int .i64 m, .int .i64 s], .int .i64 n] w fun e w' => e = .returned (.bool true) ∧ Below w.heap.size w w' := by
  have HV := fun w => rvm y o d h m s hy ho hd hh hm hs w
  rw [v] at HV
  replace HV := Lib.hid HV
  have HI := fun w => rins n hn w
  rw [i] at HI
  replace HI := Lib.hid HI
  have HS := Lib.hid (fun w ht => kof_no y o d h m s hy ho hd hh hm hs v w ht)
  have HU := Lib.hid (fun w => kmom_no n hn i w)
  clear v i hy ho hd hh hm hs hn
  replace hl := Lib.hid hl
  go_enter Tryd.func5, Tryd.ntmps5
  go_wp2_with fail
  refine (awake_all _ (hl.out.old _)).mono ?_
  rintro e w1 ⟨rfl, hb⟩
  have A1 := Lib.hid (down (grow (here w) _) hb)
  have T1 := Lib.hid (Six.new hb)
  have L1 := Lib.hid (hl.out.keep A1.out)
  clear hb
  obtain ⟨c0, c1, c2, c3, c4, c5, cz⟩ := T1.out
  go_wp2_with fail
  refine (HS.out _ L1.out.lens).mono ?_
  rintro e w2 ⟨rfl, hb⟩
  have A2 := Lib.hid (down A1.out hb)
  have T2 := Lib.hid (T1.out.keep hb)
  clear hb A1 T1 c0 c1 c2 c3 c4 c5 cz L1
  obtain ⟨c0, c1, c2, c3, c4, c5, cz⟩ := T2.out
  go_wp2_with fail
  refine (HV.out _).mono ?_
  rintro e w3 ⟨rfl, hb⟩
  have A3 := Lib.hid (down A2.out hb)
  have T3 := Lib.hid (T2.out.keep hb)
  clear hb A2 T2 c0 c1 c2 c3 c4 c5 cz
  obtain ⟨c0, c1, c2, c3, c4, c5, cz⟩ := T3.out
  go_wp2_with fail
  refine (HU.out _).mono ?_
  rintro e w7 ⟨rfl, hb⟩
  have A7 := Lib.hid (down A3.out hb)
  clear hb
  go_wp2_with fail
  refine (HI.out _).mono ?_
  rintro e w8 ⟨rfl, rfl⟩
  go_wp2
  go_ret
  exact ⟨rfl, grow A7.out _⟩
theorem walk (y o d h m s n : Int) (hy : (Lit.int .i64 y).wf = true) (ho : (Lit.int .i64 o).wf = true) (hd : (Lit.int .i64 d).wf = true) (hh : (Lit.int .i64 h).wf = true) (hm : (Lit.int .i64 m).wf = true) (hs : (Lit.int .i64 s).wf = true) (hn : (Lit.int .i64 n).wf = true) (w : World) (hl : Listed w) :
    Calls Tryd.prog 5 #[.agg #[.int .i64 y, .int .i64 o, .int .i64 d, .int .i64 h, .int .i64 m, .int .i64 s], .int .i64 n] w fun e w' => e = .returned (.bool true) ∧ Below w.heap.size w w' := by
  replace hy := i64_wf hy
  replace ho := i64_wf ho
  replace hd := i64_wf hd
  replace hh := i64_wf hh
  replace hm := i64_wf hm
  replace hs := i64_wf hs
  replace hn := i64_wf hn
  cases v : (vld y o d && vldT h m s) <;> cases q : insB n
  · exact go_nn y o d h m s n hy ho hd hh hm hs hn v q w hl
  · exact go_nv y o d h m s n hy ho hd hh hm hs hn v q w hl
  · exact go_vn y o d h m s n hy ho hd hh hm hs hn v q w hl
  · exact go_vv y o d h m s n hy ho hd hh hm hs hn v q w hl
end ClockMoments
end Go.Proofs.YtehbegjocdahmaaDoor

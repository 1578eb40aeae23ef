/- The walks of ClockTimes, ClockInstants: the Go text returns true, at every input. -/
import Derived.Test.YtehbegjocdahmaaDoorAwakeM
import Derived.Test.YtehbegjocdahmaaDoorCkC
namespace Go.Proofs.YtehbegjocdahmaaDoor
open Go.RowKit
set_option linter.unusedVariables false
namespace ClockTimes
set_option maxRecDepth 100000 in
set_option maxHeartbeats 4000000 in
theorem go_vv (h m s n : Int) (hh : I64 h) (hm : I64 m) (hs : I64 s) (hn : I64 n) (v : vldT h m s = true) (q : secB n = true) (w : World) (hl : Listed w) :
    Calls Tryd.prog 3 #[.agg #[.int .i64 h, .int .i64 m, .int .i64 s], .int .i64 n] w fun e w' => e = .returned (.bool true) ∧ Below w.heap.size w w' := by
  have HV := fun w => rvt h m s hh hm hs w
  rw [v] at HV
  replace HV := Lib.hid HV
  have sb := secT_bd v
  have tf := time_forth v
  have HS := Lib.hid (fun w => ksecs h m s v w)
  have RS := Lib.hid (fun w => rsecs h m s v w)
  have HT := fun w => ktime (secT h m s) sb.1 sb.2 w
  rw [tf.1, tf.2.1, tf.2.2] at HT
  replace HT := Lib.hid HT
  generalize secT h m s = S at *
  clear sb tf
  obtain ⟨n0, n1⟩ := secB_iff.1 q
  have tb := time_back n0 n1
  have HU := Lib.hid (fun w => ktime n n0 n1 w)
  have RU := Lib.hid (fun w => rtime n n0 n1 w)
  have HN := fun w => ksecs (tH n) (tM n) (tS n) tb.1 w
  rw [tb.2] at HN
  replace HN := Lib.hid HN
  generalize tH n = a at *
  generalize tM n = b at *
  generalize tS n = c at *
  clear tb
  have x1 : decide (n < 0) = false := decide_eq_false (by omega)
  have x2 : decide (86400 ≤ n) = false := decide_eq_false (by omega)
  clear v q hh hm hs hn
  replace hl := Lib.hid hl
  go_enter Tryd.func3, Tryd.ntmps3
  go_wp2_with fail
  refine (awake_all _ (hl.out.old _)).mono ?_
  rintro e w1 ⟨rfl, hb⟩
  have A1 := Lib.hid (down (grow (here w) _) hb)
  have T1 := Lib.hid (Box.new hb)
  clear hb
  obtain ⟨c0, c1, c2, cz⟩ := T1.out
  go_wp2_with fail
  refine (HS.out _).mono ?_
  rintro e w2 ⟨rfl, hb⟩
  have A2 := Lib.hid (down A1.out hb)
  have T2 := Lib.hid (T1.out.keep hb)
  clear hb A1 T1 c0 c1 c2 cz
  obtain ⟨c0, c1, c2, cz⟩ := T2.out
  go_wp2_with fail
  refine (HV.out _).mono ?_
  rintro e w3 ⟨rfl, hb⟩
  have A3 := Lib.hid (down A2.out hb)
  have T3 := Lib.hid (T2.out.keep hb)
  clear hb A2 T2 c0 c1 c2 cz
  obtain ⟨c0, c1, c2, cz⟩ := T3.out
  go_wp2_with fail
  refine (HT.out _).mono ?_
  rintro e w4 ⟨rfl, hb⟩
  have A4 := Lib.hid (down A3.out hb)
  have T4 := Lib.hid (T3.out.keep hb)
  clear hb A3 T3 c0 c1 c2 cz
  obtain ⟨w5, hw5⟩ : ∃ w5, w4.alloc (.cells #[.int .i64 h, .int .i64 m, .int .i64 s] 23) = w5 := ⟨_, rfl⟩
  have A5 : Hid (Below w.heap.size w w5) := by rw [← hw5]; exact grow A4.out _
  have T5 : Hid (Box w5 w.heap.size (.int .i64 h) (.int .i64 m) (.int .i64 s)) := by rw [← hw5]; exact T4.out.old _
  have B5 : Hid (Box w5 w4.heap.size (.int .i64 h) (.int .i64 m) (.int .i64 s)) := by rw [← hw5]; exact Box.new (here _)
  clear A4 T4
  obtain ⟨c0, c1, c2, cz⟩ := T5.out
  obtain ⟨d0, d1, d2, dz⟩ := B5.out
  go_wp2_with fail
  clear hw5
  refine (RS.out _).mono ?_
  rintro e w6 ⟨rfl, hb⟩
  have A6 := Lib.hid (down A5.out hb)
  have T6 := Lib.hid (T5.out.keep hb)
  have B6 := Lib.hid (B5.out.keep hb)
  clear hb A5 T5 B5 c0 c1 c2 cz d0 d1 d2 dz
  obtain ⟨c0, c1, c2, cz⟩ := T6.out
  obtain ⟨d0, d1, d2, dz⟩ := B6.out
  go_wp2_with fail
  refine (HU.out _).mono ?_
  rintro e w7 ⟨rfl, hb⟩
  have A7 := Lib.hid (down A6.out hb)
  clear hb
  go_wp2_with fail
  refine (HN.out _).mono ?_
  rintro e w8 ⟨rfl, hb⟩
  have A8 := Lib.hid (down (grow A7.out _) hb)
  have U8 := Lib.hid (Box.new hb)
  clear hb
  have k0 : ∀ x : Kept w8, x.wd.cell? ⟨w7.heap.size, 0, none⟩ = some (.int .i64 a) := fun x => (U8.out.keep x.ok).c0
  have k1 : ∀ x : Kept w8, x.wd.cell? ⟨w7.heap.size, 1, none⟩ = some (.int .i64 b) := fun x => (U8.out.keep x.ok).c1
  have k2 : ∀ x : Kept w8, x.wd.cell? ⟨w7.heap.size, 2, none⟩ = some (.int .i64 c) := fun x => (U8.out.keep x.ok).c2
  go_wp2
  refine wp_region_kept (by kernel_rfl) (by kernel_rfl) ?_
  repeat (go_big_quiet_step ((go_at_call 17; exact kept_call _ (RU.out _))))
  refine wpQuiet_nil ?_
  intro _ hx
  obtain ⟨⟨w9, hb9⟩, hw⟩ := hx
  subst hw
  go_wp2
  go_ret
  exact ⟨rfl, down A8.out hb9⟩
set_option maxRecDepth 100000 in
set_option maxHeartbeats 4000000 in
theorem go_vn (h m s n : Int) (hh : I64 h) (hm : I64 m) (hs : I64 s) (hn : I64 n) (v : vldT h m s = true) (q : secB n = false) (w : World) (hl : Listed w) :
    Calls Tryd.prog 3 #[.agg #[.int .i64 h, .int .i64 m, .int .i64 s], .int .i64 n] w fun e w' => e = .returned (.bool true) ∧ Below w.heap.size w w' := by
  have HV := fun w => rvt h m s hh hm hs w
  rw [v] at HV
  replace HV := Lib.hid HV
  have sb := secT_bd v
  have tf := time_forth v
  have HS := Lib.hid (fun w => ksecs h m s v w)
  have RS := Lib.hid (fun w => rsecs h m s v w)
  have HT := fun w => ktime (secT h m s) sb.1 sb.2 w
  rw [tf.1, tf.2.1, tf.2.2] at HT
  replace HT := Lib.hid HT
  generalize secT h m s = S at *
  clear sb tf
  have HU := Lib.hid (fun w => ktime_no n hn q w)
  have t : (decide (n < 0) || decide (86400 ≤ n)) = true := by
    have : ¬ (0 ≤ n ∧ n < 86400) := fun x => by rw [secB_iff.2 x] at q; cases q
    simp only [Bool.or_eq_true, decide_eq_true_eq]; omega
  obtain ⟨x1, hx1⟩ : ∃ x, decide (n < 0) = x := ⟨_, rfl⟩
  obtain ⟨x2, hx2⟩ : ∃ x, decide (86400 ≤ n) = x := ⟨_, rfl⟩
  rw [hx1, hx2] at t
  clear v q hh hm hs hn
  replace hl := Lib.hid hl
  cases x1 <;> cases x2 <;> (try cases t)
  all_goals
    go_enter Tryd.func3, Tryd.ntmps3
    go_wp2_with fail
    refine (awake_all _ (hl.out.old _)).mono ?_
    rintro e w1 ⟨rfl, hb⟩
    have A1 := Lib.hid (down (grow (here w) _) hb)
    have T1 := Lib.hid (Box.new hb)
    clear hb
    obtain ⟨c0, c1, c2, cz⟩ := T1.out
    go_wp2_with fail
    refine (HS.out _).mono ?_
    rintro e w2 ⟨rfl, hb⟩
    have A2 := Lib.hid (down A1.out hb)
    have T2 := Lib.hid (T1.out.keep hb)
    clear hb A1 T1 c0 c1 c2 cz
    obtain ⟨c0, c1, c2, cz⟩ := T2.out
    go_wp2_with fail
    refine (HV.out _).mono ?_
    rintro e w3 ⟨rfl, hb⟩
    have A3 := Lib.hid (down A2.out hb)
    have T3 := Lib.hid (T2.out.keep hb)
    clear hb A2 T2 c0 c1 c2 cz
    obtain ⟨c0, c1, c2, cz⟩ := T3.out
    go_wp2_with fail
    refine (HT.out _).mono ?_
    rintro e w4 ⟨rfl, hb⟩
    have A4 := Lib.hid (down A3.out hb)
    have T4 := Lib.hid (T3.out.keep hb)
    clear hb A3 T3 c0 c1 c2 cz
    obtain ⟨w5, hw5⟩ : ∃ w5, w4.alloc (.cells #[.int .i64 h, .int .i64 m, .int .i64 s] 23) = w5 := ⟨_, rfl⟩
    have A5 : Hid (Below w.heap.size w w5) := by rw [← hw5]; exact grow A4.out _
    have T5 : Hid (Box w5 w.heap.size (.int .i64 h) (.int .i64 m) (.int .i64 s)) := by rw [← hw5]; exact T4.out.old _
    have B5 : Hid (Box w5 w4.heap.size (.int .i64 h) (.int .i64 m) (.int .i64 s)) := by rw [← hw5]; exact Box.new (here _)
    clear A4 T4
    obtain ⟨c0, c1, c2, cz⟩ := T5.out
    obtain ⟨d0, d1, d2, dz⟩ := B5.out
    go_wp2_with fail
    clear hw5
    refine (RS.out _).mono ?_
    rintro e w6 ⟨rfl, hb⟩
    have A6 := Lib.hid (down A5.out hb)
    have T6 := Lib.hid (T5.out.keep hb)
    have B6 := Lib.hid (B5.out.keep hb)
    clear hb A5 T5 B5 c0 c1 c2 cz d0 d1 d2 dz
    obtain ⟨c0, c1, c2, cz⟩ := T6.out
    obtain ⟨d0, d1, d2, dz⟩ := B6.out
    go_wp2_with fail
    refine (HU.out _).mono ?_
    rintro e w7 ⟨rfl, hb⟩
    have A7 := Lib.hid (down A6.out hb)
    clear hb
    go_wp2
    go_ret
    exact ⟨rfl, grow A7.out _⟩
set_option maxRecDepth 100000 in
set_option maxHeartbeats 4000000 in
theorem go_nv (h m s n : Int) (hh : I64 h) (hm : I64 m) (hs : I64 s) (hn : I64 n) (v : vldT h m s = false) (q : secB n = true) (w : World) (hl : Listed w) :
    Calls Tryd.prog 3 #[.agg #[.int .i64 h, .int .i64 m, .int .i64 s], .int .i64 n] w fun e w' => e = .returned (.bool true) ∧ Below w.heap.size w w' := by
  have HV := fun w => rvt h m s hh hm hs w
  rw [v] at HV
  replace HV := Lib.hid HV
  have HS := Lib.hid (fun w => ksecs_no h m s hh hm hs v w)
  obtain ⟨n0, n1⟩ := secB_iff.1 q
  have tb := time_back n0 n1
  have HU := Lib.hid (fun w => ktime n n0 n1 w)
  have RU := Lib.hid (fun w => rtime n n0 n1 w)
  have HN := fun w => ksecs (tH n) (tM n) (tS n) tb.1 w
  rw [tb.2] at HN
  replace HN := Lib.hid HN
  generalize tH n = a at *
  generalize tM n = b at *
  generalize tS n = c at *
  clear tb
  have x1 : decide (n < 0) = false := decide_eq_false (by omega)
  have x2 : decide (86400 ≤ n) = false := decide_eq_false (by omega)
  clear v q hh hm hs hn
  replace hl := Lib.hid hl
  go_enter Tryd.func3, Tryd.ntmps3
  go_wp2_with fail
  refine (awake_all _ (hl.out.old _)).mono ?_
  rintro e w1 ⟨rfl, hb⟩
  have A1 := Lib.hid (down (grow (here w) _) hb)
  have T1 := Lib.hid (Box.new hb)
  clear hb
  obtain ⟨c0, c1, c2, cz⟩ := T1.out
  go_wp2_with fail
  refine (HS.out _).mono ?_
  rintro e w2 ⟨rfl, hb⟩
  have A2 := Lib.hid (down A1.out hb)
  have T2 := Lib.hid (T1.out.keep hb)
  clear hb A1 T1 c0 c1 c2 cz
  obtain ⟨c0, c1, c2, cz⟩ := T2.out
  go_wp2_with fail
  refine (HV.out _).mono ?_
  rintro e w3 ⟨rfl, hb⟩
  have A3 := Lib.hid (down A2.out hb)
  have T3 := Lib.hid (T2.out.keep hb)
  clear hb A2 T2 c0 c1 c2 cz
  obtain ⟨c0, c1, c2, cz⟩ := T3.out
  go_wp2_with fail
  refine (HU.out _).mono ?_
  rintro e w7 ⟨rfl, hb⟩
  have A7 := Lib.hid (down A3.out hb)
  clear hb
  go_wp2_with fail
  refine (HN.out _).mono ?_
  rintro e w8 ⟨rfl, hb⟩
  have A8 := Lib.hid (down (grow A7.out _) hb)
  have U8 := Lib.hid (Box.new hb)
  clear hb
  have k0 : ∀ x : Kept w8, x.wd.cell? ⟨w7.heap.size, 0, none⟩ = some (.int .i64 a) := fun x => (U8.out.keep x.ok).c0
  have k1 : ∀ x : Kept w8, x.wd.cell? ⟨w7.heap.size, 1, none⟩ = some (.int .i64 b) := fun x => (U8.out.keep x.ok).c1
  have k2 : ∀ x : Kept w8, x.wd.cell? ⟨w7.heap.size, 2, none⟩ = some (.int .i64 c) := fun x => (U8.out.keep x.ok).c2
  go_wp2
  refine wp_region_kept (by kernel_rfl) (by kernel_rfl) ?_
  repeat (go_big_quiet_step ((go_at_call 17; exact kept_call _ (RU.out _))))
  refine wpQuiet_nil ?_
  intro _ hx
  obtain ⟨⟨w9, hb9⟩, hw⟩ := hx
  subst hw
  go_wp2
  go_ret
  exact ⟨rfl, down A8.out hb9⟩
set_option maxRecDepth 100000 in
set_option maxHeartbeats 4000000 in
theorem go_nn (h m s n : Int) (hh : I64 h) (hm : I64 m) (hs : I64 s) (hn : I64 n) (v : vldT h m s = false) (q : secB n = false) (w : World) (hl : Listed w) :
    Calls Tryd.prog 3 #[.agg #[.int .i64 h, .int .i64 m, .int .i64 s], .int .i64 n] w fun e w' => e = .returned (.bool true) ∧ Below w.heap.size w w' := by
  have HV := fun w => rvt h m s hh hm hs w
  rw [v] at HV
  replace HV := Lib.hid HV
  have HS := Lib.hid (fun w => ksecs_no h m s hh hm hs v w)
  have HU := Lib.hid (fun w => ktime_no n hn q w)
  have t : (decide (n < 0) || decide (86400 ≤ n)) = true := by
    have : ¬ (0 ≤ n ∧ n < 86400) := fun x => by rw [secB_iff.2 x] at q; cases q
    simp only [Bool.or_eq_true, decide_eq_true_eq]; omega
  obtain ⟨x1, hx1⟩ : ∃ x, decide (n < 0) = x := ⟨_, rfl⟩
  obtain ⟨x2, hx2⟩ : ∃ x, decide (86400 ≤ n) = x := ⟨_, rfl⟩
  rw [hx1, hx2] at t
  clear v q hh hm hs hn
  replace hl := Lib.hid hl
  cases x1 <;> cases x2 <;> (try cases t)
  all_goals
    go_enter Tryd.func3, Tryd.ntmps3
    go_wp2_with fail
    refine (awake_all _ (hl.out.old _)).mono ?_
    rintro e w1 ⟨rfl, hb⟩
    have A1 := Lib.hid (down (grow (here w) _) hb)
    have T1 := Lib.hid (Box.new hb)
    clear hb
    obtain ⟨c0, c1, c2, cz⟩ := T1.out
    go_wp2_with fail
    refine (HS.out _).mono ?_
    rintro e w2 ⟨rfl, hb⟩
    have A2 := Lib.hid (down A1.out hb)
    have T2 := Lib.hid (T1.out.keep hb)
    clear hb A1 T1 c0 c1 c2 cz
    obtain ⟨c0, c1, c2, cz⟩ := T2.out
    go_wp2_with fail
    refine (HV.out _).mono ?_
    rintro e w3 ⟨rfl, hb⟩
    have A3 := Lib.hid (down A2.out hb)
    have T3 := Lib.hid (T2.out.keep hb)
    clear hb A2 T2 c0 c1 c2 cz
    obtain ⟨c0, c1, c2, cz⟩ := T3.out
    go_wp2_with fail
    refine (HU.out _).mono ?_
    rintro e w7 ⟨rfl, hb⟩
    have A7 := Lib.hid (down A3.out hb)
    clear hb
    go_wp2
    go_ret
    exact ⟨rfl, grow A7.out _⟩
theorem walk (h m s n : Int) (hh : (Lit.int .i64 h).wf = true) (hm : (Lit.int .i64 m).wf = true) (hs : (Lit.int .i64 s).wf = true) (hn : (Lit.int .i64 n).wf = true) (w : World) (hl : Listed w) :
    Calls Tryd.prog 3 #[.agg #[.int .i64 h, .int .i64 m, .int .i64 s], .int .i64 n] w fun e w' => e = .returned (.bool true) ∧ Below w.heap.size w w' := by
  replace hh := i64_wf hh
  replace hm := i64_wf hm
  replace hs := i64_wf hs
  replace hn := i64_wf hn
  cases v : vldT h m s <;> cases q : secB n
  · exact go_nn h m s n hh hm hs hn v q w hl
  · exact go_nv h m s n hh hm hs hn v q w hl
  · exact go_vn h m s n hh hm hs hn v q w hl
  · exact go_vv h m s n hh hm hs hn v q w hl
end ClockTimes
namespace ClockInstants
set_option maxRecDepth 100000 in
set_option maxHeartbeats 4000000 in
theorem go_vv (d s n : Int) (hd : I64 d) (hs : I64 s) (hn : I64 n) (v : (dyB d && secB s) = true) (q : insB n = true) (w : World) (hl : Listed w) :
    Calls Tryd.prog 4 #[.int .i64 d, .int .i64 s, .int .i64 n] w fun e w' => e = .returned (.bool true) ∧ Below w.heap.size w w' := by
  have HY := fun w => rday d hd w
  have HI := fun w => rins n hn w
  rw [q] at HI
  replace HI := Lib.hid HI
  rw [Bool.and_eq_true] at v
  obtain ⟨d0, d1⟩ := dyB_iff.1 v.1
  obtain ⟨s0, s1⟩ := secB_iff.1 v.2
  have j := ins_join d0 d1 s0 s1
  rw [v.1] at HY
  replace HY := Lib.hid HY
  have HA := Lib.hid (fun w => kat_yes d s d0 d1 s0 s1 w)
  have HS := fun w => ksplit (86400 * d + s) j.1 w
  rw [j.2.1, j.2.2] at HS
  replace HS := Lib.hid HS
  have x1 : decide (s < 0) = false := decide_eq_false (by omega)
  have x2 : decide (86400 ≤ s) = false := decide_eq_false (by omega)
  clear v j
  have j2 := ins_split q
  have HT := Lib.hid (fun w => ksplit n q w)
  have RT := Lib.hid (fun w => rsplit n q w)
  have HB := fun w => kat_yes (n / 86400) (n % 86400) j2.1.1 j2.1.2 j2.2.1 j2.2.2.1 w
  rw [j2.2.2.2] at HB
  replace HB := Lib.hid HB
  generalize n / 86400 = a at *
  generalize n % 86400 = b at *
  clear j2
  clear q hd hs hn
  replace hl := Lib.hid hl
  go_enter Tryd.func4, Tryd.ntmps4
  go_wp2_with fail
  refine (awake_all _ hl.out).mono ?_
  rintro e w1 ⟨rfl, hb⟩
  have A1 := Lib.hid hb
  clear hb
  go_wp2_with fail
  refine (HA.out _).mono ?_
  rintro e w2 ⟨rfl, rfl⟩
  go_wp2_with fail
  refine (HY.out _).mono ?_
  rintro e w2 ⟨rfl, rfl⟩
  go_wp2_with fail
  refine (HS.out _).mono ?_
  rintro e w2 ⟨rfl, m1, rfl⟩
  go_wp2_with fail
  refine (HT.out _).mono ?_
  rintro e w2 ⟨rfl, m2, rfl⟩
  go_wp2_with fail
  refine (HI.out _).mono ?_
  rintro e w2 ⟨rfl, rfl⟩
  go_wp2_with fail
  refine (RT.out _).mono ?_
  rintro e w2 ⟨rfl, m3, rfl⟩
  go_wp2_with fail
  refine (HB.out _).mono ?_
  rintro e w2 ⟨rfl, rfl⟩
  go_wp2
  go_ret
  exact ⟨rfl, below_drewN A1.out _⟩
set_option maxRecDepth 100000 in
set_option maxHeartbeats 4000000 in
theorem go_vn (d s n : Int) (hd : I64 d) (hs : I64 s) (hn : I64 n) (v : (dyB d && secB s) = true) (q : insB n = false) (w : World) (hl : Listed w) :
    Calls Tryd.prog 4 #[.int .i64 d, .int .i64 s, .int .i64 n] w fun e w' => e = .returned (.bool true) ∧ Below w.heap.size w w' := by
  have HY := fun w => rday d hd w
  have HI := fun w => rins n hn w
  rw [q] at HI
  replace HI := Lib.hid HI
  rw [Bool.and_eq_true] at v
  obtain ⟨d0, d1⟩ := dyB_iff.1 v.1
  obtain ⟨s0, s1⟩ := secB_iff.1 v.2
  have j := ins_join d0 d1 s0 s1
  rw [v.1] at HY
  replace HY := Lib.hid HY
  have HA := Lib.hid (fun w => kat_yes d s d0 d1 s0 s1 w)
  have HS := fun w => ksplit (86400 * d + s) j.1 w
  rw [j.2.1, j.2.2] at HS
  replace HS := Lib.hid HS
  have x1 : decide (s < 0) = false := decide_eq_false (by omega)
  have x2 : decide (86400 ≤ s) = false := decide_eq_false (by omega)
  clear v j
  have HT := Lib.hid (fun w => ksplit_no n hn q w)
  clear q hd hs hn
  replace hl := Lib.hid hl
  go_enter Tryd.func4, Tryd.ntmps4
  go_wp2_with fail
  refine (awake_all _ hl.out).mono ?_
  rintro e w1 ⟨rfl, hb⟩
  have A1 := Lib.hid hb
  clear hb
  go_wp2_with fail
  refine (HA.out _).mono ?_
  rintro e w2 ⟨rfl, rfl⟩
  go_wp2_with fail
  refine (HY.out _).mono ?_
  rintro e w2 ⟨rfl, rfl⟩
  go_wp2_with fail
  refine (HS.out _).mono ?_
  rintro e w2 ⟨rfl, m1, rfl⟩
  go_wp2_with fail
  refine (HT.out _).mono ?_
  rintro e w2 ⟨rfl, rfl⟩
  go_wp2_with fail
  refine (HI.out _).mono ?_
  rintro e w2 ⟨rfl, rfl⟩
  go_wp2
  go_ret
  exact ⟨rfl, below_drewN A1.out _⟩
set_option maxRecDepth 100000 in
set_option maxHeartbeats 4000000 in
theorem go_nv (d s n : Int) (hd : I64 d) (hs : I64 s) (hn : I64 n) (v : (dyB d && secB s) = false) (q : insB n = true) (w : World) (hl : Listed w) :
    Calls Tryd.prog 4 #[.int .i64 d, .int .i64 s, .int .i64 n] w fun e w' => e = .returned (.bool true) ∧ Below w.heap.size w w' := by
  have HY := fun w => rday d hd w
  have HI := fun w => rins n hn w
  rw [q] at HI
  replace HI := Lib.hid HI
  have HA := fun w => kat_no d s hd hs (by
    have v' := v
    rw [Bool.and_eq_false_iff] at v'
    rcases v' with x | x
    · have : ¬ (-719162 ≤ d ∧ d < 2932897) := fun y => by rw [dyB_iff.2 y] at x; cases x
      omega
    · exact .inr (.inr x)) w
  replace HA := Lib.hid HA
  have t : (!dyB d || decide (s < 0) || decide (86400 ≤ s)) = true := by
    rw [Bool.and_eq_false_iff] at v
    rcases v with x | x
    · rw [x]; rfl
    · have : ¬ (0 ≤ s ∧ s < 86400) := fun y => by rw [secB_iff.2 y] at x; cases x
      simp only [Bool.or_eq_true, decide_eq_true_eq]; omega
  obtain ⟨y, hy⟩ : ∃ x, dyB d = x := ⟨_, rfl⟩
  rw [hy] at HY t
  replace HY := Lib.hid HY
  obtain ⟨x1, hx1⟩ : ∃ x, decide (s < 0) = x := ⟨_, rfl⟩
  obtain ⟨x2, hx2⟩ : ∃ x, decide (86400 ≤ s) = x := ⟨_, rfl⟩
  rw [hx1, hx2] at t
  clear v hy
  have j2 := ins_split q
  have HT := Lib.hid (fun w => ksplit n q w)
  have RT := Lib.hid (fun w => rsplit n q w)
  have HB := fun w => kat_yes (n / 86400) (n % 86400) j2.1.1 j2.1.2 j2.2.1 j2.2.2.1 w
  rw [j2.2.2.2] at HB
  replace HB := Lib.hid HB
  generalize n / 86400 = a at *
  generalize n % 86400 = b at *
  clear j2
  clear q hd hs hn
  replace hl := Lib.hid hl
  cases y <;> cases x1 <;> cases x2 <;> (try cases t)
  all_goals
    go_enter Tryd.func4, Tryd.ntmps4
    go_wp2_with fail
    refine (awake_all _ hl.out).mono ?_
    rintro e w1 ⟨rfl, hb⟩
    have A1 := Lib.hid hb
    clear hb
    go_wp2_with fail
    refine (HA.out _).mono ?_
    rintro e w2 ⟨rfl, rfl⟩
    go_wp2_with fail
    refine (HY.out _).mono ?_
    rintro e w2 ⟨rfl, rfl⟩
    go_wp2_with fail
    refine (HT.out _).mono ?_
    rintro e w2 ⟨rfl, m2, rfl⟩
    go_wp2_with fail
    refine (HI.out _).mono ?_
    rintro e w2 ⟨rfl, rfl⟩
    go_wp2_with fail
    refine (RT.out _).mono ?_
    rintro e w2 ⟨rfl, m3, rfl⟩
    go_wp2_with fail
    refine (HB.out _).mono ?_
    rintro e w2 ⟨rfl, rfl⟩
    go_wp2
    go_ret
    exact ⟨rfl, below_drewN A1.out _⟩
set_option maxRecDepth 100000 in
set_option maxHeartbeats 4000000 in
theorem go_nn (d s n : Int) (hd : I64 d) (hs : I64 s) (hn : I64 n) (v : (dyB d && secB s) = false) (q : insB n = false) (w : World) (hl : Listed w) :
    Calls Tryd.prog 4 #[.int .i64 d, .int .i64 s, .int .i64 n] w fun e w' => e = .returned (.bool true) ∧ Below w.heap.size w w' := by
  have HY := fun w => rday d hd w
  have HI := fun w => rins n hn w
  rw [q] at HI
  replace HI := Lib.hid HI
  have HA := fun w => kat_no d s hd hs (by
    have v' := v
    rw [Bool.and_eq_false_iff] at v'
    rcases v' with x | x
    · have : ¬ (-719162 ≤ d ∧ d < 2932897) := fun y => by rw [dyB_iff.2 y] at x; cases x
      omega
    · exact .inr (.inr x)) w
  replace HA := Lib.hid HA
  have t : (!dyB d || decide (s < 0) || decide (86400 ≤ s)) = true := by
    rw [Bool.and_eq_false_iff] at v
    rcases v with x | x
    · rw [x]; rfl
    · have : ¬ (0 ≤ s ∧ s < 86400) := fun y => by rw [secB_iff.2 y] at x; cases x
      simp only [Bool.or_eq_true, decide_eq_true_eq]; omega
  obtain ⟨y, hy⟩ : ∃ x, dyB d = x := ⟨_, rfl⟩
  rw [hy] at HY t
  replace HY := Lib.hid HY
  obtain ⟨x1, hx1⟩ : ∃ x, decide (s < 0) = x := ⟨_, rfl⟩
  obtain ⟨x2, hx2⟩ : ∃ x, decide (86400 ≤ s) = x := ⟨_, rfl⟩
  rw [hx1, hx2] at t
  clear v hy
  have HT := Lib.hid (fun w => ksplit_no n hn q w)
  clear q hd hs hn
  replace hl := Lib.hid hl
  cases y <;> cases x1 <;> cases x2 <;> (try cases t)
  all_goals
    go_enter Tryd.func4, Tryd.ntmps4
    go_wp2_with fail
    refine (awake_all _ hl.out).mono ?_
    rintro e w1 ⟨rfl, hb⟩
    have A1 := Lib.hid hb
    clear hb
    go_wp2_with fail
    refine (HA.out _).mono ?_
    rintro e w2 ⟨rfl, rfl⟩
    go_wp2_with fail
    refine (HY.out _).mono ?_
    rintro e w2 ⟨rfl, rfl⟩
    go_wp2_with fail
    refine (HT.out _).mono ?_
    rintro e w2 ⟨rfl, rfl⟩
    go_wp2_with fail
    refine (HI.out _).mono ?_
    rintro e w2 ⟨rfl, rfl⟩
    go_wp2
    go_ret
    exact ⟨rfl, A1.out⟩
theorem walk (d s n : Int) (hd : (Lit.int .i64 d).wf = true) (hs : (Lit.int .i64 s).wf = true) (hn : (Lit.int .i64 n).wf = true) (w : World) (hl : Listed w) :
    Calls Tryd.prog 4 #[.int .i64 d, .int .i64 s, .int .i64 n] w fun e w' => e = .returned (.bool true) ∧ Below w.heap.size w w' := by
  replace hd := i64_wf hd
  replace hs := i64_wf hs
  replace hn := i64_wf hn
  cases v : (dyB d && secB s) <;> cases q : insB n
  · exact go_nn d s n hd hs hn v q w hl
  · exact go_nv d s n hd hs hn v q w hl
  · exact go_vn d s n hd hs hn v q w hl
  · exact go_vv d s n hd hs hn v q w hl
end ClockInstants
end Go.Proofs.YtehbegjocdahmaaDoor

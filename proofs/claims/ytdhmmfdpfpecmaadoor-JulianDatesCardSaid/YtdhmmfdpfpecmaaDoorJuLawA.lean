/- The walks of JulianDays and JulianDates: the Go text returns true, at every input. -/
import Derived.Test.YtdhmmfdpfpecmaaDoorJuAwake
namespace Go.Proofs.YtdhmmfdpfpecmaaDoor
open Go.RowKit
set_option linter.unusedVariables false

namespace JulianDays
set_option maxRecDepth 100000 in
set_option maxHeartbeats 2000000 in
theorem walk (y m d : Int) (hy : (Lit.int .i64 y).wf = true) (hm : (Lit.int .i64 m).wf = true) (hd : (Lit.int .i64 d).wf = true) (w : World) (ht : Tabs w) :
    Calls Tryd.prog 3 #[.agg #[.int .i64 y, .int .i64 m, .int .i64 d]] w fun e w' => e = .returned (.bool true) ∧ Below w.heap.size w w' := by
  replace hy := i64_wf hy
  replace hm := i64_wf hm
  replace hd := i64_wf hd
  have HX := fun w ht => ujday y m d hy hm hd w ht
  have RX := fun w => rjday y m d hy hm hd w
  have HL := fun w => ujleap y hy w
  have RL := fun w => rjleap y hy.1 hy.2 w
  have HN := fun w ht => ujlen y m hy hm w ht
  have RN := fun w => rjlen y m hy.1 hy.2 hm.1 hm.2 w
  generalize jdN y m d = n at *
  generalize jdE y m d = E at *
  generalize jleapB y = l at *
  generalize jlenM y m = x at *
  clear hy hm hd
  have AW := Lib.hid (fun w ht => awake_all w ht)
  replace ht := Lib.hid ht
  replace HX := Lib.hid HX
  replace RX := Lib.hid RX
  replace HL := Lib.hid HL
  replace RL := Lib.hid RL
  replace HN := Lib.hid HN
  replace RN := Lib.hid RN
  go_enter Tryd.func3, Tryd.ntmps3
  go_wp2_with fail
  refine (AW.out _ (ht.out.below (grow (here w) _))).mono ?_
  rintro e w1 ⟨rfl, hb⟩
  have A1 := Lib.hid (down (grow (here w) _) hb)
  have D1 := Lib.hid (Box.new hb)
  clear hb
  obtain ⟨d1_0, d1_1, d1_2, d1_z⟩ := D1.out
  go_wp2_with fail
  refine (HX.out _ (ht.out.below A1.out).jl).mono ?_
  rintro e w2 ⟨rfl, hb⟩
  have A2 := Lib.hid (down A1.out hb)
  have D2 := Lib.hid (D1.out.keep hb)
  clear hb A1 D1 d1_0 d1_1 d1_2 d1_z
  obtain ⟨d2_0, d2_1, d2_2, d2_z⟩ := D2.out
  go_wp2_with fail
  refine (RX.out _).mono ?_
  rintro e w3 ⟨rfl, hb⟩
  have A3 := Lib.hid (down A2.out hb)
  have D3 := Lib.hid (D2.out.keep hb)
  clear hb A2 D2 d2_0 d2_1 d2_2 d2_z
  obtain ⟨d3_0, d3_1, d3_2, d3_z⟩ := D3.out
  have HT : Hid (∀ x : Kept w3, JLens x.wd) := fun x => (ht.out.below (down A3.out x.ok)).jl
  have kd0 : ∀ x : Kept w3, x.wd.cell? ⟨w.heap.size, 0, none⟩ = some (.int .i64 (y)) := fun x => (D3.out.keep x.ok).c0
  have kd1 : ∀ x : Kept w3, x.wd.cell? ⟨w.heap.size, 1, none⟩ = some (.int .i64 (m)) := fun x => (D3.out.keep x.ok).c1
  have kd2 : ∀ x : Kept w3, x.wd.cell? ⟨w.heap.size, 2, none⟩ = some (.int .i64 (d)) := fun x => (D3.out.keep x.ok).c2
  go_wp2
  refine wp_region_kept (by kernel_rfl) (by kernel_rfl) ?_
  repeat (go_big_quiet_step (first
    | (go_at_call 15; exact kept_same _ (HL.out _))
    | (go_at_call 16; exact kept_same _ (RL.out _))
    | (go_at_call 17; exact kept_same _ (HN.out _ (HT.out _)))
    | (go_at_call 18; exact kept_same _ (RN.out _))))
  refine wpQuiet_nil ?_
  intro w4 hx
  obtain ⟨⟨xx, hb⟩, hw⟩ := hx
  replace hw : w4 = xx := hw
  subst xx
  clear kd0 kd1 kd2
  have A4 := Lib.hid (down A3.out hb)
  have D4 := Lib.hid (D3.out.keep hb)
  clear hb A3 D3 d3_0 d3_1 d3_2 d3_z
  obtain ⟨d4_0, d4_1, d4_2, d4_z⟩ := D4.out
  go_wp2
  go_ret
  exact ⟨rfl, by first | exact A4.out | exact grow A4.out _ | exact below_drewN A4.out _ | exact grow (grow A4.out _) _ | exact grow (grow (grow A4.out _) _) _⟩
end JulianDays
namespace JulianDates
set_option maxRecDepth 100000 in
set_option maxHeartbeats 2000000 in
theorem no (n : Int) (hn : I64 n) (h : n < -719162 ∨ 2932897 ≤ n) (w : World) (ht : Tabs w) :
    Calls Tryd.prog 4 #[.int .i64 n] w fun e w' => e = .returned (.bool true) ∧ Below w.heap.size w w' := by
  have HD := Lib.hid (fun w => ujdate_no n hn h w)
  have RD := Lib.hid (fun w => rjdate_no n hn h w)
  have HN := Lib.hid (fun w => ujnumber_out n hn h w)
  have HR := Lib.hid (fun w => right_no n hn h w)
  clear h
  have AW := Lib.hid (fun w ht => awake_all w ht)
  replace ht := Lib.hid ht
  go_enter Tryd.func4, Tryd.ntmps4
  go_wp2_with fail
  refine (AW.out _ (ht.out.below (here w))).mono ?_
  rintro e w1 ⟨rfl, hb⟩
  have A1 := Lib.hid (down (here w) hb)
  clear hb
  go_wp2_with fail
  refine (HD.out _).mono ?_
  rintro e w2 ⟨rfl, hb⟩
  have A2 := Lib.hid (down A1.out hb)
  clear hb A1
  go_wp2_with fail
  refine (RD.out _).mono ?_
  rintro e w3 ⟨rfl, hb⟩
  have A3 := Lib.hid (down (grow A2.out _) hb)
  have X3 := Lib.hid (Box.new hb)
  clear hb A2
  obtain ⟨x3_0, x3_1, x3_2, x3_z⟩ := X3.out
  go_wp2_with fail
  refine (HN.out _).mono ?_
  rintro e x1 ⟨rfl, rfl⟩
  go_wp2_with fail
  refine (HR.out _).mono ?_
  rintro e x2 ⟨rfl, rfl⟩
  go_wp2
  go_ret
  exact ⟨rfl, by first | exact A3.out | exact grow A3.out _ | exact below_drewN A3.out _ | exact grow (grow A3.out _) _ | exact grow (grow (grow A3.out _) _) _⟩
set_option maxRecDepth 100000 in
set_option maxHeartbeats 2000000 in
theorem yes (n : Int) (y m d : Int) (h : jvld y m d = true) (he : jdayN y m d = n) (r0 : -719162 ≤ n) (r1 : n < 2932897) (w : World) (ht : Tabs w) :
    Calls Tryd.prog 4 #[.int .i64 n] w fun e w' => e = .returned (.bool true) ∧ Below w.heap.size w w' := by
  have HD := Lib.hid (fun w => ujdate_yes n y m d h he r0 r1 w)
  have RD := Lib.hid (fun w => rjdate_yes n y m d h he r0 r1 w)
  have HN := Lib.hid (fun w => ujnumber_in n r0 r1 w)
  have HR := Lib.hid (fun w => right_yes n r0 r1 w)
  clear h he
  have AW := Lib.hid (fun w ht => awake_all w ht)
  replace ht := Lib.hid ht
  go_enter Tryd.func4, Tryd.ntmps4
  go_wp2_with fail
  refine (AW.out _ (ht.out.below (here w))).mono ?_
  rintro e w1 ⟨rfl, hb⟩
  have A1 := Lib.hid (down (here w) hb)
  clear hb
  go_wp2_with fail
  refine (HD.out _).mono ?_
  rintro e w2 ⟨rfl, hb⟩
  have A2 := Lib.hid (down A1.out hb)
  clear hb A1
  go_wp2_with fail
  refine (RD.out _).mono ?_
  rintro e w3 ⟨rfl, hb⟩
  have A3 := Lib.hid (down (grow A2.out _) hb)
  have X3 := Lib.hid (Box.new hb)
  clear hb A2
  obtain ⟨x3_0, x3_1, x3_2, x3_z⟩ := X3.out
  go_wp2_with fail
  refine (HN.out _).mono ?_
  rintro e x1 ⟨rfl, rfl⟩
  go_wp2_with fail
  refine (HR.out _).mono ?_
  rintro e x2 ⟨rfl, rfl⟩
  go_wp2
  go_ret
  exact ⟨rfl, by first | exact A3.out | exact grow A3.out _ | exact below_drewN A3.out _ | exact grow (grow A3.out _) _ | exact grow (grow (grow A3.out _) _) _⟩
theorem walk (n : Int) (hn : (Lit.int .i64 n).wf = true) (w : World) (ht : Tabs w) :
    Calls Tryd.prog 4 #[.int .i64 n] w fun e w' => e = .returned (.bool true) ∧ Below w.heap.size w w' := by
  by_cases h : n < -719162 ∨ 2932897 ≤ n
  · exact no n (i64_wf hn) h w ht
  · obtain ⟨y, m, d, hv, he⟩ := jdate_of (n := n) (by omega) (by omega)
    exact yes n y m d hv he (by omega) (by omega) w ht
end JulianDates
end Go.Proofs.YtdhmmfdpfpecmaaDoor

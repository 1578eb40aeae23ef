/- The walks of IslamicLengths and IslamicDays: the Go text returns true, at every input. -/
import Derived.Test.YtobipbmigpkhmaaDoorIsAwake
namespace Go.Proofs.YtobipbmigpkhmaaDoor
open Go.RowKit
set_option linter.unusedVariables false

namespace IslamicLengths
set_option maxRecDepth 100000 in
set_option maxHeartbeats 2000000 in
theorem walk (k y m : Int) (hk : (Lit.int .i64 k).wf = true) (hy : (Lit.int .i64 y).wf = true) (hm : (Lit.int .i64 m).wf = true) (w : World) (ht : Tabs w) :
    Calls Tryd.prog 3 #[.int .i64 k, .int .i64 y, .int .i64 m] w fun e w' => e = .returned (.bool true) ∧ Below w.heap.size w w' := by
  replace hk := i64_wf hk
  replace hy := i64_wf hy
  replace hm := i64_wf hm
  have H1 := fun w ht => uikd k hk w ht
  have R1 := fun w => rikd k hk w
  have H2 := fun w ht => uileap k y hk hy w ht
  have R2 := fun w => rileap k y hk hy w
  have H3 := fun w ht => uilen k y m hk hy hm w ht
  have R3 := fun w => rilen k y m hk hy hm w
  have H4 := fun w ht => uiyl k y hk hy w ht
  have R4 := fun w => riyl k y hk hy w
  generalize ikd k = a at *
  generalize ileapB k y = b at *
  generalize ilenM k y m = c at *
  generalize iylN k y = d at *
  clear hk hy hm
  have AW := Lib.hid (fun w ht => awake_all w ht)
  replace ht := Lib.hid ht
  replace H1 := Lib.hid H1
  replace R1 := Lib.hid R1
  replace H2 := Lib.hid H2
  replace R2 := Lib.hid R2
  replace H3 := Lib.hid H3
  replace R3 := Lib.hid R3
  replace H4 := Lib.hid H4
  replace R4 := Lib.hid R4
  go_enter Tryd.func3, Tryd.ntmps3
  go_wp2_with fail
  refine (AW.out _ (ht.out.below (here w))).mono ?_
  rintro e w1 ⟨rfl, hb⟩
  have A1 := Lib.hid (down (here w) hb)
  clear hb
  go_wp2_with fail
  refine (H1.out _ (ht.out.below A1.out)).mono ?_
  rintro e w2 ⟨rfl, hb⟩
  have A2 := Lib.hid (down A1.out hb)
  clear hb A1
  go_wp2_with fail
  refine (R1.out _).mono ?_
  rintro e x1 ⟨rfl, rfl⟩
  go_wp2_with fail
  refine (H2.out _ (ht.out.below A2.out)).mono ?_
  rintro e w3 ⟨rfl, hb⟩
  have A3 := Lib.hid (down A2.out hb)
  clear hb A2
  go_wp2_with fail
  refine (R2.out _).mono ?_
  rintro e w4 ⟨rfl, hb⟩
  have A4 := Lib.hid (down A3.out hb)
  clear hb A3
  go_wp2_with fail
  refine (H3.out _ (ht.out.below A4.out)).mono ?_
  rintro e w5 ⟨rfl, hb⟩
  have A5 := Lib.hid (down A4.out hb)
  clear hb A4
  go_wp2_with fail
  refine (R3.out _).mono ?_
  rintro e w6 ⟨rfl, hb⟩
  have A6 := Lib.hid (down A5.out hb)
  clear hb A5
  go_wp2_with fail
  refine (H4.out _ (ht.out.below A6.out)).mono ?_
  rintro e w7 ⟨rfl, hb⟩
  have A7 := Lib.hid (down A6.out hb)
  clear hb A6
  go_wp2_with fail
  refine (R4.out _).mono ?_
  rintro e w8 ⟨rfl, hb⟩
  have A8 := Lib.hid (down A7.out hb)
  clear hb A7
  go_wp2
  go_ret
  exact ⟨rfl, by first | exact A8.out | exact grow A8.out _ | exact below_drewN A8.out _ | exact grow (grow A8.out _) _ | exact grow (grow (grow A8.out _) _) _⟩
end IslamicLengths
namespace IslamicDays
set_option maxRecDepth 100000 in
set_option maxHeartbeats 2000000 in
theorem walk (k y m d n : Int) (hk : (Lit.int .i64 k).wf = true) (hy : (Lit.int .i64 y).wf = true) (hm : (Lit.int .i64 m).wf = true) (hd : (Lit.int .i64 d).wf = true) (hn : (Lit.int .i64 n).wf = true) (w : World) (ht : Tabs w) :
    Calls Tryd.prog 4 #[.int .i64 k, .agg #[.int .i64 y, .int .i64 m, .int .i64 d], .int .i64 n] w fun e w' => e = .returned (.bool true) ∧ Below w.heap.size w w' := by
  replace hk := i64_wf hk
  replace hy := i64_wf hy
  replace hm := i64_wf hm
  replace hd := i64_wf hd
  replace hn := i64_wf hn
  have H1 := fun w ht => uinew k y hk hy w ht
  have R1 := fun w => rinew k y hk hy w
  have H2 := fun w ht => uiday k y m d hk hy hm hd w ht
  have R2 := fun w => riday k y m d hk hy hm hd w
  obtain ⟨a, b, c, E, H3, R3⟩ := both_date k n hk hn
  generalize inewN k y = N1 at *
  generalize inewE k y = E1 at *
  generalize idN k y m d = N2 at *
  generalize idE k y m d = E2 at *
  clear hk hy hm hd hn
  have AW := Lib.hid (fun w ht => awake_all w ht)
  replace ht := Lib.hid ht
  replace H1 := Lib.hid H1
  replace R1 := Lib.hid R1
  replace H2 := Lib.hid H2
  replace R2 := Lib.hid R2
  replace H3 := Lib.hid H3
  replace R3 := Lib.hid R3
  go_enter Tryd.func4, Tryd.ntmps4
  go_wp2_with fail
  refine (AW.out _ (ht.out.below (grow (here w) _))).mono ?_
  rintro e w1 ⟨rfl, hb⟩
  have A1 := Lib.hid (down (grow (here w) _) hb)
  have D1 := Lib.hid (Box.new hb)
  clear hb
  obtain ⟨d1_0, d1_1, d1_2, d1_z⟩ := D1.out
  go_wp2_with fail
  refine (H1.out _ (ht.out.below A1.out)).mono ?_
  rintro e w2 ⟨rfl, hb⟩
  have A2 := Lib.hid (down A1.out hb)
  have D2 := Lib.hid (D1.out.keep hb)
  clear hb A1 D1 d1_0 d1_1 d1_2 d1_z
  obtain ⟨d2_0, d2_1, d2_2, d2_z⟩ := D2.out
  go_wp2_with fail
  refine (R1.out _).mono ?_
  rintro e w3 ⟨rfl, hb⟩
  have A3 := Lib.hid (down A2.out hb)
  have D3 := Lib.hid (D2.out.keep hb)
  clear hb A2 D2 d2_0 d2_1 d2_2 d2_z
  obtain ⟨d3_0, d3_1, d3_2, d3_z⟩ := D3.out
  go_wp2_with fail
  refine (H2.out _ (ht.out.below A3.out)).mono ?_
  rintro e w4 ⟨rfl, hb⟩
  have A4 := Lib.hid (down A3.out hb)
  have D4 := Lib.hid (D3.out.keep hb)
  clear hb A3 D3 d3_0 d3_1 d3_2 d3_z
  obtain ⟨d4_0, d4_1, d4_2, d4_z⟩ := D4.out
  go_wp2_with fail
  refine (R2.out _).mono ?_
  rintro e w5 ⟨rfl, hb⟩
  have A5 := Lib.hid (down A4.out hb)
  have D5 := Lib.hid (D4.out.keep hb)
  clear hb A4 D4 d4_0 d4_1 d4_2 d4_z
  obtain ⟨d5_0, d5_1, d5_2, d5_z⟩ := D5.out
  go_wp2_with fail
  refine (H3.out _ (ht.out.below A5.out)).mono ?_
  rintro e w6 ⟨rfl, hb⟩
  have A6 := Lib.hid (down A5.out hb)
  have D6 := Lib.hid (D5.out.keep hb)
  clear hb A5 D5 d5_0 d5_1 d5_2 d5_z
  obtain ⟨d6_0, d6_1, d6_2, d6_z⟩ := D6.out
  go_wp2_with fail
  refine (R3.out _).mono ?_
  rintro e w7 ⟨rfl, hb⟩
  have A7 := Lib.hid (down (grow A6.out _) hb)
  have D7 := Lib.hid ((D6.out.old _).keep hb)
  have X7 := Lib.hid (Box.new hb)
  clear hb A6 D6 d6_0 d6_1 d6_2 d6_z
  obtain ⟨d7_0, d7_1, d7_2, d7_z⟩ := D7.out
  obtain ⟨x7_0, x7_1, x7_2, x7_z⟩ := X7.out
  go_wp2
  go_ret
  exact ⟨rfl, by first | exact A7.out | exact grow A7.out _ | exact below_drewN A7.out _ | exact grow (grow A7.out _) _ | exact grow (grow (grow A7.out _) _) _⟩
end IslamicDays
end Go.Proofs.YtobipbmigpkhmaaDoor

/- The walks of HebrewYears, HebrewMonths, HebrewDays, HebrewDates, HebrewAnniversaries: the Go text returns true, at every input. -/
import Derived.Test.YtpkkhkkanpcniaaHeAwake
namespace Go.Proofs.Ytpkkhkkanpcniaa
open Go.RowKit
set_option linter.unusedVariables false

namespace HebrewYears
set_option maxRecDepth 100000 in
set_option maxHeartbeats 2000000 in
theorem walk (y : Int) (hy : (Lit.int .i64 y).wf = true) (w : World) (ht : Tabs w) :
    Calls Try.prog 3 #[.int .i64 y] w fun e w' => e = .returned (.bool true) ∧ Below w.heap.size w w' := by
  replace hy := i64_wf hy
  have H1 := fun w ht => uhel y hy w ht
  have H2 := fun w ht => uhnew y hy w ht
  have H3 := fun w ht => uhleap y hy w ht
  have R3 := fun w => rhleap y hy w
  have H4 := fun w ht => uhmonths y hy w ht
  have R4 := fun w => rhmn y hy w
  have H5 := fun w ht => uhyl y hy w ht
  have R5 := fun w => rhyl y hy w
  have R6 := fun w => rhyr y hy w
  unfold helN hyE at H1
  unfold hnwN hyE at H2
  generalize (hyr y && hlp y) = b at *
  generalize hmn y = c at *
  generalize hylN y = d at *
  cases h : hyr y
  · rw [h] at H1 H2 R6
    simp only [Bool.false_eq_true, if_false] at H1 H2
    clear hy h
    have AW := Lib.hid (fun w ht => awake_all w ht)
    replace ht := Lib.hid ht
    replace H1 := Lib.hid H1
    replace H2 := Lib.hid H2
    replace H3 := Lib.hid H3
    replace R3 := Lib.hid R3
    replace H4 := Lib.hid H4
    replace R4 := Lib.hid R4
    replace H5 := Lib.hid H5
    replace R5 := Lib.hid R5
    replace R6 := Lib.hid R6
    go_enter Try.func3, Try.ntmps3
    go_wp2_with fail
    refine (AW.out _ (ht.out.below (here w))).mono ?_
    rintro e w1 ⟨rfl, hb⟩
    have A1 := Lib.hid (down (here w) hb)
    clear hb
    go_wp2_with fail
    refine (H1.out _ (ht.out.below A1.out)).mono ?_
    rintro e w2 ⟨rfl, hb⟩
    have A2 := Lib.hid (down A1.out hb)
    clear hb A1
    go_wp2_with fail
    refine (H2.out _ (ht.out.below A2.out)).mono ?_
    rintro e w3 ⟨rfl, hb⟩
    have A3 := Lib.hid (down A2.out hb)
    clear hb A2
    go_wp2_with fail
    refine (H3.out _ (ht.out.below A3.out)).mono ?_
    rintro e w4 ⟨rfl, hb⟩
    have A4 := Lib.hid (down A3.out hb)
    clear hb A3
    go_wp2_with fail
    refine (R3.out _).mono ?_
    rintro e x1 ⟨rfl, rfl⟩
    go_wp2_with fail
    refine (H4.out _ (ht.out.below A4.out)).mono ?_
    rintro e w5 ⟨rfl, hb⟩
    have A5 := Lib.hid (down A4.out hb)
    clear hb A4
    go_wp2_with fail
    refine (R4.out _).mono ?_
    rintro e x2 ⟨rfl, rfl⟩
    go_wp2_with fail
    refine (H5.out _ (ht.out.below A5.out)).mono ?_
    rintro e w6 ⟨rfl, hb⟩
    have A6 := Lib.hid (down A5.out hb)
    clear hb A5
    go_wp2_with fail
    refine (R5.out _).mono ?_
    rintro e x3 ⟨rfl, rfl⟩
    go_wp2_with fail
    refine (R6.out _).mono ?_
    rintro e x4 ⟨rfl, rfl⟩
    go_wp2
    go_ret
    exact ⟨rfl, by first | exact A6.out | exact grow A6.out _ | exact below_drewN A6.out _ | exact grow (grow A6.out _) _ | exact grow (grow (grow A6.out _) _) _⟩
  · rw [h] at H1 H2 R6
    simp only [if_true] at H1 H2
    obtain ⟨y0, y1⟩ := hyr_iff.1 h
    have R7 := Lib.hid (fun w => rhE y (by omega) (by omega) w)
    have R8 := Lib.hid (fun w => rhN y (by omega) (by omega) w)
    generalize hE y = p at *
    generalize hN y = q at *
    clear hy h
    have AW := Lib.hid (fun w ht => awake_all w ht)
    replace ht := Lib.hid ht
    replace H1 := Lib.hid H1
    replace H2 := Lib.hid H2
    replace H3 := Lib.hid H3
    replace R3 := Lib.hid R3
    replace H4 := Lib.hid H4
    replace R4 := Lib.hid R4
    replace H5 := Lib.hid H5
    replace R5 := Lib.hid R5
    replace R6 := Lib.hid R6
    go_enter Try.func3, Try.ntmps3
    go_wp2_with fail
    refine (AW.out _ (ht.out.below (here w))).mono ?_
    rintro e w1 ⟨rfl, hb⟩
    have A1 := Lib.hid (down (here w) hb)
    clear hb
    go_wp2_with fail
    refine (H1.out _ (ht.out.below A1.out)).mono ?_
    rintro e w2 ⟨rfl, hb⟩
    have A2 := Lib.hid (down A1.out hb)
    clear hb A1
    go_wp2_with fail
    refine (H2.out _ (ht.out.below A2.out)).mono ?_
    rintro e w3 ⟨rfl, hb⟩
    have A3 := Lib.hid (down A2.out hb)
    clear hb A2
    go_wp2_with fail
    refine (H3.out _ (ht.out.below A3.out)).mono ?_
    rintro e w4 ⟨rfl, hb⟩
    have A4 := Lib.hid (down A3.out hb)
    clear hb A3
    go_wp2_with fail
    refine (R3.out _).mono ?_
    rintro e x1 ⟨rfl, rfl⟩
    go_wp2_with fail
    refine (H4.out _ (ht.out.below A4.out)).mono ?_
    rintro e w5 ⟨rfl, hb⟩
    have A5 := Lib.hid (down A4.out hb)
    clear hb A4
    go_wp2_with fail
    refine (R4.out _).mono ?_
    rintro e x2 ⟨rfl, rfl⟩
    go_wp2_with fail
    refine (H5.out _ (ht.out.below A5.out)).mono ?_
    rintro e w6 ⟨rfl, hb⟩
    have A6 := Lib.hid (down A5.out hb)
    clear hb A5
    go_wp2_with fail
    refine (R5.out _).mono ?_
    rintro e x3 ⟨rfl, rfl⟩
    go_wp2_with fail
    refine (R6.out _).mono ?_
    rintro e x4 ⟨rfl, rfl⟩
    go_wp2_with fail
    refine (R7.out _).mono ?_
    rintro e x5 ⟨rfl, rfl⟩
    go_wp2_with fail
    refine (R8.out _).mono ?_
    rintro e x6 ⟨rfl, rfl⟩
    go_wp2
    go_ret
    exact ⟨rfl, by first | exact A6.out | exact grow A6.out _ | exact below_drewN A6.out _ | exact grow (grow A6.out _) _ | exact grow (grow (grow A6.out _) _) _⟩
end HebrewYears
namespace HebrewMonths
set_option maxRecDepth 100000 in
set_option maxHeartbeats 2000000 in
theorem walk (y m : Int) (hy : (Lit.int .i64 y).wf = true) (hm : (Lit.int .i64 m).wf = true) (w : World) (ht : Tabs w) :
    Calls Try.prog 4 #[.int .i64 y, .int .i64 m] w fun e w' => e = .returned (.bool true) ∧ Below w.heap.size w w' := by
  replace hy := i64_wf hy
  replace hm := i64_wf hm
  have H1 := fun w ht => uhmol y m hy hm w ht
  have R1 := fun w => rhmol y m hy hm w
  have H2 := fun w ht => uhlen y m hy hm w ht
  have R2 := fun w => rhlen y m hy hm w
  generalize hmolN y m = a at *
  generalize hmolR y m = b at *
  generalize hmolE y m = c at *
  generalize hlenM y m = d at *
  clear hy hm
  have AW := Lib.hid (fun w ht => awake_all w ht)
  replace ht := Lib.hid ht
  replace H1 := Lib.hid H1
  replace R1 := Lib.hid R1
  replace H2 := Lib.hid H2
  replace R2 := Lib.hid R2
  go_enter Try.func4, Try.ntmps4
  go_wp2_with fail
  refine (AW.out _ (ht.out.below (here w))).mono ?_
  rintro e w1 ⟨rfl, hb⟩
  have A1 := Lib.hid (down (here w) hb)
  clear hb
  go_wp2_with fail
  refine (H1.out _ (ht.out.below A1.out)).mono ?_
  rintro e w2 ⟨rfl, hb⟩
  have A2 := Lib.hid (down A1.out hb)
  clear hb A1
  go_wp2_with fail
  refine (R1.out _).mono ?_
  rintro e x1 ⟨rfl, rfl⟩
  go_wp2_with fail
  refine (H2.out _ (ht.out.below A2.out)).mono ?_
  rintro e w3 ⟨rfl, hb⟩
  have A3 := Lib.hid (down A2.out hb)
  clear hb A2
  go_wp2_with fail
  refine (R2.out _).mono ?_
  rintro e x2 ⟨rfl, rfl⟩
  go_wp2
  go_ret
  exact ⟨rfl, by first | exact A3.out | exact grow A3.out _ | exact below_drewN A3.out _ | exact grow (grow A3.out _) _ | exact grow (grow (grow A3.out _) _) _⟩
end HebrewMonths
namespace HebrewDays
set_option maxRecDepth 100000 in
set_option maxHeartbeats 2000000 in
theorem walk (y m d : Int) (hy : (Lit.int .i64 y).wf = true) (hm : (Lit.int .i64 m).wf = true) (hd : (Lit.int .i64 d).wf = true) (w : World) (ht : Tabs w) :
    Calls Try.prog 5 #[.agg #[.int .i64 y, .int .i64 m, .int .i64 d]] w fun e w' => e = .returned (.bool true) ∧ Below w.heap.size w w' := by
  replace hy := i64_wf hy
  replace hm := i64_wf hm
  replace hd := i64_wf hd
  have H1 := fun w ht => uhday y m d hy hm hd w ht
  have R1 := fun w => rhday y m d hy hm hd w
  generalize hdN y m d = a at *
  generalize hdE y m d = b at *
  clear hy hm hd
  have AW := Lib.hid (fun w ht => awake_all w ht)
  replace ht := Lib.hid ht
  replace H1 := Lib.hid H1
  replace R1 := Lib.hid R1
  go_enter Try.func5, Try.ntmps5
  go_wp2_with fail
  refine (AW.out _ (ht.out.below (grow (here w) _))).mono ?_
  rintro e w1 ⟨rfl, hb⟩
  have A1 := Lib.hid (down (grow (here w) _) hb)
  have D1 := Lib.hid (Box.new hb)
  clear hb
  obtain ⟨d1_0, d1_1, d1_2, d1_z⟩ := D1.out
  go_wp2_with fail
  refine (H1.out _ (ht.out.below A1.out)).mono ?_
  rintro e w2 ⟨rfl, hb⟩
  have A2 := Lib.hid (down A1.out hb)
  have D2 := Lib.hid (D1.out.keep hb)
  clear hb A1 D1 d1_0 d1_1 d1_2 d1_z
  obtain ⟨d2_0, d2_1, d2_2, d2_z⟩ := D2.out
  go_wp2_with fail
  refine (R1.out _).mono ?_
  rintro e w3 ⟨rfl, hb⟩
  have A3 := Lib.hid (down A2.out hb)
  have D3 := Lib.hid (D2.out.keep hb)
  clear hb A2 D2 d2_0 d2_1 d2_2 d2_z
  obtain ⟨d3_0, d3_1, d3_2, d3_z⟩ := D3.out
  go_wp2
  go_ret
  exact ⟨rfl, by first | exact A3.out | exact grow A3.out _ | exact below_drewN A3.out _ | exact grow (grow A3.out _) _ | exact grow (grow (grow A3.out _) _) _⟩
end HebrewDays
namespace HebrewDates
set_option maxRecDepth 100000 in
set_option maxHeartbeats 2000000 in
theorem walk (n : Int) (hn : (Lit.int .i64 n).wf = true) (w : World) (ht : Tabs w) :
    Calls Try.prog 6 #[.int .i64 n] w fun e w' => e = .returned (.bool true) ∧ Below w.heap.size w w' := by
  replace hn := i64_wf hn
  obtain ⟨a, b, c, E, H1, R1⟩ := both_date n hn
  clear hn
  have AW := Lib.hid (fun w ht => awake_all w ht)
  replace ht := Lib.hid ht
  replace H1 := Lib.hid H1
  replace R1 := Lib.hid R1
  go_enter Try.func6, Try.ntmps6
  go_wp2_with fail
  refine (AW.out _ (ht.out.below (here w))).mono ?_
  rintro e w1 ⟨rfl, hb⟩
  have A1 := Lib.hid (down (here w) hb)
  clear hb
  go_wp2_with fail
  refine (H1.out _ (ht.out.below A1.out)).mono ?_
  rintro e w2 ⟨rfl, hb⟩
  have A2 := Lib.hid (down A1.out hb)
  clear hb A1
  go_wp2_with fail
  refine (R1.out _).mono ?_
  rintro e w3 ⟨rfl, hb⟩
  have A3 := Lib.hid (down (grow A2.out _) hb)
  have X3 := Lib.hid (Box.new hb)
  clear hb A2
  obtain ⟨x3_0, x3_1, x3_2, x3_z⟩ := X3.out
  go_wp2
  go_ret
  exact ⟨rfl, by first | exact A3.out | exact grow A3.out _ | exact below_drewN A3.out _ | exact grow (grow A3.out _) _ | exact grow (grow (grow A3.out _) _) _⟩
end HebrewDates
namespace HebrewAnniversaries
set_option maxRecDepth 100000 in
set_option maxHeartbeats 2000000 in
theorem walk (y m d g : Int) (hy : (Lit.int .i64 y).wf = true) (hm : (Lit.int .i64 m).wf = true) (hd : (Lit.int .i64 d).wf = true) (hg : (Lit.int .i64 g).wf = true) (w : World) (ht : Tabs w) :
    Calls Try.prog 7 #[.agg #[.int .i64 y, .int .i64 m, .int .i64 d], .int .i64 g] w fun e w' => e = .returned (.bool true) ∧ Below w.heap.size w w' := by
  replace hy := i64_wf hy
  replace hm := i64_wf hm
  replace hd := i64_wf hd
  replace hg := i64_wf hg
  obtain ⟨a, b, c, E, H1, R1⟩ := both_ann y m d g hy hm hd hg
  clear hy hm hd hg
  have AW := Lib.hid (fun w ht => awake_all w ht)
  replace ht := Lib.hid ht
  replace H1 := Lib.hid H1
  replace R1 := Lib.hid R1
  go_enter Try.func7, Try.ntmps7
  go_wp2_with fail
  refine (AW.out _ (ht.out.below (grow (here w) _))).mono ?_
  rintro e w1 ⟨rfl, hb⟩
  have A1 := Lib.hid (down (grow (here w) _) hb)
  have D1 := Lib.hid (Box.new hb)
  clear hb
  obtain ⟨d1_0, d1_1, d1_2, d1_z⟩ := D1.out
  go_wp2_with fail
  refine (H1.out _ (ht.out.below A1.out)).mono ?_
  rintro e w2 ⟨rfl, hb⟩
  have A2 := Lib.hid (down A1.out hb)
  have D2 := Lib.hid (D1.out.keep hb)
  clear hb A1 D1 d1_0 d1_1 d1_2 d1_z
  obtain ⟨d2_0, d2_1, d2_2, d2_z⟩ := D2.out
  go_wp2_with fail
  refine (R1.out _).mono ?_
  rintro e w3 ⟨rfl, hb⟩
  have A3 := Lib.hid (down (grow A2.out _) hb)
  have D3 := Lib.hid ((D2.out.old _).keep hb)
  have X3 := Lib.hid (Box.new hb)
  clear hb A2 D2 d2_0 d2_1 d2_2 d2_z
  obtain ⟨d3_0, d3_1, d3_2, d3_z⟩ := D3.out
  obtain ⟨x3_0, x3_1, x3_2, x3_z⟩ := X3.out
  go_wp2
  go_ret
  exact ⟨rfl, by first | exact A3.out | exact grow A3.out _ | exact below_drewN A3.out _ | exact grow (grow A3.out _) _ | exact grow (grow (grow A3.out _) _) _⟩
end HebrewAnniversaries
end Go.Proofs.Ytpkkhkkanpcniaa

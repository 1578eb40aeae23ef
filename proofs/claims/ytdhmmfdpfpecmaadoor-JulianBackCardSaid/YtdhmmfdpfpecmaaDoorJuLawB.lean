/- The walk of JulianBack: the Go text returns true, at every input. -/
import Derived.Test.YtdhmmfdpfpecmaaDoorJuAwake
namespace Go.Proofs.YtdhmmfdpfpecmaaDoor
open Go.RowKit
set_option linter.unusedVariables false

theorem jday_fate (y m d : Int) (hy : I64 y) (hm : I64 m) (hd : I64 d) : (∃ N E : Int, (E != 0) = true ∧ I64 N ∧
    ∀ w, JLens w → Calls Tryd.prog 13 #[.agg #[.int .i64 y, .int .i64 m, .int .i64 d]] w fun e w' => e = .returned (.tuple #[.int .i64 N, .int .i64 E]) ∧ Below w.heap.size w w') ∨
    (∃ N : Int, -719162 ≤ N ∧ N < 2932897 ∧ jvld y m d = true ∧ jdayN y m d = N ∧ ∀ w, JLens w → Calls Tryd.prog 13 #[.agg #[.int .i64 y, .int .i64 m, .int .i64 d]] w fun e w' => e = .returned (.tuple #[.int .i64 N, .int .i64 0]) ∧ Below w.heap.size w w') := by
  have q := fun w ht => ujday y m d hy hm hd w ht
  cases h : jvld y m d
  · rw [(jd_bad h).1, (jd_bad h).2] at q
    exact .inl ⟨_, _, by decide, ⟨by omega, by omega⟩, q⟩
  · by_cases k : -719162 ≤ jdayN y m d ∧ jdayN y m d < 2932897
    · rw [(jd_in h k).1, (jd_in h k).2] at q
      exact .inr ⟨_, k.1, k.2, rfl, rfl, q⟩
    · rw [(jd_out h k).1, (jd_out h k).2] at q
      exact .inl ⟨_, _, by decide, ⟨by omega, by omega⟩, q⟩
namespace JulianBack
abbrev DayIs (y m d N E : Int) : Prop := ∀ w, JLens w → Calls Tryd.prog 13 #[.agg #[.int .i64 y, .int .i64 m, .int .i64 d]] w fun e w' => e = .returned (.tuple #[.int .i64 N, .int .i64 E]) ∧ Below w.heap.size w w'
abbrev DateIs (n y m d : Int) : Prop := ∀ w, Calls Tryd.prog 19 #[.int .i64 n] w fun e w' => e = .returned (.tuple #[.agg #[.int .i64 y, .int .i64 m, .int .i64 d], .int .i64 0]) ∧ Below w.heap.size w w'
abbrev RightIs (n : Int) (b : Bool) : Prop := ∀ w, Calls Tryd.prog 22 #[.int .i64 n] w fun e w' => e = .returned (.bool b) ∧ w = w'
set_option maxRecDepth 100000 in
set_option maxHeartbeats 2000000 in
theorem go_in_ok (n y m d : Int) (a b c : Int) (HX : DateIs n a b c) (HB : DayIs a b c n 0) (HR : RightIs n true) (N : Int) (HD : DayIs y m d N 0) (HZ : DateIs N y m d) (w : World) (ht : Tabs w) :
    Calls Tryd.prog 5 #[.int .i64 n, .agg #[.int .i64 y, .int .i64 m, .int .i64 d]] w fun e w' => e = .returned (.bool true) ∧ Below w.heap.size w w' := by
  have AW := Lib.hid (fun w ht => awake_all w ht)
  replace ht := Lib.hid ht
  replace HR := Lib.hid HR
  replace HD := Lib.hid HD
  replace HX := Lib.hid HX
  replace HB := Lib.hid HB
  replace HZ := Lib.hid HZ
  go_enter Tryd.func5, Tryd.ntmps5
  go_wp2_with fail
  refine (AW.out _ (ht.out.below (grow (here w) _))).mono ?_
  rintro e w1 ⟨rfl, hb⟩
  have A1 := Lib.hid (down (grow (here w) _) hb)
  have D1 := Lib.hid (Box.new hb)
  clear hb
  obtain ⟨d1_0, d1_1, d1_2, d1_z⟩ := D1.out
  go_wp2_with fail
  refine (HR.out _).mono ?_
  rintro e x1 ⟨rfl, rfl⟩
  go_wp2_with fail
  refine (HX.out _).mono ?_
  rintro e w2 ⟨rfl, hb⟩
  have A2 := Lib.hid (down A1.out hb)
  have D2 := Lib.hid (D1.out.keep hb)
  clear hb A1 D1 d1_0 d1_1 d1_2 d1_z
  obtain ⟨d2_0, d2_1, d2_2, d2_z⟩ := D2.out
  go_wp2_with fail
  refine (HB.out _ (ht.out.below (grow A2.out _)).jl).mono ?_
  rintro e w3 ⟨rfl, hb⟩
  have A3 := Lib.hid (down (grow A2.out _) hb)
  have D3 := Lib.hid ((D2.out.old _).keep hb)
  have X3 := Lib.hid (Box.new hb)
  clear hb A2 D2 d2_0 d2_1 d2_2 d2_z
  obtain ⟨d3_0, d3_1, d3_2, d3_z⟩ := D3.out
  obtain ⟨x3_0, x3_1, x3_2, x3_z⟩ := X3.out
  go_wp2_with fail
  refine (HD.out _ (ht.out.below A3.out).jl).mono ?_
  rintro e w4 ⟨rfl, hb⟩
  have A4 := Lib.hid (down A3.out hb)
  have D4 := Lib.hid (D3.out.keep hb)
  have X4 := Lib.hid (X3.out.keep hb)
  clear hb A3 D3 X3 d3_0 d3_1 d3_2 d3_z x3_0 x3_1 x3_2 x3_z
  obtain ⟨d4_0, d4_1, d4_2, d4_z⟩ := D4.out
  obtain ⟨x4_0, x4_1, x4_2, x4_z⟩ := X4.out
  go_wp2_with fail
  refine (HZ.out _).mono ?_
  rintro e w5 ⟨rfl, hb⟩
  have A5 := Lib.hid (down A4.out hb)
  have D5 := Lib.hid (D4.out.keep hb)
  have X5 := Lib.hid (X4.out.keep hb)
  clear hb A4 D4 X4 d4_0 d4_1 d4_2 d4_z x4_0 x4_1 x4_2 x4_z
  obtain ⟨d5_0, d5_1, d5_2, d5_z⟩ := D5.out
  obtain ⟨x5_0, x5_1, x5_2, x5_z⟩ := X5.out
  go_wp2
  go_ret
  exact ⟨rfl, by first | exact A5.out | exact grow A5.out _ | exact below_drewN A5.out _ | exact grow (grow A5.out _) _ | exact grow (grow (grow A5.out _) _) _⟩
set_option maxRecDepth 100000 in
set_option maxHeartbeats 2000000 in
theorem go_in_no (n y m d : Int) (a b c : Int) (HX : DateIs n a b c) (HB : DayIs a b c n 0) (HR : RightIs n true) (N E : Int) (kE : (E != 0) = true) (HD : DayIs y m d N E) (w : World) (ht : Tabs w) :
    Calls Tryd.prog 5 #[.int .i64 n, .agg #[.int .i64 y, .int .i64 m, .int .i64 d]] w fun e w' => e = .returned (.bool true) ∧ Below w.heap.size w w' := by
  have AW := Lib.hid (fun w ht => awake_all w ht)
  replace ht := Lib.hid ht
  replace HR := Lib.hid HR
  replace HD := Lib.hid HD
  replace HX := Lib.hid HX
  replace HB := Lib.hid HB
  go_enter Tryd.func5, Tryd.ntmps5
  go_wp2_with fail
  refine (AW.out _ (ht.out.below (grow (here w) _))).mono ?_
  rintro e w1 ⟨rfl, hb⟩
  have A1 := Lib.hid (down (grow (here w) _) hb)
  have D1 := Lib.hid (Box.new hb)
  clear hb
  obtain ⟨d1_0, d1_1, d1_2, d1_z⟩ := D1.out
  go_wp2_with fail
  refine (HR.out _).mono ?_
  rintro e x1 ⟨rfl, rfl⟩
  go_wp2_with fail
  refine (HX.out _).mono ?_
  rintro e w2 ⟨rfl, hb⟩
  have A2 := Lib.hid (down A1.out hb)
  have D2 := Lib.hid (D1.out.keep hb)
  clear hb A1 D1 d1_0 d1_1 d1_2 d1_z
  obtain ⟨d2_0, d2_1, d2_2, d2_z⟩ := D2.out
  go_wp2_with fail
  refine (HB.out _ (ht.out.below (grow A2.out _)).jl).mono ?_
  rintro e w3 ⟨rfl, hb⟩
  have A3 := Lib.hid (down (grow A2.out _) hb)
  have D3 := Lib.hid ((D2.out.old _).keep hb)
  have X3 := Lib.hid (Box.new hb)
  clear hb A2 D2 d2_0 d2_1 d2_2 d2_z
  obtain ⟨d3_0, d3_1, d3_2, d3_z⟩ := D3.out
  obtain ⟨x3_0, x3_1, x3_2, x3_z⟩ := X3.out
  go_wp2_with fail
  refine (HD.out _ (ht.out.below A3.out).jl).mono ?_
  rintro e w4 ⟨rfl, hb⟩
  have A4 := Lib.hid (down A3.out hb)
  have D4 := Lib.hid (D3.out.keep hb)
  have X4 := Lib.hid (X3.out.keep hb)
  clear hb A3 D3 X3 d3_0 d3_1 d3_2 d3_z x3_0 x3_1 x3_2 x3_z
  obtain ⟨d4_0, d4_1, d4_2, d4_z⟩ := D4.out
  obtain ⟨x4_0, x4_1, x4_2, x4_z⟩ := X4.out
  go_wp2
  go_ret
  exact ⟨rfl, by first | exact A4.out | exact grow A4.out _ | exact below_drewN A4.out _ | exact grow (grow A4.out _) _ | exact grow (grow (grow A4.out _) _) _⟩
set_option maxRecDepth 100000 in
set_option maxHeartbeats 2000000 in
theorem go_out_ok (n y m d : Int) (HR : RightIs n false) (N : Int) (HD : DayIs y m d N 0) (HZ : DateIs N y m d) (w : World) (ht : Tabs w) :
    Calls Tryd.prog 5 #[.int .i64 n, .agg #[.int .i64 y, .int .i64 m, .int .i64 d]] w fun e w' => e = .returned (.bool true) ∧ Below w.heap.size w w' := by
  have AW := Lib.hid (fun w ht => awake_all w ht)
  replace ht := Lib.hid ht
  replace HR := Lib.hid HR
  replace HD := Lib.hid HD
  replace HZ := Lib.hid HZ
  go_enter Tryd.func5, Tryd.ntmps5
  go_wp2_with fail
  refine (AW.out _ (ht.out.below (grow (here w) _))).mono ?_
  rintro e w1 ⟨rfl, hb⟩
  have A1 := Lib.hid (down (grow (here w) _) hb)
  have D1 := Lib.hid (Box.new hb)
  clear hb
  obtain ⟨d1_0, d1_1, d1_2, d1_z⟩ := D1.out
  go_wp2_with fail
  refine (HR.out _).mono ?_
  rintro e x1 ⟨rfl, rfl⟩
  go_wp2_with fail
  refine (HD.out _ (ht.out.below A1.out).jl).mono ?_
  rintro e w2 ⟨rfl, hb⟩
  have A2 := Lib.hid (down A1.out hb)
  have D2 := Lib.hid (D1.out.keep hb)
  clear hb A1 D1 d1_0 d1_1 d1_2 d1_z
  obtain ⟨d2_0, d2_1, d2_2, d2_z⟩ := D2.out
  go_wp2_with fail
  refine (HZ.out _).mono ?_
  rintro e w3 ⟨rfl, hb⟩
  have A3 := Lib.hid (down A2.out hb)
  have D3 := Lib.hid (D2.out.keep hb)
  clear hb A2 D2 d2_0 d2_1 d2_2 d2_z
  obtain ⟨d3_0, d3_1, d3_2, d3_z⟩ := D3.out
  go_wp2
  go_ret
  exact ⟨rfl, by first | exact A3.out | exact grow A3.out _ | exact below_drewN A3.out _ | exact grow (grow A3.out _) _ | exact grow (grow (grow A3.out _) _) _⟩
set_option maxRecDepth 100000 in
set_option maxHeartbeats 2000000 in
theorem go_out_no (n y m d : Int) (HR : RightIs n false) (N E : Int) (kE : (E != 0) = true) (HD : DayIs y m d N E) (w : World) (ht : Tabs w) :
    Calls Tryd.prog 5 #[.int .i64 n, .agg #[.int .i64 y, .int .i64 m, .int .i64 d]] w fun e w' => e = .returned (.bool true) ∧ Below w.heap.size w w' := by
  have AW := Lib.hid (fun w ht => awake_all w ht)
  replace ht := Lib.hid ht
  replace HR := Lib.hid HR
  replace HD := Lib.hid HD
  go_enter Tryd.func5, Tryd.ntmps5
  go_wp2_with fail
  refine (AW.out _ (ht.out.below (grow (here w) _))).mono ?_
  rintro e w1 ⟨rfl, hb⟩
  have A1 := Lib.hid (down (grow (here w) _) hb)
  have D1 := Lib.hid (Box.new hb)
  clear hb
  obtain ⟨d1_0, d1_1, d1_2, d1_z⟩ := D1.out
  go_wp2_with fail
  refine (HR.out _).mono ?_
  rintro e x1 ⟨rfl, rfl⟩
  go_wp2_with fail
  refine (HD.out _ (ht.out.below A1.out).jl).mono ?_
  rintro e w2 ⟨rfl, hb⟩
  have A2 := Lib.hid (down A1.out hb)
  have D2 := Lib.hid (D1.out.keep hb)
  clear hb A1 D1 d1_0 d1_1 d1_2 d1_z
  obtain ⟨d2_0, d2_1, d2_2, d2_z⟩ := D2.out
  go_wp2
  go_ret
  exact ⟨rfl, by first | exact A2.out | exact grow A2.out _ | exact below_drewN A2.out _ | exact grow (grow A2.out _) _ | exact grow (grow (grow A2.out _) _) _⟩
theorem walk (n y m d : Int) (hn : (Lit.int .i64 n).wf = true) (hy : (Lit.int .i64 y).wf = true) (hm : (Lit.int .i64 m).wf = true) (hd : (Lit.int .i64 d).wf = true) (w : World) (ht : Tabs w) :
    Calls Tryd.prog 5 #[.int .i64 n, .agg #[.int .i64 y, .int .i64 m, .int .i64 d]] w fun e w' => e = .returned (.bool true) ∧ Below w.heap.size w w' := by
  replace hn := i64_wf hn
  by_cases h : n < -719162 ∨ 2932897 ≤ n
  · have HR := fun w => right_no n hn h w
    rcases jday_fate y m d (i64_wf hy) (i64_wf hm) (i64_wf hd) with ⟨N, E, kE, -, HD⟩ | ⟨N, r0, r1, hv, he, HD⟩
    · exact go_out_no n y m d HR N E kE HD w ht
    · exact go_out_ok n y m d HR N HD (fun w => ujdate_yes N y m d hv he r0 r1 w) w ht
  · obtain ⟨a, b, c, hx, hz⟩ := jdate_of (n := n) (by omega) (by omega)
    have HR := fun w => right_yes n (by omega) (by omega) w
    have HX := fun w => ujdate_yes n a b c hx hz (by omega) (by omega) w
    obtain ⟨a0, a1, b0, b1, c0, c1⟩ := jvld_bd hx
    have HB : DayIs a b c n 0 := fun w ht => by
      have q := ujday a b c ⟨by omega, by omega⟩ ⟨by omega, by omega⟩ ⟨by omega, by omega⟩ w ht
      rw [(jd_in hx (by omega)).1, (jd_in hx (by omega)).2, hz] at q
      exact q
    rcases jday_fate y m d (i64_wf hy) (i64_wf hm) (i64_wf hd) with ⟨N, E, kE, -, HD⟩ | ⟨N, r0, r1, hv, he, HD⟩
    · exact go_in_no n y m d a b c HX HB HR N E kE HD w ht
    · exact go_in_ok n y m d a b c HX HB HR N HD (fun w => ujdate_yes N y m d hv he r0 r1 w) w ht
end JulianBack
end Go.Proofs.YtdhmmfdpfpecmaaDoor

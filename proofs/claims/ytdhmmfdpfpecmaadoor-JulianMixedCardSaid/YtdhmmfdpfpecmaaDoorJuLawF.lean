/- The walk of JulianMixed: the Go text returns true, at every input. -/
import Derived.Test.YtdhmmfdpfpecmaaDoorJuAwake
namespace Go.Proofs.YtdhmmfdpfpecmaaDoor
open Go.RowKit
set_option linter.unusedVariables false

namespace JulianMixed
set_option maxRecDepth 100000 in
set_option maxHeartbeats 2000000 in
theorem bad (f n y m d : Int) (hf : I64 f) (hn : I64 n) (hy : I64 y) (hm : I64 m) (hd : I64 d) (h : f < -719162 ∨ 2932897 < f) (HX : ∀ w, Calls Tryd.prog 27 #[.agg #[.int .i64 f], .int .i64 n] w fun e w' => e = .returned (.tuple #[.agg #[.int .i64 0, .int .i64 0, .int .i64 0], .int .i64 1]) ∧ Below w.heap.size w w') (w : World) (ht : Tabs w) :
    Calls Tryd.prog 9 #[.int .i64 f, .int .i64 n, .agg #[.int .i64 y, .int .i64 m, .int .i64 d]] w fun e w' => e = .returned (.bool true) ∧ Below w.heap.size w w' := by
  have HS := Lib.hid (fun w => ujswitch f hf w)
  have HM := fun w ht hl => ujmix f y m d hf hy hm hd w ht hl
  have RM := fun w => rjmix f y m d hf hy hm hd w
  generalize mixN f y m d = N at *
  generalize mixE f y m d = E at *
  obtain ⟨hf0, hf1⟩ := hf
  have t : decide (f < -719162) = true ∨ decide (f < -719162) = false ∧ decide (2932897 < f) = true := by
    by_cases z : f < -719162
    · exact .inl (decide_eq_true z)
    · exact .inr ⟨decide_eq_false z, decide_eq_true (by omega)⟩
  clear h
  have AW := Lib.hid (fun w ht => awake_all w ht)
  replace ht := Lib.hid ht
  replace HX := Lib.hid HX
  replace HM := Lib.hid HM
  replace RM := Lib.hid RM
  go_enter Tryd.func9, Tryd.ntmps9
  go_wp2_with fail
  refine (AW.out _ (ht.out.below (grow (here w) _))).mono ?_
  rintro e w1 ⟨rfl, hb⟩
  have A1 := Lib.hid (down (grow (here w) _) hb)
  have D1 := Lib.hid (Box.new hb)
  clear hb
  obtain ⟨d1_0, d1_1, d1_2, d1_z⟩ := D1.out
  go_wp2_with fail
  refine (HS.out _).mono ?_
  rintro e w2 ⟨rfl, hb⟩
  have A2 := Lib.hid (down A1.out hb)
  have D2 := Lib.hid (D1.out.keep hb)
  clear hb A1 D1 d1_0 d1_1 d1_2 d1_z
  obtain ⟨d2_0, d2_1, d2_2, d2_z⟩ := D2.out
  go_wp2_with fail
  refine (HX.out _).mono ?_
  rintro e w3 ⟨rfl, hb⟩
  have A3 := Lib.hid (down (grow A2.out _) hb)
  have D3 := Lib.hid ((D2.out.old _).keep hb)
  have R3 := Lib.hid (One.new hb)
  clear hb A2 D2 d2_0 d2_1 d2_2 d2_z
  obtain ⟨d3_0, d3_1, d3_2, d3_z⟩ := D3.out
  obtain ⟨r3_0, r3_z⟩ := R3.out
  go_wp2_with fail
  refine (HM.out _ (ht.out.below (grow A3.out _)).jl (ht.out.below (grow A3.out _)).cl).mono ?_
  rintro e w4 ⟨rfl, hb⟩
  have A4 := Lib.hid (down (grow A3.out _) hb)
  have D4 := Lib.hid ((D3.out.old _).keep hb)
  have R4 := Lib.hid ((R3.out.old _).keep hb)
  have X4 := Lib.hid (Box.new hb)
  clear hb A3 D3 R3 d3_0 d3_1 d3_2 d3_z r3_0 r3_z
  obtain ⟨d4_0, d4_1, d4_2, d4_z⟩ := D4.out
  obtain ⟨r4_0, r4_z⟩ := R4.out
  obtain ⟨x4_0, x4_1, x4_2, x4_z⟩ := X4.out
  go_wp2_with fail
  refine (RM.out _).mono ?_
  rintro e w5 ⟨rfl, hb⟩
  have A5 := Lib.hid (down A4.out hb)
  have D5 := Lib.hid (D4.out.keep hb)
  have R5 := Lib.hid (R4.out.keep hb)
  have X5 := Lib.hid (X4.out.keep hb)
  clear hb A4 D4 R4 X4 d4_0 d4_1 d4_2 d4_z r4_0 r4_z x4_0 x4_1 x4_2 x4_z
  obtain ⟨d5_0, d5_1, d5_2, d5_z⟩ := D5.out
  obtain ⟨r5_0, r5_z⟩ := R5.out
  obtain ⟨x5_0, x5_1, x5_2, x5_z⟩ := X5.out
  rcases t with k1 | ⟨k1, k2⟩
  all_goals
    go_wp2
    go_ret
    exact ⟨rfl, by first | exact A5.out | exact grow A5.out _ | exact below_drewN A5.out _ | exact grow (grow A5.out _) _ | exact grow (grow (grow A5.out _) _) _⟩
set_option maxRecDepth 100000 in
set_option maxHeartbeats 2000000 in
theorem out (f n y m d : Int) (hf : I64 f) (hn : I64 n) (hy : I64 y) (hm : I64 m) (hd : I64 d) (f0 : -719162 ≤ f) (f1 : f ≤ 2932897) (h : n < -719162 ∨ 2932897 ≤ n) (HX : ∀ w, Calls Tryd.prog 27 #[.agg #[.int .i64 f], .int .i64 n] w fun e w' => e = .returned (.tuple #[.agg #[.int .i64 0, .int .i64 0, .int .i64 0], .int .i64 2]) ∧ Below w.heap.size w w') (w : World) (ht : Tabs w) :
    Calls Tryd.prog 9 #[.int .i64 f, .int .i64 n, .agg #[.int .i64 y, .int .i64 m, .int .i64 d]] w fun e w' => e = .returned (.bool true) ∧ Below w.heap.size w w' := by
  have HS := Lib.hid (fun w => ujswitch f hf w)
  have HM := fun w ht hl => ujmix f y m d hf hy hm hd w ht hl
  have RM := fun w => rjmix f y m d hf hy hm hd w
  generalize mixN f y m d = N at *
  generalize mixE f y m d = E at *
  obtain ⟨hf0, hf1⟩ := hf
  have k1 : decide (f < -719162) = false := decide_eq_false (by omega)
  have k2 : decide (2932897 < f) = false := decide_eq_false (by omega)
  have HR := Lib.hid (fun w => right_no n hn h w)
  clear h
  have AW := Lib.hid (fun w ht => awake_all w ht)
  replace ht := Lib.hid ht
  replace HX := Lib.hid HX
  replace HM := Lib.hid HM
  replace RM := Lib.hid RM
  go_enter Tryd.func9, Tryd.ntmps9
  go_wp2_with fail
  refine (AW.out _ (ht.out.below (grow (here w) _))).mono ?_
  rintro e w1 ⟨rfl, hb⟩
  have A1 := Lib.hid (down (grow (here w) _) hb)
  have D1 := Lib.hid (Box.new hb)
  clear hb
  obtain ⟨d1_0, d1_1, d1_2, d1_z⟩ := D1.out
  go_wp2_with fail
  refine (HS.out _).mono ?_
  rintro e w2 ⟨rfl, hb⟩
  have A2 := Lib.hid (down A1.out hb)
  have D2 := Lib.hid (D1.out.keep hb)
  clear hb A1 D1 d1_0 d1_1 d1_2 d1_z
  obtain ⟨d2_0, d2_1, d2_2, d2_z⟩ := D2.out
  go_wp2_with fail
  refine (HX.out _).mono ?_
  rintro e w3 ⟨rfl, hb⟩
  have A3 := Lib.hid (down (grow A2.out _) hb)
  have D3 := Lib.hid ((D2.out.old _).keep hb)
  have R3 := Lib.hid (One.new hb)
  clear hb A2 D2 d2_0 d2_1 d2_2 d2_z
  obtain ⟨d3_0, d3_1, d3_2, d3_z⟩ := D3.out
  obtain ⟨r3_0, r3_z⟩ := R3.out
  go_wp2_with fail
  refine (HM.out _ (ht.out.below (grow A3.out _)).jl (ht.out.below (grow A3.out _)).cl).mono ?_
  rintro e w4 ⟨rfl, hb⟩
  have A4 := Lib.hid (down (grow A3.out _) hb)
  have D4 := Lib.hid ((D3.out.old _).keep hb)
  have R4 := Lib.hid ((R3.out.old _).keep hb)
  have X4 := Lib.hid (Box.new hb)
  clear hb A3 D3 R3 d3_0 d3_1 d3_2 d3_z r3_0 r3_z
  obtain ⟨d4_0, d4_1, d4_2, d4_z⟩ := D4.out
  obtain ⟨r4_0, r4_z⟩ := R4.out
  obtain ⟨x4_0, x4_1, x4_2, x4_z⟩ := X4.out
  go_wp2_with fail
  refine (RM.out _).mono ?_
  rintro e w5 ⟨rfl, hb⟩
  have A5 := Lib.hid (down A4.out hb)
  have D5 := Lib.hid (D4.out.keep hb)
  have R5 := Lib.hid (R4.out.keep hb)
  have X5 := Lib.hid (X4.out.keep hb)
  clear hb A4 D4 R4 X4 d4_0 d4_1 d4_2 d4_z r4_0 r4_z x4_0 x4_1 x4_2 x4_z
  obtain ⟨d5_0, d5_1, d5_2, d5_z⟩ := D5.out
  obtain ⟨r5_0, r5_z⟩ := R5.out
  obtain ⟨x5_0, x5_1, x5_2, x5_z⟩ := X5.out
  go_wp2_with fail
  refine (HR.out _).mono ?_
  rintro e x1 ⟨rfl, rfl⟩
  go_wp2
  go_ret
  exact ⟨rfl, by first | exact A5.out | exact grow A5.out _ | exact below_drewN A5.out _ | exact grow (grow A5.out _) _ | exact grow (grow (grow A5.out _) _) _⟩
set_option maxRecDepth 100000 in
set_option maxHeartbeats 2000000 in
theorem high (f n y m d : Int) (hf : I64 f) (hn : I64 n) (hy : I64 y) (hm : I64 m) (hd : I64 d) (a b c : Int) (f0 : -719162 ≤ f) (f1 : f ≤ 2932897) (r0 : -719162 ≤ n) (r1 : n < 2932897) (k : f ≤ n) (HX : ∀ w, Calls Tryd.prog 27 #[.agg #[.int .i64 f], .int .i64 n] w fun e w' => e = .returned (.tuple #[.agg #[.int .i64 a, .int .i64 b, .int .i64 c], .int .i64 0]) ∧ Below w.heap.size w w') (HG : ∀ w, Calls Tryd.prog 24 #[.int .i64 n] w fun e w' => e = .returned (.tuple #[.agg #[.int .i64 a, .int .i64 b, .int .i64 c], .int .i64 0]) ∧ Below w.heap.size w w') (w : World) (ht : Tabs w) :
    Calls Tryd.prog 9 #[.int .i64 f, .int .i64 n, .agg #[.int .i64 y, .int .i64 m, .int .i64 d]] w fun e w' => e = .returned (.bool true) ∧ Below w.heap.size w w' := by
  have HS := Lib.hid (fun w => ujswitch f hf w)
  have HM := fun w ht hl => ujmix f y m d hf hy hm hd w ht hl
  have RM := fun w => rjmix f y m d hf hy hm hd w
  generalize mixN f y m d = N at *
  generalize mixE f y m d = E at *
  obtain ⟨hf0, hf1⟩ := hf
  have k1 : decide (f < -719162) = false := decide_eq_false (by omega)
  have k2 : decide (2932897 < f) = false := decide_eq_false (by omega)
  have HR := Lib.hid (fun w => right_yes n r0 r1 w)
  have k3 : decide (n < f) = false := decide_eq_false (by omega)
  replace HG := Lib.hid HG
  have AW := Lib.hid (fun w ht => awake_all w ht)
  replace ht := Lib.hid ht
  replace HX := Lib.hid HX
  replace HM := Lib.hid HM
  replace RM := Lib.hid RM
  go_enter Tryd.func9, Tryd.ntmps9
  go_wp2_with fail
  refine (AW.out _ (ht.out.below (grow (here w) _))).mono ?_
  rintro e w1 ⟨rfl, hb⟩
  have A1 := Lib.hid (down (grow (here w) _) hb)
  have D1 := Lib.hid (Box.new hb)
  clear hb
  obtain ⟨d1_0, d1_1, d1_2, d1_z⟩ := D1.out
  go_wp2_with fail
  refine (HS.out _).mono ?_
  rintro e w2 ⟨rfl, hb⟩
  have A2 := Lib.hid (down A1.out hb)
  have D2 := Lib.hid (D1.out.keep hb)
  clear hb A1 D1 d1_0 d1_1 d1_2 d1_z
  obtain ⟨d2_0, d2_1, d2_2, d2_z⟩ := D2.out
  go_wp2_with fail
  refine (HX.out _).mono ?_
  rintro e w3 ⟨rfl, hb⟩
  have A3 := Lib.hid (down (grow A2.out _) hb)
  have D3 := Lib.hid ((D2.out.old _).keep hb)
  have R3 := Lib.hid (One.new hb)
  clear hb A2 D2 d2_0 d2_1 d2_2 d2_z
  obtain ⟨d3_0, d3_1, d3_2, d3_z⟩ := D3.out
  obtain ⟨r3_0, r3_z⟩ := R3.out
  go_wp2_with fail
  refine (HM.out _ (ht.out.below (grow A3.out _)).jl (ht.out.below (grow A3.out _)).cl).mono ?_
  rintro e w4 ⟨rfl, hb⟩
  have A4 := Lib.hid (down (grow A3.out _) hb)
  have D4 := Lib.hid ((D3.out.old _).keep hb)
  have R4 := Lib.hid ((R3.out.old _).keep hb)
  have X4 := Lib.hid (Box.new hb)
  clear hb A3 D3 R3 d3_0 d3_1 d3_2 d3_z r3_0 r3_z
  obtain ⟨d4_0, d4_1, d4_2, d4_z⟩ := D4.out
  obtain ⟨r4_0, r4_z⟩ := R4.out
  obtain ⟨x4_0, x4_1, x4_2, x4_z⟩ := X4.out
  go_wp2_with fail
  refine (RM.out _).mono ?_
  rintro e w5 ⟨rfl, hb⟩
  have A5 := Lib.hid (down A4.out hb)
  have D5 := Lib.hid (D4.out.keep hb)
  have R5 := Lib.hid (R4.out.keep hb)
  have X5 := Lib.hid (X4.out.keep hb)
  clear hb A4 D4 R4 X4 d4_0 d4_1 d4_2 d4_z r4_0 r4_z x4_0 x4_1 x4_2 x4_z
  obtain ⟨d5_0, d5_1, d5_2, d5_z⟩ := D5.out
  obtain ⟨r5_0, r5_z⟩ := R5.out
  obtain ⟨x5_0, x5_1, x5_2, x5_z⟩ := X5.out
  go_wp2_with fail
  refine (HR.out _).mono ?_
  rintro e x1 ⟨rfl, rfl⟩
  go_wp2_with fail
  refine (HG.out _).mono ?_
  rintro e w6 ⟨rfl, hb⟩
  have A6 := Lib.hid (down A5.out hb)
  have D6 := Lib.hid (D5.out.keep hb)
  have R6 := Lib.hid (R5.out.keep hb)
  have X6 := Lib.hid (X5.out.keep hb)
  clear hb A5 D5 R5 X5 d5_0 d5_1 d5_2 d5_z r5_0 r5_z x5_0 x5_1 x5_2 x5_z
  obtain ⟨d6_0, d6_1, d6_2, d6_z⟩ := D6.out
  obtain ⟨r6_0, r6_z⟩ := R6.out
  obtain ⟨x6_0, x6_1, x6_2, x6_z⟩ := X6.out
  go_wp2
  go_ret
  exact ⟨rfl, by first | exact A6.out | exact grow A6.out _ | exact below_drewN A6.out _ | exact grow (grow A6.out _) _ | exact grow (grow (grow A6.out _) _) _⟩
set_option maxRecDepth 100000 in
set_option maxHeartbeats 2000000 in
theorem low (f n y m d : Int) (hf : I64 f) (hn : I64 n) (hy : I64 y) (hm : I64 m) (hd : I64 d) (a b c g i j : Int) (f0 : -719162 ≤ f) (f1 : f ≤ 2932897) (r0 : -719162 ≤ n) (r1 : n < 2932897) (k : n < f) (HX : ∀ w, Calls Tryd.prog 27 #[.agg #[.int .i64 f], .int .i64 n] w fun e w' => e = .returned (.tuple #[.agg #[.int .i64 a, .int .i64 b, .int .i64 c], .int .i64 0]) ∧ Below w.heap.size w w') (HG : ∀ w, Calls Tryd.prog 24 #[.int .i64 n] w fun e w' => e = .returned (.tuple #[.agg #[.int .i64 g, .int .i64 i, .int .i64 j], .int .i64 0]) ∧ Below w.heap.size w w') (HJ : ∀ w, Calls Tryd.prog 19 #[.int .i64 n] w fun e w' => e = .returned (.tuple #[.agg #[.int .i64 a, .int .i64 b, .int .i64 c], .int .i64 0]) ∧ Below w.heap.size w w') (w : World) (ht : Tabs w) :
    Calls Tryd.prog 9 #[.int .i64 f, .int .i64 n, .agg #[.int .i64 y, .int .i64 m, .int .i64 d]] w fun e w' => e = .returned (.bool true) ∧ Below w.heap.size w w' := by
  have HS := Lib.hid (fun w => ujswitch f hf w)
  have HM := fun w ht hl => ujmix f y m d hf hy hm hd w ht hl
  have RM := fun w => rjmix f y m d hf hy hm hd w
  generalize mixN f y m d = N at *
  generalize mixE f y m d = E at *
  obtain ⟨hf0, hf1⟩ := hf
  have k1 : decide (f < -719162) = false := decide_eq_false (by omega)
  have k2 : decide (2932897 < f) = false := decide_eq_false (by omega)
  have HR := Lib.hid (fun w => right_yes n r0 r1 w)
  have k3 : decide (n < f) = true := decide_eq_true k
  replace HG := Lib.hid HG
  replace HJ := Lib.hid HJ
  have AW := Lib.hid (fun w ht => awake_all w ht)
  replace ht := Lib.hid ht
  replace HX := Lib.hid HX
  replace HM := Lib.hid HM
  replace RM := Lib.hid RM
  go_enter Tryd.func9, Tryd.ntmps9
  go_wp2_with fail
  refine (AW.out _ (ht.out.below (grow (here w) _))).mono ?_
  rintro e w1 ⟨rfl, hb⟩
  have A1 := Lib.hid (down (grow (here w) _) hb)
  have D1 := Lib.hid (Box.new hb)
  clear hb
  obtain ⟨d1_0, d1_1, d1_2, d1_z⟩ := D1.out
  go_wp2_with fail
  refine (HS.out _).mono ?_
  rintro e w2 ⟨rfl, hb⟩
  have A2 := Lib.hid (down A1.out hb)
  have D2 := Lib.hid (D1.out.keep hb)
  clear hb A1 D1 d1_0 d1_1 d1_2 d1_z
  obtain ⟨d2_0, d2_1, d2_2, d2_z⟩ := D2.out
  go_wp2_with fail
  refine (HX.out _).mono ?_
  rintro e w3 ⟨rfl, hb⟩
  have A3 := Lib.hid (down (grow A2.out _) hb)
  have D3 := Lib.hid ((D2.out.old _).keep hb)
  have R3 := Lib.hid (One.new hb)
  clear hb A2 D2 d2_0 d2_1 d2_2 d2_z
  obtain ⟨d3_0, d3_1, d3_2, d3_z⟩ := D3.out
  obtain ⟨r3_0, r3_z⟩ := R3.out
  go_wp2_with fail
  refine (HM.out _ (ht.out.below (grow A3.out _)).jl (ht.out.below (grow A3.out _)).cl).mono ?_
  rintro e w4 ⟨rfl, hb⟩
  have A4 := Lib.hid (down (grow A3.out _) hb)
  have D4 := Lib.hid ((D3.out.old _).keep hb)
  have R4 := Lib.hid ((R3.out.old _).keep hb)
  have X4 := Lib.hid (Box.new hb)
  clear hb A3 D3 R3 d3_0 d3_1 d3_2 d3_z r3_0 r3_z
  obtain ⟨d4_0, d4_1, d4_2, d4_z⟩ := D4.out
  obtain ⟨r4_0, r4_z⟩ := R4.out
  obtain ⟨x4_0, x4_1, x4_2, x4_z⟩ := X4.out
  go_wp2_with fail
  refine (RM.out _).mono ?_
  rintro e w5 ⟨rfl, hb⟩
  have A5 := Lib.hid (down A4.out hb)
  have D5 := Lib.hid (D4.out.keep hb)
  have R5 := Lib.hid (R4.out.keep hb)
  have X5 := Lib.hid (X4.out.keep hb)
  clear hb A4 D4 R4 X4 d4_0 d4_1 d4_2 d4_z r4_0 r4_z x4_0 x4_1 x4_2 x4_z
  obtain ⟨d5_0, d5_1, d5_2, d5_z⟩ := D5.out
  obtain ⟨r5_0, r5_z⟩ := R5.out
  obtain ⟨x5_0, x5_1, x5_2, x5_z⟩ := X5.out
  go_wp2_with fail
  refine (HR.out _).mono ?_
  rintro e x1 ⟨rfl, rfl⟩
  go_wp2_with fail
  refine (HG.out _).mono ?_
  rintro e w6 ⟨rfl, hb⟩
  have A6 := Lib.hid (down A5.out hb)
  have D6 := Lib.hid (D5.out.keep hb)
  have R6 := Lib.hid (R5.out.keep hb)
  have X6 := Lib.hid (X5.out.keep hb)
  clear hb A5 D5 R5 X5 d5_0 d5_1 d5_2 d5_z r5_0 r5_z x5_0 x5_1 x5_2 x5_z
  obtain ⟨d6_0, d6_1, d6_2, d6_z⟩ := D6.out
  obtain ⟨r6_0, r6_z⟩ := R6.out
  obtain ⟨x6_0, x6_1, x6_2, x6_z⟩ := X6.out
  go_wp2_with fail
  refine (HJ.out _).mono ?_
  rintro e w7 ⟨rfl, hb⟩
  have A7 := Lib.hid (down (grow A6.out _) hb)
  have le_Y : Hid (w.heap.size ≤ w6.heap.size) := by show _ ≤ _; have := A6.out.size; omega
  have ne_D_Y : Hid (w.heap.size ≠ w6.heap.size) := by show _ ≠ _; have := D6.out.lt; omega
  have D7 := Lib.hid ((D6.out.old _).keep hb)
  have ne_R_Y : Hid (w2.heap.size ≠ w6.heap.size) := by show _ ≠ _; have := R6.out.lt; omega
  have R7 := Lib.hid ((R6.out.old _).keep hb)
  have ne_X_Y : Hid (w3.heap.size ≠ w6.heap.size) := by show _ ≠ _; have := X6.out.lt; omega
  have X7 := Lib.hid ((X6.out.old _).keep hb)
  have Y7 := Lib.hid (Box.new hb)
  have FY7 := Lib.hid (Free.new hb)
  clear hb A6 D6 R6 X6 d6_0 d6_1 d6_2 d6_z r6_0 r6_z x6_0 x6_1 x6_2 x6_z
  obtain ⟨d7_0, d7_1, d7_2, d7_z⟩ := D7.out
  obtain ⟨r7_0, r7_z⟩ := R7.out
  obtain ⟨x7_0, x7_1, x7_2, x7_z⟩ := X7.out
  obtain ⟨y7_0, y7_1, y7_2, y7_z⟩ := Y7.out
  obtain ⟨y7_f0, y7_f1, y7_f2⟩ := FY7.out
  clear R7 r7_0 r7_z
  obtain ⟨w8, hw8⟩ : ∃ w' : World, w7.setCell ⟨w6.heap.size, 0, none⟩ (.int .i64 (a)) = w' := ⟨_, rfl⟩
  have A8 : Hid (Below w.heap.size w w8) := by rw [← hw8]; exact A7.out.setCell le_Y.out _
  have D8 : Hid (Box w8 (w.heap.size) (.int .i64 (y)) (.int .i64 (m)) (.int .i64 (d))) := by rw [← hw8]; exact D7.out.far (ne_D_Y.out.symm) _ _
  have X8 : Hid (Box w8 (w3.heap.size) (.int .i64 (a)) (.int .i64 (b)) (.int .i64 (c))) := by rw [← hw8]; exact X7.out.far (ne_X_Y.out.symm) _ _
  have Y8 : Hid (Box w8 (w6.heap.size) (.int .i64 (a)) (.int .i64 (i)) (.int .i64 (j))) := by rw [← hw8]; exact Y7.out.put0 _
  have FY8 : Hid (Free w8 (w6.heap.size)) := by rw [← hw8]; exact FY7.out.set _ _
  obtain ⟨d8_0, d8_1, d8_2, d8_z⟩ := D8.out
  obtain ⟨x8_0, x8_1, x8_2, x8_z⟩ := X8.out
  obtain ⟨y8_0, y8_1, y8_2, y8_z⟩ := Y8.out
  obtain ⟨y8_f0, y8_f1, y8_f2⟩ := FY8.out
  obtain ⟨w9, hw9⟩ : ∃ w' : World, w8.setCell ⟨w6.heap.size, 1, none⟩ (.int .i64 (b)) = w' := ⟨_, rfl⟩
  have A9 : Hid (Below w.heap.size w w9) := by rw [← hw9]; exact A8.out.setCell le_Y.out _
  have D9 : Hid (Box w9 (w.heap.size) (.int .i64 (y)) (.int .i64 (m)) (.int .i64 (d))) := by rw [← hw9]; exact D8.out.far (ne_D_Y.out.symm) _ _
  have X9 : Hid (Box w9 (w3.heap.size) (.int .i64 (a)) (.int .i64 (b)) (.int .i64 (c))) := by rw [← hw9]; exact X8.out.far (ne_X_Y.out.symm) _ _
  have Y9 : Hid (Box w9 (w6.heap.size) (.int .i64 (a)) (.int .i64 (b)) (.int .i64 (j))) := by rw [← hw9]; exact Y8.out.put1 _
  have FY9 : Hid (Free w9 (w6.heap.size)) := by rw [← hw9]; exact FY8.out.set _ _
  obtain ⟨d9_0, d9_1, d9_2, d9_z⟩ := D9.out
  obtain ⟨x9_0, x9_1, x9_2, x9_z⟩ := X9.out
  obtain ⟨y9_0, y9_1, y9_2, y9_z⟩ := Y9.out
  obtain ⟨y9_f0, y9_f1, y9_f2⟩ := FY9.out
  obtain ⟨w10, hw10⟩ : ∃ w' : World, w9.setCell ⟨w6.heap.size, 2, none⟩ (.int .i64 (c)) = w' := ⟨_, rfl⟩
  have A10 : Hid (Below w.heap.size w w10) := by rw [← hw10]; exact A9.out.setCell le_Y.out _
  have D10 : Hid (Box w10 (w.heap.size) (.int .i64 (y)) (.int .i64 (m)) (.int .i64 (d))) := by rw [← hw10]; exact D9.out.far (ne_D_Y.out.symm) _ _
  have X10 : Hid (Box w10 (w3.heap.size) (.int .i64 (a)) (.int .i64 (b)) (.int .i64 (c))) := by rw [← hw10]; exact X9.out.far (ne_X_Y.out.symm) _ _
  have Y10 : Hid (Box w10 (w6.heap.size) (.int .i64 (a)) (.int .i64 (b)) (.int .i64 (c))) := by rw [← hw10]; exact Y9.out.put2 _
  have FY10 : Hid (Free w10 (w6.heap.size)) := by rw [← hw10]; exact FY9.out.set _ _
  obtain ⟨d10_0, d10_1, d10_2, d10_z⟩ := D10.out
  obtain ⟨x10_0, x10_1, x10_2, x10_z⟩ := X10.out
  obtain ⟨y10_0, y10_1, y10_2, y10_z⟩ := Y10.out
  obtain ⟨y10_f0, y10_f1, y10_f2⟩ := FY10.out
  go_wp2
  go_ret
  exact ⟨rfl, by first | exact A10.out | exact grow A10.out _ | exact below_drewN A10.out _ | exact grow (grow A10.out _) _ | exact grow (grow (grow A10.out _) _) _⟩
theorem walk (f n y m d : Int) (hf : (Lit.int .i64 f).wf = true) (hn : (Lit.int .i64 n).wf = true) (hy : (Lit.int .i64 y).wf = true) (hm : (Lit.int .i64 m).wf = true) (hd : (Lit.int .i64 d).wf = true) (w : World) (ht : Tabs w) :
    Calls Tryd.prog 9 #[.int .i64 f, .int .i64 n, .agg #[.int .i64 y, .int .i64 m, .int .i64 d]] w fun e w' => e = .returned (.bool true) ∧ Below w.heap.size w w' := by
  replace hf := i64_wf hf
  replace hn := i64_wf hn
  replace hy := i64_wf hy
  replace hm := i64_wf hm
  replace hd := i64_wf hd
  by_cases b : f < -719162 ∨ 2932897 < f
  · exact bad f n y m d hf hn hy hm hd b (fun w => ujmixed_arg f n hf hn b w) w ht
  · have f0 : -719162 ≤ f := by omega
    have f1 : f ≤ 2932897 := by omega
    by_cases h : n < -719162 ∨ 2932897 ≤ n
    · by_cases k : n < f
      · exact out f n y m d hf hn hy hm hd f0 f1 h (fun w => ujmixed_low f n 0 0 0 2 f0 f1 hn k (fun w => ujdate_no n hn h w) w) w ht
      · exact out f n y m d hf hn hy hm hd f0 f1 h (fun w => ujmixed_high f n 0 0 0 2 f0 f1 hn (by omega) (fun w => cdate_no n hn h w) w) w ht
    · obtain ⟨a, b, c, hv, he⟩ := date_of (n := n) (by omega) (by omega)
      obtain ⟨g, i, j, hj, hz⟩ := jdate_of (n := n) (by omega) (by omega)
      have HG := fun w => cdate_yes n a b c hv he w
      have HJ := fun w => ujdate_yes n g i j hj hz (by omega) (by omega) w
      by_cases k : n < f
      · exact low f n y m d hf hn hy hm hd g i j a b c f0 f1 (by omega) (by omega) k (fun w => ujmixed_low f n g i j 0 f0 f1 hn k HJ w) HG HJ w ht
      · exact high f n y m d hf hn hy hm hd a b c f0 f1 (by omega) (by omega) (by omega) (fun w => ujmixed_high f n a b c 0 f0 f1 hn (by omega) HG w) HG w ht
end JulianMixed
end Go.Proofs.YtdhmmfdpfpecmaaDoor

/- The walk of HebrewBack: the Go text returns true, at every input. -/
import Derived.Test.YtpkkhkkanpcniaaHeAwake
namespace Go.Proofs.Ytpkkhkkanpcniaa
open Go.RowKit
set_option linter.unusedVariables false

namespace HebrewBack
set_option maxRecDepth 100000 in
set_option maxHeartbeats 2000000 in
theorem go_low_no (n y m d : Int) (q1 : decide (-719162 ≤ n) = false) (H1 : ∀ w, Tabs w → Calls Try.prog 32 #[.int .i64 n] w fun e w' => e = .returned (.tuple #[.agg #[.int .i64 0, .int .i64 0, .int .i64 0], .int .i64 2]) ∧ Below w.heap.size w w') (H3 : ∀ w, Tabs w → Calls Try.prog 30 #[.agg #[.int .i64 y, .int .i64 m, .int .i64 d]] w fun e w' => e = .returned (.tuple #[.int .i64 0, .int .i64 2]) ∧ Below w.heap.size w w') (w : World) (ht : Tabs w) :
    Calls Try.prog 8 #[.int .i64 n, .agg #[.int .i64 y, .int .i64 m, .int .i64 d]] w fun e w' => e = .returned (.bool true) ∧ Below w.heap.size w w' := by
  have AW := Lib.hid (fun w ht => awake_all w ht)
  replace ht := Lib.hid ht
  replace H1 := Lib.hid H1
  replace H3 := Lib.hid H3
  go_enter Try.func8, Try.ntmps8
  go_wp2_with fail
  refine (AW.out _ (ht.out.below (grow (here w) _))).mono ?_
  rintro e w1 ⟨rfl, hb⟩
  have A1 := Lib.hid (down (grow (here w) _) hb)
  have D1 := Lib.hid (Box.new hb)
  clear hb
  obtain ⟨d1_0, d1_1, d1_2, d1_z⟩ := D1.out
  go_wp2_with fail
  refine (H1.out _ (ht.out.below A1.out)).mono ?_
  rintro e w2 ⟨rfl, hb⟩
  have A2 := Lib.hid (down A1.out hb)
  have D2 := Lib.hid (D1.out.keep hb)
  clear hb A1 D1 d1_0 d1_1 d1_2 d1_z
  obtain ⟨d2_0, d2_1, d2_2, d2_z⟩ := D2.out
  go_wp2_with fail
  refine (H3.out _ (ht.out.below (grow A2.out _))).mono ?_
  rintro e w3 ⟨rfl, hb⟩
  have A3 := Lib.hid (down (grow A2.out _) hb)
  have D3 := Lib.hid ((D2.out.old _).keep hb)
  have X3 := Lib.hid (Box.new hb)
  clear hb A2 D2 d2_0 d2_1 d2_2 d2_z
  obtain ⟨d3_0, d3_1, d3_2, d3_z⟩ := D3.out
  obtain ⟨x3_0, x3_1, x3_2, x3_z⟩ := X3.out
  go_wp2
  go_ret
  exact ⟨rfl, by first | exact A3.out | exact grow A3.out _ | exact below_drewN A3.out _ | exact grow (grow A3.out _) _ | exact grow (grow (grow A3.out _) _) _⟩
set_option maxRecDepth 100000 in
set_option maxHeartbeats 2000000 in
theorem go_low_ok (n y m d : Int) (q1 : decide (-719162 ≤ n) = false) (H1 : ∀ w, Tabs w → Calls Try.prog 32 #[.int .i64 n] w fun e w' => e = .returned (.tuple #[.agg #[.int .i64 0, .int .i64 0, .int .i64 0], .int .i64 2]) ∧ Below w.heap.size w w') (N : Int) (H3 : ∀ w, Tabs w → Calls Try.prog 30 #[.agg #[.int .i64 y, .int .i64 m, .int .i64 d]] w fun e w' => e = .returned (.tuple #[.int .i64 N, .int .i64 0]) ∧ Below w.heap.size w w') (H4 : ∀ w, Tabs w → Calls Try.prog 32 #[.int .i64 N] w fun e w' => e = .returned (.tuple #[.agg #[.int .i64 y, .int .i64 m, .int .i64 d], .int .i64 0]) ∧ Below w.heap.size w w') (w : World) (ht : Tabs w) :
    Calls Try.prog 8 #[.int .i64 n, .agg #[.int .i64 y, .int .i64 m, .int .i64 d]] w fun e w' => e = .returned (.bool true) ∧ Below w.heap.size w w' := by
  have AW := Lib.hid (fun w ht => awake_all w ht)
  replace ht := Lib.hid ht
  replace H1 := Lib.hid H1
  replace H3 := Lib.hid H3
  replace H4 := Lib.hid H4
  go_enter Try.func8, Try.ntmps8
  go_wp2_with fail
  refine (AW.out _ (ht.out.below (grow (here w) _))).mono ?_
  rintro e w1 ⟨rfl, hb⟩
  have A1 := Lib.hid (down (grow (here w) _) hb)
  have D1 := Lib.hid (Box.new hb)
  clear hb
  obtain ⟨d1_0, d1_1, d1_2, d1_z⟩ := D1.out
  go_wp2_with fail
  refine (H1.out _ (ht.out.below A1.out)).mono ?_
  rintro e w2 ⟨rfl, hb⟩
  have A2 := Lib.hid (down A1.out hb)
  have D2 := Lib.hid (D1.out.keep hb)
  clear hb A1 D1 d1_0 d1_1 d1_2 d1_z
  obtain ⟨d2_0, d2_1, d2_2, d2_z⟩ := D2.out
  go_wp2_with fail
  refine (H3.out _ (ht.out.below (grow A2.out _))).mono ?_
  rintro e w3 ⟨rfl, hb⟩
  have A3 := Lib.hid (down (grow A2.out _) hb)
  have D3 := Lib.hid ((D2.out.old _).keep hb)
  have X3 := Lib.hid (Box.new hb)
  clear hb A2 D2 d2_0 d2_1 d2_2 d2_z
  obtain ⟨d3_0, d3_1, d3_2, d3_z⟩ := D3.out
  obtain ⟨x3_0, x3_1, x3_2, x3_z⟩ := X3.out
  go_wp2_with fail
  refine (H4.out _ (ht.out.below A3.out)).mono ?_
  rintro e w4 ⟨rfl, hb⟩
  have A4 := Lib.hid (down A3.out hb)
  have D4 := Lib.hid (D3.out.keep hb)
  have X4 := Lib.hid (X3.out.keep hb)
  clear hb A3 D3 X3 d3_0 d3_1 d3_2 d3_z x3_0 x3_1 x3_2 x3_z
  obtain ⟨d4_0, d4_1, d4_2, d4_z⟩ := D4.out
  obtain ⟨x4_0, x4_1, x4_2, x4_z⟩ := X4.out
  go_wp2
  go_ret
  exact ⟨rfl, by first | exact A4.out | exact grow A4.out _ | exact below_drewN A4.out _ | exact grow (grow A4.out _) _ | exact grow (grow (grow A4.out _) _) _⟩
set_option maxRecDepth 100000 in
set_option maxHeartbeats 2000000 in
theorem go_high_no (n y m d : Int) (q1 : decide (-719162 ≤ n) = true) (q2 : decide (n < 2932897) = false) (H1 : ∀ w, Tabs w → Calls Try.prog 32 #[.int .i64 n] w fun e w' => e = .returned (.tuple #[.agg #[.int .i64 0, .int .i64 0, .int .i64 0], .int .i64 2]) ∧ Below w.heap.size w w') (H3 : ∀ w, Tabs w → Calls Try.prog 30 #[.agg #[.int .i64 y, .int .i64 m, .int .i64 d]] w fun e w' => e = .returned (.tuple #[.int .i64 0, .int .i64 2]) ∧ Below w.heap.size w w') (w : World) (ht : Tabs w) :
    Calls Try.prog 8 #[.int .i64 n, .agg #[.int .i64 y, .int .i64 m, .int .i64 d]] w fun e w' => e = .returned (.bool true) ∧ Below w.heap.size w w' := by
  have AW := Lib.hid (fun w ht => awake_all w ht)
  replace ht := Lib.hid ht
  replace H1 := Lib.hid H1
  replace H3 := Lib.hid H3
  go_enter Try.func8, Try.ntmps8
  go_wp2_with fail
  refine (AW.out _ (ht.out.below (grow (here w) _))).mono ?_
  rintro e w1 ⟨rfl, hb⟩
  have A1 := Lib.hid (down (grow (here w) _) hb)
  have D1 := Lib.hid (Box.new hb)
  clear hb
  obtain ⟨d1_0, d1_1, d1_2, d1_z⟩ := D1.out
  go_wp2_with fail
  refine (H1.out _ (ht.out.below A1.out)).mono ?_
  rintro e w2 ⟨rfl, hb⟩
  have A2 := Lib.hid (down A1.out hb)
  have D2 := Lib.hid (D1.out.keep hb)
  clear hb A1 D1 d1_0 d1_1 d1_2 d1_z
  obtain ⟨d2_0, d2_1, d2_2, d2_z⟩ := D2.out
  go_wp2_with fail
  refine (H3.out _ (ht.out.below (grow A2.out _))).mono ?_
  rintro e w3 ⟨rfl, hb⟩
  have A3 := Lib.hid (down (grow A2.out _) hb)
  have D3 := Lib.hid ((D2.out.old _).keep hb)
  have X3 := Lib.hid (Box.new hb)
  clear hb A2 D2 d2_0 d2_1 d2_2 d2_z
  obtain ⟨d3_0, d3_1, d3_2, d3_z⟩ := D3.out
  obtain ⟨x3_0, x3_1, x3_2, x3_z⟩ := X3.out
  go_wp2
  go_ret
  exact ⟨rfl, by first | exact A3.out | exact grow A3.out _ | exact below_drewN A3.out _ | exact grow (grow A3.out _) _ | exact grow (grow (grow A3.out _) _) _⟩
set_option maxRecDepth 100000 in
set_option maxHeartbeats 2000000 in
theorem go_high_ok (n y m d : Int) (q1 : decide (-719162 ≤ n) = true) (q2 : decide (n < 2932897) = false) (H1 : ∀ w, Tabs w → Calls Try.prog 32 #[.int .i64 n] w fun e w' => e = .returned (.tuple #[.agg #[.int .i64 0, .int .i64 0, .int .i64 0], .int .i64 2]) ∧ Below w.heap.size w w') (N : Int) (H3 : ∀ w, Tabs w → Calls Try.prog 30 #[.agg #[.int .i64 y, .int .i64 m, .int .i64 d]] w fun e w' => e = .returned (.tuple #[.int .i64 N, .int .i64 0]) ∧ Below w.heap.size w w') (H4 : ∀ w, Tabs w → Calls Try.prog 32 #[.int .i64 N] w fun e w' => e = .returned (.tuple #[.agg #[.int .i64 y, .int .i64 m, .int .i64 d], .int .i64 0]) ∧ Below w.heap.size w w') (w : World) (ht : Tabs w) :
    Calls Try.prog 8 #[.int .i64 n, .agg #[.int .i64 y, .int .i64 m, .int .i64 d]] w fun e w' => e = .returned (.bool true) ∧ Below w.heap.size w w' := by
  have AW := Lib.hid (fun w ht => awake_all w ht)
  replace ht := Lib.hid ht
  replace H1 := Lib.hid H1
  replace H3 := Lib.hid H3
  replace H4 := Lib.hid H4
  go_enter Try.func8, Try.ntmps8
  go_wp2_with fail
  refine (AW.out _ (ht.out.below (grow (here w) _))).mono ?_
  rintro e w1 ⟨rfl, hb⟩
  have A1 := Lib.hid (down (grow (here w) _) hb)
  have D1 := Lib.hid (Box.new hb)
  clear hb
  obtain ⟨d1_0, d1_1, d1_2, d1_z⟩ := D1.out
  go_wp2_with fail
  refine (H1.out _ (ht.out.below A1.out)).mono ?_
  rintro e w2 ⟨rfl, hb⟩
  have A2 := Lib.hid (down A1.out hb)
  have D2 := Lib.hid (D1.out.keep hb)
  clear hb A1 D1 d1_0 d1_1 d1_2 d1_z
  obtain ⟨d2_0, d2_1, d2_2, d2_z⟩ := D2.out
  go_wp2_with fail
  refine (H3.out _ (ht.out.below (grow A2.out _))).mono ?_
  rintro e w3 ⟨rfl, hb⟩
  have A3 := Lib.hid (down (grow A2.out _) hb)
  have D3 := Lib.hid ((D2.out.old _).keep hb)
  have X3 := Lib.hid (Box.new hb)
  clear hb A2 D2 d2_0 d2_1 d2_2 d2_z
  obtain ⟨d3_0, d3_1, d3_2, d3_z⟩ := D3.out
  obtain ⟨x3_0, x3_1, x3_2, x3_z⟩ := X3.out
  go_wp2_with fail
  refine (H4.out _ (ht.out.below A3.out)).mono ?_
  rintro e w4 ⟨rfl, hb⟩
  have A4 := Lib.hid (down A3.out hb)
  have D4 := Lib.hid (D3.out.keep hb)
  have X4 := Lib.hid (X3.out.keep hb)
  clear hb A3 D3 X3 d3_0 d3_1 d3_2 d3_z x3_0 x3_1 x3_2 x3_z
  obtain ⟨d4_0, d4_1, d4_2, d4_z⟩ := D4.out
  obtain ⟨x4_0, x4_1, x4_2, x4_z⟩ := X4.out
  go_wp2
  go_ret
  exact ⟨rfl, by first | exact A4.out | exact grow A4.out _ | exact below_drewN A4.out _ | exact grow (grow A4.out _) _ | exact grow (grow (grow A4.out _) _) _⟩
set_option maxRecDepth 100000 in
set_option maxHeartbeats 2000000 in
theorem go_in_no (n y m d : Int) (q1 : decide (-719162 ≤ n) = true) (q2 : decide (n < 2932897) = true) (a b c : Int) (H1 : ∀ w, Tabs w → Calls Try.prog 32 #[.int .i64 n] w fun e w' => e = .returned (.tuple #[.agg #[.int .i64 a, .int .i64 b, .int .i64 c], .int .i64 0]) ∧ Below w.heap.size w w') (H2 : ∀ w, Tabs w → Calls Try.prog 30 #[.agg #[.int .i64 a, .int .i64 b, .int .i64 c]] w fun e w' => e = .returned (.tuple #[.int .i64 n, .int .i64 0]) ∧ Below w.heap.size w w') (H3 : ∀ w, Tabs w → Calls Try.prog 30 #[.agg #[.int .i64 y, .int .i64 m, .int .i64 d]] w fun e w' => e = .returned (.tuple #[.int .i64 0, .int .i64 2]) ∧ Below w.heap.size w w') (w : World) (ht : Tabs w) :
    Calls Try.prog 8 #[.int .i64 n, .agg #[.int .i64 y, .int .i64 m, .int .i64 d]] w fun e w' => e = .returned (.bool true) ∧ Below w.heap.size w w' := by
  have AW := Lib.hid (fun w ht => awake_all w ht)
  replace ht := Lib.hid ht
  replace H1 := Lib.hid H1
  replace H2 := Lib.hid H2
  replace H3 := Lib.hid H3
  go_enter Try.func8, Try.ntmps8
  go_wp2_with fail
  refine (AW.out _ (ht.out.below (grow (here w) _))).mono ?_
  rintro e w1 ⟨rfl, hb⟩
  have A1 := Lib.hid (down (grow (here w) _) hb)
  have D1 := Lib.hid (Box.new hb)
  clear hb
  obtain ⟨d1_0, d1_1, d1_2, d1_z⟩ := D1.out
  go_wp2_with fail
  refine (H1.out _ (ht.out.below A1.out)).mono ?_
  rintro e w2 ⟨rfl, hb⟩
  have A2 := Lib.hid (down A1.out hb)
  have D2 := Lib.hid (D1.out.keep hb)
  clear hb A1 D1 d1_0 d1_1 d1_2 d1_z
  obtain ⟨d2_0, d2_1, d2_2, d2_z⟩ := D2.out
  go_wp2_with fail
  refine (H2.out _ (ht.out.below (grow A2.out _))).mono ?_
  rintro e w3 ⟨rfl, hb⟩
  have A3 := Lib.hid (down (grow A2.out _) hb)
  have D3 := Lib.hid ((D2.out.old _).keep hb)
  have X3 := Lib.hid (Box.new hb)
  clear hb A2 D2 d2_0 d2_1 d2_2 d2_z
  obtain ⟨d3_0, d3_1, d3_2, d3_z⟩ := D3.out
  obtain ⟨x3_0, x3_1, x3_2, x3_z⟩ := X3.out
  go_wp2_with fail
  refine (H3.out _ (ht.out.below A3.out)).mono ?_
  rintro e w4 ⟨rfl, hb⟩
  have A4 := Lib.hid (down A3.out hb)
  have D4 := Lib.hid (D3.out.keep hb)
  have X4 := Lib.hid (X3.out.keep hb)
  clear hb A3 D3 X3 d3_0 d3_1 d3_2 d3_z x3_0 x3_1 x3_2 x3_z
  obtain ⟨d4_0, d4_1, d4_2, d4_z⟩ := D4.out
  obtain ⟨x4_0, x4_1, x4_2, x4_z⟩ := X4.out
  go_wp2
  go_ret
  exact ⟨rfl, by first | exact A4.out | exact grow A4.out _ | exact below_drewN A4.out _ | exact grow (grow A4.out _) _ | exact grow (grow (grow A4.out _) _) _⟩
set_option maxRecDepth 100000 in
set_option maxHeartbeats 2000000 in
theorem go_in_ok (n y m d : Int) (q1 : decide (-719162 ≤ n) = true) (q2 : decide (n < 2932897) = true) (a b c : Int) (H1 : ∀ w, Tabs w → Calls Try.prog 32 #[.int .i64 n] w fun e w' => e = .returned (.tuple #[.agg #[.int .i64 a, .int .i64 b, .int .i64 c], .int .i64 0]) ∧ Below w.heap.size w w') (H2 : ∀ w, Tabs w → Calls Try.prog 30 #[.agg #[.int .i64 a, .int .i64 b, .int .i64 c]] w fun e w' => e = .returned (.tuple #[.int .i64 n, .int .i64 0]) ∧ Below w.heap.size w w') (N : Int) (H3 : ∀ w, Tabs w → Calls Try.prog 30 #[.agg #[.int .i64 y, .int .i64 m, .int .i64 d]] w fun e w' => e = .returned (.tuple #[.int .i64 N, .int .i64 0]) ∧ Below w.heap.size w w') (H4 : ∀ w, Tabs w → Calls Try.prog 32 #[.int .i64 N] w fun e w' => e = .returned (.tuple #[.agg #[.int .i64 y, .int .i64 m, .int .i64 d], .int .i64 0]) ∧ Below w.heap.size w w') (w : World) (ht : Tabs w) :
    Calls Try.prog 8 #[.int .i64 n, .agg #[.int .i64 y, .int .i64 m, .int .i64 d]] w fun e w' => e = .returned (.bool true) ∧ Below w.heap.size w w' := by
  have AW := Lib.hid (fun w ht => awake_all w ht)
  replace ht := Lib.hid ht
  replace H1 := Lib.hid H1
  replace H2 := Lib.hid H2
  replace H3 := Lib.hid H3
  replace H4 := Lib.hid H4
  go_enter Try.func8, Try.ntmps8
  go_wp2_with fail
  refine (AW.out _ (ht.out.below (grow (here w) _))).mono ?_
  rintro e w1 ⟨rfl, hb⟩
  have A1 := Lib.hid (down (grow (here w) _) hb)
  have D1 := Lib.hid (Box.new hb)
  clear hb
  obtain ⟨d1_0, d1_1, d1_2, d1_z⟩ := D1.out
  go_wp2_with fail
  refine (H1.out _ (ht.out.below A1.out)).mono ?_
  rintro e w2 ⟨rfl, hb⟩
  have A2 := Lib.hid (down A1.out hb)
  have D2 := Lib.hid (D1.out.keep hb)
  clear hb A1 D1 d1_0 d1_1 d1_2 d1_z
  obtain ⟨d2_0, d2_1, d2_2, d2_z⟩ := D2.out
  go_wp2_with fail
  refine (H2.out _ (ht.out.below (grow A2.out _))).mono ?_
  rintro e w3 ⟨rfl, hb⟩
  have A3 := Lib.hid (down (grow A2.out _) hb)
  have D3 := Lib.hid ((D2.out.old _).keep hb)
  have X3 := Lib.hid (Box.new hb)
  clear hb A2 D2 d2_0 d2_1 d2_2 d2_z
  obtain ⟨d3_0, d3_1, d3_2, d3_z⟩ := D3.out
  obtain ⟨x3_0, x3_1, x3_2, x3_z⟩ := X3.out
  go_wp2_with fail
  refine (H3.out _ (ht.out.below A3.out)).mono ?_
  rintro e w4 ⟨rfl, hb⟩
  have A4 := Lib.hid (down A3.out hb)
  have D4 := Lib.hid (D3.out.keep hb)
  have X4 := Lib.hid (X3.out.keep hb)
  clear hb A3 D3 X3 d3_0 d3_1 d3_2 d3_z x3_0 x3_1 x3_2 x3_z
  obtain ⟨d4_0, d4_1, d4_2, d4_z⟩ := D4.out
  obtain ⟨x4_0, x4_1, x4_2, x4_z⟩ := X4.out
  go_wp2_with fail
  refine (H4.out _ (ht.out.below A4.out)).mono ?_
  rintro e w5 ⟨rfl, hb⟩
  have A5 := Lib.hid (down A4.out hb)
  have D5 := Lib.hid (D4.out.keep hb)
  have X5 := Lib.hid (X4.out.keep hb)
  clear hb A4 D4 X4 d4_0 d4_1 d4_2 d4_z x4_0 x4_1 x4_2 x4_z
  obtain ⟨d5_0, d5_1, d5_2, d5_z⟩ := D5.out
  obtain ⟨x5_0, x5_1, x5_2, x5_z⟩ := X5.out
  go_wp2
  go_ret
  exact ⟨rfl, by first | exact A5.out | exact grow A5.out _ | exact below_drewN A5.out _ | exact grow (grow A5.out _) _ | exact grow (grow (grow A5.out _) _) _⟩
theorem walk (n y m d : Int) (hn : (Lit.int .i64 n).wf = true) (hy : (Lit.int .i64 y).wf = true) (hm : (Lit.int .i64 m).wf = true) (hd : (Lit.int .i64 d).wf = true) (w : World) (ht : Tabs w) :
    Calls Try.prog 8 #[.int .i64 n, .agg #[.int .i64 y, .int .i64 m, .int .i64 d]] w fun e w' => e = .returned (.bool true) ∧ Below w.heap.size w w' := by
  replace hn := i64_wf hn
  replace hy := i64_wf hy
  replace hm := i64_wf hm
  replace hd := i64_wf hd
  have H3 := fun w ht => uhday y m d hy hm hd w ht
  cases h : hins n
  · have H1 := fun w ht => uhdate_out n hn h w ht
    have h' : ¬ (-719162 ≤ n ∧ n < 2932897) := fun q => by rw [hins_iff.2 q] at h; exact absurd h (by simp)
    rcases hday_fate y m d with ⟨e, q⟩ | ⟨e, q, r, s⟩
    · rw [e, show hdN y m d = 0 by unfold hdN; rw [q]; rfl] at H3
      by_cases z : -719162 ≤ n
      · exact go_high_no n y m d (decide_eq_true z) (decide_eq_false (by omega)) H1 H3 w ht
      · exact go_low_no n y m d (decide_eq_false z) H1 H3 w ht
    · rw [e, s] at H3
      by_cases z : -719162 ≤ n
      · exact go_high_ok n y m d (decide_eq_true z) (decide_eq_false (by omega)) H1 _ H3 (fun w ht => uhdate_yes _ y m d r q rfl w ht) w ht
      · exact go_low_ok n y m d (decide_eq_false z) H1 _ H3 (fun w ht => uhdate_yes _ y m d r q rfl w ht) w ht
  · obtain ⟨a, b, c, hv, he⟩ := hins_date h
    have H1 := fun w ht => uhdate_yes n a b c h hv he w ht
    have bd := hvld_bd hv
    have H2 := fun w ht => uhday a b c ⟨by omega, by omega⟩ ⟨by omega, by omega⟩ ⟨by omega, by omega⟩ w ht
    have ok : hok a b c = true := by unfold hok; rw [hv, he, h]; rfl
    rw [show hdN a b c = n by unfold hdN; rw [ok]; exact he, show hdE a b c = 0 by unfold hdE; rw [ok]; rfl] at H2
    obtain ⟨z0, z1⟩ := hins_iff.1 h
    rcases hday_fate y m d with ⟨e, q⟩ | ⟨e, q, r, s⟩
    · rw [e, show hdN y m d = 0 by unfold hdN; rw [q]; rfl] at H3
      exact go_in_no n y m d (decide_eq_true z0) (decide_eq_true z1) a b c H1 H2 H3 w ht
    · rw [e, s] at H3
      exact go_in_ok n y m d (decide_eq_true z0) (decide_eq_true z1) a b c H1 H2 _ H3 (fun w ht => uhdate_yes _ y m d r q rfl w ht) w ht
end HebrewBack
end Go.Proofs.Ytpkkhkkanpcniaa

/- The walk of JulianFinds: the Go text returns true, at every input. -/
import Derived.Test.YtdhmmfdpfpecmaaDoorJuAwake
namespace Go.Proofs.YtdhmmfdpfpecmaaDoor
open Go.RowKit
set_option linter.unusedVariables false

namespace JulianFinds
set_option maxRecDepth 100000 in
set_option maxHeartbeats 2000000 in
theorem no_day (f n : Int) (hn : I64 n) (h : n < -719162 ∨ 2932897 ≤ n) (w : World) (ht : Tabs w) :
    Calls Tryd.prog 10 #[.int .i64 f, .int .i64 n] w fun e w' => e = .returned (.bool true) ∧ Below w.heap.size w w' := by
  have HR := Lib.hid (fun w => right_no n hn h w)
  clear h
  have AW := Lib.hid (fun w ht => awake_all w ht)
  replace ht := Lib.hid ht
  go_enter Tryd.func10, Tryd.ntmps10
  go_wp2_with fail
  refine (AW.out _ (ht.out.below (here w))).mono ?_
  rintro e w1 ⟨rfl, hb⟩
  have A1 := Lib.hid (down (here w) hb)
  clear hb
  go_wp2_with fail
  refine (HR.out _).mono ?_
  rintro e x1 ⟨rfl, rfl⟩
  go_wp2_with fail
  refine (AW.out _ (ht.out.below A1.out)).mono ?_
  rintro e w2 ⟨rfl, hb⟩
  have A2 := Lib.hid (down A1.out hb)
  clear hb A1
  go_wp2
  go_ret
  exact ⟨rfl, by first | exact A2.out | exact grow A2.out _ | exact below_drewN A2.out _ | exact grow (grow A2.out _) _ | exact grow (grow (grow A2.out _) _) _⟩
set_option maxRecDepth 100000 in
set_option maxHeartbeats 2000000 in
theorem no_low (f n : Int) (hf : I64 f) (r0 : -719162 ≤ n) (r1 : n < 2932897) (h : f < -719162) (w : World) (ht : Tabs w) :
    Calls Tryd.prog 10 #[.int .i64 f, .int .i64 n] w fun e w' => e = .returned (.bool true) ∧ Below w.heap.size w w' := by
  have HR := Lib.hid (fun w => right_yes n r0 r1 w)
  have k1 : decide (f < -719162) = true := decide_eq_true h
  have AW := Lib.hid (fun w ht => awake_all w ht)
  replace ht := Lib.hid ht
  go_enter Tryd.func10, Tryd.ntmps10
  go_wp2_with fail
  refine (AW.out _ (ht.out.below (here w))).mono ?_
  rintro e w1 ⟨rfl, hb⟩
  have A1 := Lib.hid (down (here w) hb)
  clear hb
  go_wp2_with fail
  refine (HR.out _).mono ?_
  rintro e x1 ⟨rfl, rfl⟩
  go_wp2_with fail
  refine (AW.out _ (ht.out.below A1.out)).mono ?_
  rintro e w2 ⟨rfl, hb⟩
  have A2 := Lib.hid (down A1.out hb)
  clear hb A1
  go_wp2
  go_ret
  exact ⟨rfl, by first | exact A2.out | exact grow A2.out _ | exact below_drewN A2.out _ | exact grow (grow A2.out _) _ | exact grow (grow (grow A2.out _) _) _⟩
set_option maxRecDepth 100000 in
set_option maxHeartbeats 2000000 in
theorem no_high (f n : Int) (hf : I64 f) (r0 : -719162 ≤ n) (r1 : n < 2932897) (h : 2932897 < f) (w : World) (ht : Tabs w) :
    Calls Tryd.prog 10 #[.int .i64 f, .int .i64 n] w fun e w' => e = .returned (.bool true) ∧ Below w.heap.size w w' := by
  have HR := Lib.hid (fun w => right_yes n r0 r1 w)
  have k1 : decide (f < -719162) = false := decide_eq_false (by omega)
  have k2 : decide (2932897 < f) = true := decide_eq_true h
  have AW := Lib.hid (fun w ht => awake_all w ht)
  replace ht := Lib.hid ht
  go_enter Tryd.func10, Tryd.ntmps10
  go_wp2_with fail
  refine (AW.out _ (ht.out.below (here w))).mono ?_
  rintro e w1 ⟨rfl, hb⟩
  have A1 := Lib.hid (down (here w) hb)
  clear hb
  go_wp2_with fail
  refine (HR.out _).mono ?_
  rintro e x1 ⟨rfl, rfl⟩
  go_wp2_with fail
  refine (AW.out _ (ht.out.below A1.out)).mono ?_
  rintro e w2 ⟨rfl, hb⟩
  have A2 := Lib.hid (down A1.out hb)
  clear hb A1
  go_wp2
  go_ret
  exact ⟨rfl, by first | exact A2.out | exact grow A2.out _ | exact below_drewN A2.out _ | exact grow (grow A2.out _) _ | exact grow (grow (grow A2.out _) _) _⟩
set_option maxRecDepth 100000 in
set_option maxHeartbeats 2000000 in
theorem yes (f n a b c N O : Int) (f0 : -719162 ≤ f) (f1 : f ≤ 2932897) (r0 : -719162 ≤ n) (r1 : n < 2932897) (q0 : -719162 ≤ N)
    (HX : ∀ w, Calls Tryd.prog 27 #[.agg #[.int .i64 f], .int .i64 n] w fun e w' => e = .returned (.tuple #[.agg #[.int .i64 a, .int .i64 b, .int .i64 c], .int .i64 0]) ∧ Below w.heap.size w w')
    (HM : ∀ w, JLens w → Lens w → Calls Tryd.prog 28 #[.agg #[.int .i64 f], .agg #[.int .i64 a, .int .i64 b, .int .i64 c]] w fun e w' => e = .returned (.tuple #[.int .i64 N, .int .i64 0]) ∧ Below w.heap.size w w')
    (HY : ∀ w, Calls Tryd.prog 27 #[.agg #[.int .i64 f], .int .i64 N] w fun e w' => e = .returned (.tuple #[.agg #[.int .i64 a, .int .i64 b, .int .i64 c], .int .i64 0]) ∧ Below w.heap.size w w')
    (HO : ∀ w, Calls Tryd.prog 23 #[.int .i64 n] w fun e w' => e = .returned (.tuple #[.int .i64 O, .int .i64 0]) ∧ Below w.heap.size w w')
    (kn : decide (n < N) = false) (t : N = n ∨ (N == n) = false ∧ decide (O < 0) = true) (w : World) (ht : Tabs w) :
    Calls Tryd.prog 10 #[.int .i64 f, .int .i64 n] w fun e w' => e = .returned (.bool true) ∧ Below w.heap.size w w' := by
  have HR := Lib.hid (fun w => right_yes n r0 r1 w)
  have HS := Lib.hid (fun w => ujswitch f ⟨by omega, by omega⟩ w)
  have k1 : decide (f < -719162) = false := decide_eq_false (by omega)
  have k2 : decide (2932897 < f) = false := decide_eq_false (by omega)
  have AW := Lib.hid (fun w ht => awake_all w ht)
  replace ht := Lib.hid ht
  replace HX := Lib.hid HX
  replace HM := Lib.hid HM
  replace HY := Lib.hid HY
  replace HO := Lib.hid HO
  rcases t with rfl | ⟨k, k3⟩
  all_goals
    go_enter Tryd.func10, Tryd.ntmps10
    go_wp2_with fail
    refine (AW.out _ (ht.out.below (here w))).mono ?_
    rintro e w1 ⟨rfl, hb⟩
    have A1 := Lib.hid (down (here w) hb)
    clear hb
    go_wp2_with fail
    refine (HR.out _).mono ?_
    rintro e x1 ⟨rfl, rfl⟩
    go_wp2_with fail
    refine (HS.out _).mono ?_
    rintro e w2 ⟨rfl, hb⟩
    have A2 := Lib.hid (down A1.out hb)
    clear hb A1
    go_wp2_with fail
    refine (HX.out _).mono ?_
    rintro e w3 ⟨rfl, hb⟩
    have A3 := Lib.hid (down (grow A2.out _) hb)
    have R3 := Lib.hid (One.new hb)
    clear hb A2
    obtain ⟨r3_0, r3_z⟩ := R3.out
    go_wp2_with fail
    refine (HM.out _ (ht.out.below (grow A3.out _)).jl (ht.out.below (grow A3.out _)).cl).mono ?_
    rintro e w4 ⟨rfl, hb⟩
    have A4 := Lib.hid (down (grow A3.out _) hb)
    have R4 := Lib.hid ((R3.out.old _).keep hb)
    have D4 := Lib.hid (Box.new hb)
    clear hb A3 R3 r3_0 r3_z
    obtain ⟨r4_0, r4_z⟩ := R4.out
    obtain ⟨d4_0, d4_1, d4_2, d4_z⟩ := D4.out
    go_wp2_with fail
    refine (HY.out _).mono ?_
    rintro e w5 ⟨rfl, hb⟩
    have A5 := Lib.hid (down A4.out hb)
    have R5 := Lib.hid (R4.out.keep hb)
    have D5 := Lib.hid (D4.out.keep hb)
    clear hb A4 R4 D4 r4_0 r4_z d4_0 d4_1 d4_2 d4_z
    obtain ⟨r5_0, r5_z⟩ := R5.out
    obtain ⟨d5_0, d5_1, d5_2, d5_z⟩ := D5.out
    go_wp2_with fail
    refine (HO.out _).mono ?_
    rintro e w6 ⟨rfl, hb⟩
    have A6 := Lib.hid (down (grow A5.out _) hb)
    have R6 := Lib.hid ((R5.out.old _).keep hb)
    have D6 := Lib.hid ((D5.out.old _).keep hb)
    have X6 := Lib.hid (Box.new hb)
    clear hb A5 R5 D5 r5_0 r5_z d5_0 d5_1 d5_2 d5_z
    obtain ⟨r6_0, r6_z⟩ := R6.out
    obtain ⟨d6_0, d6_1, d6_2, d6_z⟩ := D6.out
    obtain ⟨x6_0, x6_1, x6_2, x6_z⟩ := X6.out
    go_wp2
    go_ret
    exact ⟨rfl, by first | exact A6.out | exact grow A6.out _ | exact below_drewN A6.out _ | exact grow (grow A6.out _) _ | exact grow (grow (grow A6.out _) _) _⟩
theorem walk (f n : Int) (hf : (Lit.int .i64 f).wf = true) (hn : (Lit.int .i64 n).wf = true) (w : World) (ht : Tabs w) :
    Calls Tryd.prog 10 #[.int .i64 f, .int .i64 n] w fun e w' => e = .returned (.bool true) ∧ Below w.heap.size w w' := by
  replace hf := i64_wf hf
  replace hn := i64_wf hn
  by_cases h : n < -719162 ∨ 2932897 ≤ n
  · exact no_day f n hn h w ht
  · have r0 : -719162 ≤ n := by omega
    have r1 : n < 2932897 := by omega
    by_cases h0 : f < -719162
    · exact no_low f n hf r0 r1 h0 w ht
    · by_cases h1 : 2932897 < f
      · exact no_high f n hf r0 r1 h1 w ht
      · have f0 : -719162 ≤ f := by omega
        have f1 : f ≤ 2932897 := by omega
        obtain ⟨a, b, c, hv, he⟩ := date_of (n := n) (by omega) (by omega)
        obtain ⟨yy, hm⟩ : ∃ yy, b < 3 ∧ yy = a - 1 ∨ 3 ≤ b ∧ yy = a := by
          by_cases k : b < 3
          · exact ⟨_, .inl ⟨k, rfl⟩⟩
          · exact ⟨_, .inr ⟨by omega, rfl⟩⟩
        have HO := fun w => ujoff_yes n a b c yy hv he hm w
        by_cases k : n < f
        · obtain ⟨g, i, j, hj, hz⟩ := jdate_of (n := n) (by omega) (by omega)
          obtain ⟨g0, g1, i0, i1, j0, j1⟩ := jvld_bd hj
          have HX := fun w => ujmixed_low f n g i j 0 f0 f1 hn k (fun w => ujdate_yes n g i j hj hz r0 r1 w) w
          have HM := fun w ht hl => ujmix f g i j hf ⟨by omega, by omega⟩ ⟨by omega, by omega⟩ ⟨by omega, by omega⟩ w ht hl
          have q := mix_julian f0 f1 hj (by omega) (by omega)
          rw [q.1, q.2, hz] at HM
          exact yes f n g i j n _ f0 f1 r0 r1 r0 HX HM HX HO (decide_eq_false (by omega)) (.inl rfl) w ht
        · obtain ⟨a0, a1, b0, b1, c0, c1⟩ := vld_bd hv
          have HX := fun w => ujmixed_high f n a b c 0 f0 f1 hn (by omega) (fun w => cdate_yes n a b c hv he w) w
          have HM := fun w ht hl => ujmix f a b c hf ⟨by omega, by omega⟩ ⟨by omega, by omega⟩ ⟨by omega, by omega⟩ w ht hl
          have q := mix_finds f0 f1 hv hm (by omega)
          rw [q.1] at HM
          rw [he] at q
          rcases q.2 with z | ⟨z, z1, z2, z3, z4⟩
          · rw [z] at HM
            exact yes f n a b c n _ f0 f1 r0 r1 r0 HX HM HX HO (decide_eq_false (by omega)) (.inl rfl) w ht
          · rw [z] at HM
            exact yes f n a b c (jdayN a b c) _ f0 f1 r0 r1 z2 HX HM (fun w => ujmixed_low f _ a b c 0 f0 f1 ⟨by omega, by omega⟩ z1 (fun w => ujdate_yes _ a b c (vld_jvld hv) rfl z2 (by omega) w) w) HO (decide_eq_false (by omega)) (.inr ⟨by simp; omega, decide_eq_true z4⟩) w ht
end JulianFinds
end Go.Proofs.YtdhmmfdpfpecmaaDoor

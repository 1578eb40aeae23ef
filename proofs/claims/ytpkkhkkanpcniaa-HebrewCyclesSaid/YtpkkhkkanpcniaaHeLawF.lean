/- The walk of HebrewCycles: the Go text returns true, at every input. -/
import Derived.Test.YtpkkhkkanpcniaaHeAwake
namespace Go.Proofs.Ytpkkhkkanpcniaa
open Go.RowKit
set_option linter.unusedVariables false

namespace HebrewCycles
set_option maxRecDepth 100000 in
set_option maxHeartbeats 2000000 in
theorem off (y : Int) (hy : I64 y) (t : decide (y < 1) = true ∨ decide (y < 1) = false ∧ decide (19981 < y) = true) (w : World) (ht : Tabs w) :
    Calls Try.prog 12 #[.int .i64 y] w fun e w' => e = .returned (.bool true) ∧ Below w.heap.size w w' := by
  obtain ⟨hy0, hy1⟩ := hy
  have AW := Lib.hid (fun w ht => awake_all w ht)
  replace ht := Lib.hid ht
  rcases t with t | ⟨t, t2⟩
  all_goals
    go_enter Try.func12, Try.ntmps12
    go_wp2_with fail
    refine (AW.out _ (ht.out.below (here w))).mono ?_
    rintro e w1 ⟨rfl, hb⟩
    have A1 := Lib.hid (down (here w) hb)
    clear hb
    go_wp2
    go_ret
    exact ⟨rfl, by first | exact A1.out | exact grow A1.out _ | exact below_drewN A1.out _ | exact grow (grow A1.out _) _ | exact grow (grow (grow A1.out _) _) _⟩
set_option maxRecDepth 100000 in
set_option maxHeartbeats 2000000 in
theorem good (y S T : Int) (y0 : 1 ≤ y) (y1 : y ≤ 19981) (U V : Nat → Int) (B : Nat → Bool) (U0 : U 0 = 0) (V0 : V 0 = 0) (U19 : U 19 = 235) (V19 : V 19 = T - S) (s0 : -3000000 ≤ S) (s1 : S ≤ 6000000) (v0 : 6938 ≤ T - S) (v1 : T - S ≤ 6942)
    (HU : ∀ j : Nat, j < 19 → 0 ≤ U j ∧ U j ≤ 400 ∧ 0 ≤ V j ∧ V j ≤ 8000 ∧ 0 ≤ U (j + 1) - U j ∧ U (j + 1) - U j ≤ 13 ∧ 0 ≤ V (j + 1) - V j ∧ V (j + 1) - V j ≤ 400 ∧ (B j = true ∧ U (j + 1) - U j = 13 ∨ B j = false ∧ U (j + 1) - U j = 12))
    (H1 : ∀ j : Nat, j < 19 → ∀ w, Tabs w → Calls Try.prog 19 #[.int .i64 (y + (j : Int))] w fun e w' => e = .returned (.int .i64 (U (j + 1) - U j)) ∧ Below w.heap.size w w')
    (H2 : ∀ j : Nat, j < 19 → ∀ w, Tabs w → Calls Try.prog 21 #[.int .i64 (y + (j : Int))] w fun e w' => e = .returned (.int .i64 (V (j + 1) - V j)) ∧ Below w.heap.size w w')
    (H3 : ∀ j : Nat, j < 19 → ∀ w, Tabs w → Calls Try.prog 17 #[.int .i64 (y + (j : Int))] w fun e w' => e = .returned (.bool (B j)) ∧ Below w.heap.size w w')
    (H4 : ∀ w, Tabs w → Calls Try.prog 16 #[.int .i64 y] w fun e w' => e = .returned (.tuple #[.int .i64 S, .int .i64 0]) ∧ Below w.heap.size w w')
    (H5 : ∀ w, Tabs w → Calls Try.prog 16 #[.int .i64 (y + 19)] w fun e w' => e = .returned (.tuple #[.int .i64 T, .int .i64 0]) ∧ Below w.heap.size w w') (w : World) (ht : Tabs w) :
    Calls Try.prog 12 #[.int .i64 y] w fun e w' => e = .returned (.bool true) ∧ Below w.heap.size w w' := by
  have q1 : decide (y < 1) = false := decide_eq_false (by omega)
  have q2 : decide (19981 < y) = false := decide_eq_false (by omega)
  have AW := Lib.hid (fun w ht => awake_all w ht)
  replace ht := Lib.hid ht
  replace U0 := Lib.hid U0
  replace V0 := Lib.hid V0
  replace U19 := Lib.hid U19
  replace V19 := Lib.hid V19
  replace HU := Lib.hid HU
  replace H1 := Lib.hid H1
  replace H2 := Lib.hid H2
  replace H3 := Lib.hid H3
  replace H4 := Lib.hid H4
  replace H5 := Lib.hid H5
  go_enter Try.func12, Try.ntmps12
  go_wp2_with fail
  refine (AW.out _ (ht.out.below (here w))).mono ?_
  rintro e w1 ⟨rfl, hb⟩
  have A1 := Lib.hid (down (here w) hb)
  clear hb
  go_wp2
  go_loopw [3, 4, 5, 6] (fun a b c d wr => ∃ j : Nat, j ≤ 19 ∧ a = .int .i64 (U j) ∧ b = .int .i64 (U j - 12 * (j : Int)) ∧ c = .int .i64 (V j) ∧ d = .int .i64 (y + (j : Int)) ∧ Hid (0 ≤ U j - 12 * (j : Int) ∧ U j - 12 * (j : Int) ≤ j) ∧ Hid (Below w.heap.size w wr)) (fun _ _ _ d _ => (y + 19 - intOf d).toNat)
  case atStart => exact ⟨0, by omega, by rw [U0.out], by rw [U0.out]; rfl, by rw [V0.out], by go_num, by show _ ∧ _; rw [U0.out]; omega, A1⟩
  case round =>
    obtain ⟨j, hj, rfl, rfl, rfl, rfl, HL, HA⟩ := hrel
    by_cases z : j < 19
    · have kz : decide (y + (j : Int) < y + 19) = true := decide_eq_true (by omega)
      obtain ⟨u0, u1, v2, v3, d0, d1, e0, e1, br⟩ := HU.out j z
      have G1 := Lib.hid (fun w ht => H1.out j z w ht)
      have G2 := Lib.hid (fun w ht => H2.out j z w ht)
      have G3 := Lib.hid (fun w ht => H3.out j z w ht)
      obtain ⟨l0, l1⟩ := HL.out
      clear H1 H2 H3 H4 H5 HU HL U0 V0 U19 V19
      generalize hp : U (j + 1) = p at *
      generalize hq : V (j + 1) = q at *
      generalize hu : U j = u at *
      generalize hv : V j = v at *
      generalize hB : B j = bb at *
      obtain ⟨dd, hdd⟩ : ∃ dd, p - u = dd := ⟨_, rfl⟩
      obtain ⟨ee, hee⟩ : ∃ ee, q - v = ee := ⟨_, rfl⟩
      rw [hdd] at d0 d1 br G1
      rw [hee] at e0 e1 G2
      obtain ⟨ll, hll⟩ : ∃ ll, u - 12 * (j : Int) = ll := ⟨_, rfl⟩
      rw [hll] at l0 l1
      have hp' := Lib.hid hp
      have hq' := Lib.hid hq
      have hdd' := Lib.hid hdd
      have hee' := Lib.hid hee
      have hll' := Lib.hid hll
      simp only [hll]
      clear hp hq hu hv hB hdd hee hll
      rcases br with ⟨rfl, f⟩ | ⟨rfl, f⟩
      all_goals
        replace f := Lib.hid f
        go_wp2_with fail
        refine (G1.out _ (ht.out.below HA.out)).mono ?_
        rintro e w3 ⟨rfl, hb⟩
        have A3 := Lib.hid (down HA.out hb)
        clear hb HA
        go_wp2_with fail
        refine (G2.out _ (ht.out.below A3.out)).mono ?_
        rintro e w4 ⟨rfl, hb⟩
        have A4 := Lib.hid (down A3.out hb)
        clear hb A3
        go_wp2_with fail
        refine (G3.out _ (ht.out.below A4.out)).mono ?_
        rintro e w5 ⟨rfl, hb⟩
        have A5 := Lib.hid (down A4.out hb)
        clear hb A4
        go_wp2
        go_roundw
        case rel =>
          have x1 := hp'.out
          have x2 := hq'.out
          have x3 := hdd'.out
          have x4 := hee'.out
          have x5 := hll'.out
          have x6 := f.out
          refine ⟨j + 1, z, ?_, ?_, ?_, by go_num, by show _ ∧ _; rw [x1]; omega, A5⟩
          · rw [x1]; congr 1; omega
          · rw [x1]; congr 1; omega
          · rw [x2]; congr 1; omega
        case measure => simp [intOf]; omega
    · obtain rfl : j = 19 := by omega
      have kz : decide (y + ((19 : Nat) : Int) < y + 19) = false := decide_eq_false (by omega)
      rw [U19.out, V19.out]
      clear H1 H2 H3 HU HL U0 V0 U19 V19
      have u3 : decide (6938 ≤ T - S) = true := decide_eq_true v0
      have u4 : decide (T - S ≤ 6942) = true := decide_eq_true v1
      go_wp2_with fail
      refine (H4.out _ (ht.out.below HA.out)).mono ?_
      rintro e w3 ⟨rfl, hb⟩
      have A3 := Lib.hid (down HA.out hb)
      clear hb HA
      go_wp2_with fail
      refine (H5.out _ (ht.out.below A3.out)).mono ?_
      rintro e w4 ⟨rfl, hb⟩
      have A4 := Lib.hid (down A3.out hb)
      clear hb A3
      go_wp2
      go_ret
      exact ⟨rfl, A4.out⟩
theorem walk (y : Int) (hy : (Lit.int .i64 y).wf = true) (w : World) (ht : Tabs w) :
    Calls Try.prog 12 #[.int .i64 y] w fun e w' => e = .returned (.bool true) ∧ Below w.heap.size w w' := by
  replace hy := i64_wf hy
  by_cases z0 : y < 1
  · exact off y hy (.inl (decide_eq_true z0)) w ht
  · by_cases z1 : 19981 < y
    · exact off y hy (.inr ⟨decide_eq_false z0, decide_eq_true z1⟩) w ht
    · have c := hcycle y
      have a := hN_bd (y := y) (by omega) (by omega)
      have hyj : ∀ j : Nat, j < 19 → hyr (y + (j : Int)) = true := fun j hj => hyr_iff.2 ⟨by omega, by omega⟩
      have n2 := fun w ht => uhnew (y + 19) ⟨by omega, by omega⟩ w ht
      have ry := hyr_iff.2 (show 1 ≤ y ∧ y ≤ 20000 by omega)
      have ry2 := hyr_iff.2 (show 1 ≤ y + 19 ∧ y + 19 ≤ 20000 by omega)
      rw [show hnwN (y + 19) = hN (y + 19) by unfold hnwN; rw [ry2]; rfl, show hyE (y + 19) = 0 by unfold hyE; rw [ry2]; rfl] at n2
      have n1 := fun w ht => uhnew y hy w ht
      rw [show hnwN y = hN y by unfold hnwN; rw [ry]; rfl, show hyE y = 0 by unfold hyE; rw [ry]; rfl] at n1
      have sM : ∀ j : Nat, hM (y + ((j + 1 : Nat) : Int)) - hM y - (hM (y + (j : Int)) - hM y) = hk (hlp (y + (j : Int))) := fun j => by
        have := hM_succ (y + (j : Int))
        rw [show y + ((j + 1 : Nat) : Int) = y + (j : Int) + 1 by omega]; omega
      have sN : ∀ j : Nat, hN (y + ((j + 1 : Nat) : Int)) - hN y - (hN (y + (j : Int)) - hN y) = hyl (y + (j : Int)) := fun j => by
        unfold hyl
        rw [show y + ((j + 1 : Nat) : Int) = y + (j : Int) + 1 by omega]; omega
      have mM : ∀ j : Nat, j ≤ 19 → 0 ≤ hM (y + (j : Int)) - hM y ∧ hM (y + (j : Int)) - hM y ≤ 400 := fun j hj => by unfold hM; omega
      refine good y (hN y) (hN (y + 19)) (by omega) (by omega) (fun j => hM (y + (j : Int)) - hM y) (fun j => hN (y + (j : Int)) - hN y) (fun j => hlp (y + (j : Int))) (by simp) (by simp) (by show hM (y + 19) - hM y = 235; omega) (by show hN (y + 19) - hN y = _; rfl) (by omega) (by omega) (by omega) (by omega) (fun j hj => ?_) (fun j hj w ht => ?_) (fun j hj w ht => ?_) (fun j hj w ht => ?_) n1 n2 w ht
      · have m := mM j (by omega)
        have n := hN_le (y := y) (z := y + (j : Int)) (by omega)
        have n' := hN_le (y := y + (j : Int)) (z := y + 19) (by omega)
        have s1 := sM j
        have s2 := sN j
        have b := hyl_bd (y + (j : Int))
        rw [s1, s2]
        refine ⟨m.1, m.2, by omega, by omega, ?_, ?_, by omega, by omega, ?_⟩
        · cases hlp (y + (j : Int)) <;> decide
        · cases hlp (y + (j : Int)) <;> decide
        · cases hlp (y + (j : Int))
          · exact .inr ⟨rfl, rfl⟩
          · exact .inl ⟨rfl, rfl⟩
      · have q := uhmonths (y + (j : Int)) ⟨by omega, by omega⟩ w ht
        rw [show hmn (y + (j : Int)) = hM (y + ((j + 1 : Nat) : Int)) - hM y - (hM (y + (j : Int)) - hM y) by rw [sM j]; unfold hmn hk; rw [if_pos (hyj j hj)]] at q
        exact q
      · have q := uhyl (y + (j : Int)) ⟨by omega, by omega⟩ w ht
        rw [show hylN (y + (j : Int)) = hN (y + ((j + 1 : Nat) : Int)) - hN y - (hN (y + (j : Int)) - hN y) by rw [sN j]; unfold hylN; rw [if_pos (hyj j hj)]] at q
        exact q
      · have q := uhleap (y + (j : Int)) ⟨by omega, by omega⟩ w ht
        rw [hyj j hj, Bool.true_and] at q
        exact q
end HebrewCycles
end Go.Proofs.Ytpkkhkkanpcniaa

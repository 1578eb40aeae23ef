/- Contracts of package hebrew: years, months, new years, conjunctions. -/
import Derived.Test.YtpkkhkkanpcniaaHeE
import Derived.Test.YtpkkhkkanpcniaaLIntA
namespace Go.Proofs.Ytpkkhkkanpcniaa
open Go.RowKit
set_option linter.unusedVariables false

/-- What the package's variables hold. -/
structure Tabs (w : World) : Prop where
  any : True
theorem Tabs.below {w w' : World} (h : Tabs w) (hb : Below w.heap.size w w') : Tabs w' := ⟨trivial⟩
def helN (y : Int) : Int := if hyr y then hE y else 0
def hnwN (y : Int) : Int := if hyr y then hN y else 0
def hyE (y : Int) : Int := if hyr y then 0 else 2
theorem xfl (a b : Int) (ha : I64 a) (b0 : 0 < b) (b1 : b ≤ 9223372036854775807) (w : World) :
    Calls Try.prog 58 #[.int .i64 a, .int .i64 b] w fun e w' => e = .returned (.int .i64 (a / b)) ∧ Below w.heap.size w w' := by
  have h := floor_all a b ha.1 ha.2 (by omega) (by omega) w
  rw [dQ_pos b0] at h
  exact h.mono fun _ _ ⟨he, n, hw⟩ => ⟨he, by rw [hw]; exact below_drewN (here _) n⟩
theorem xmd (a b : Int) (ha : I64 a) (b0 : 0 < b) (b1 : b ≤ 9223372036854775807) (w : World) :
    Calls Try.prog 42 #[.int .i64 a, .int .i64 b] w fun e w' => e = .returned (.int .i64 (a % b)) ∧ Below w.heap.size w w' := by
  have h := mod_all a b ha.1 ha.2 (by omega) (by omega) w
  rw [dR_pos b0] at h
  exact h.mono fun _ _ ⟨he, n, hw⟩ => ⟨he, by rw [hw]; exact below_drewN (here _) n⟩
theorem xdv (a b : Int) (ha : I64 a) (b0 : 0 < b) (b1 : b ≤ 146097) (w : World) :
    Calls Try.prog 49 #[.int .i64 a, .int .i64 b] w fun e w' => e = .returned (.tuple #[.int .i64 (a / b), .int .i64 (a % b), .int .i64 0]) ∧ Below w.heap.size w w' :=
  (cdiv a b ha b0 b1 w).mono fun _ _ ⟨he, n, hw⟩ => ⟨he, by rw [hw]; exact below_drewN (here _) n⟩
theorem xyr (y : Int) (hy : I64 y) (w : World) :
    Calls Try.prog 39 #[.int .i64 y] w fun e w' => e = .returned (.bool (hyr y)) ∧ w = w' := by
  obtain ⟨h0, h1⟩ := hy
  have e : hyr y = (decide (1 ≤ y) && decide (y ≤ 20000)) := by unfold hyr; simp
  rw [e]
  obtain ⟨a, ha⟩ : ∃ a, decide (1 ≤ y) = a := ⟨_, rfl⟩
  obtain ⟨b, hb⟩ : ∃ a, decide (y ≤ 20000) = a := ⟨_, rfl⟩
  rw [ha, hb]
  cases a <;> cases b
  all_goals
    go_enter Try.func39, Try.ntmps39
    go_wp2
    go_ret
    exact ⟨rfl, rfl⟩
theorem xdy (y : Int) (hy : I64 y) (w : World) :
    Calls Try.prog 52 #[.int .i64 y] w fun e w' => e = .returned (.bool (hins y)) ∧ w = w' := by
  obtain ⟨h0, h1⟩ := hy
  have e : hins y = (decide (-719162 ≤ y) && decide (y < 2932897)) := by unfold hins; simp
  rw [e]
  obtain ⟨a, ha⟩ : ∃ a, decide (-719162 ≤ y) = a := ⟨_, rfl⟩
  obtain ⟨b, hb⟩ : ∃ a, decide (y < 2932897) = a := ⟨_, rfl⟩
  rw [ha, hb]
  cases a <;> cases b
  all_goals
    go_enter Try.func52, Try.ntmps52
    go_wp2
    go_ret
    exact ⟨rfl, rfl⟩
set_option maxRecDepth 100000 in
set_option maxHeartbeats 1000000 in
theorem xlp (y : Int) (hy : I64 y) (w : World) :
    Calls Try.prog 17 #[.int .i64 y] w fun e w' => e = .returned (.bool (hyr y && hlp y)) ∧ Below w.heap.size w w' := by
  have HY := fun w => xyr y hy w
  cases h : hyr y
  · rw [h] at HY
    replace HY := Lib.hid HY
    rw [Bool.false_and]
    clear h
    go_enter Try.func17, Try.ntmps17
    go_wp2_with fail
    refine (HY.out _).mono ?_
    rintro e x1 ⟨rfl, rfl⟩
    go_wp2
    go_ret
    exact ⟨rfl, by first | exact (here w) | exact grow (here w) _ | exact below_drewN (here w) _ | exact grow (grow (here w) _) _ | exact grow (grow (grow (here w) _) _) _⟩
  · rw [h] at HY
    replace HY := Lib.hid HY
    rw [Bool.true_and]
    obtain ⟨y0, y1⟩ := hyr_iff.1 h
    have HM := Lib.hid (fun w => xmd (7 * y + 1) 19 ⟨by omega, by omega⟩ (by omega) (by omega) w)
    have e : hlp y = decide ((7 * y + 1) % 19 < 7) := rfl
    rw [e]
    have rb : 0 ≤ (7 * y + 1) % 19 ∧ (7 * y + 1) % 19 ≤ 18 := by omega
    generalize (7 * y + 1) % 19 = r at *
    obtain ⟨r0, r1⟩ := rb
    clear e h
    go_enter Try.func17, Try.ntmps17
    go_wp2_with fail
    refine (HY.out _).mono ?_
    rintro e x1 ⟨rfl, rfl⟩
    go_wp2_with fail
    refine (HM.out _).mono ?_
    rintro e w1 ⟨rfl, hb⟩
    have A1 := Lib.hid (down (here w) hb)
    clear hb
    go_wp2
    go_ret
    exact ⟨rfl, by first | exact A1.out | exact grow A1.out _ | exact below_drewN A1.out _ | exact grow (grow A1.out _) _ | exact grow (grow (grow A1.out _) _) _⟩
set_option maxRecDepth 100000 in
set_option maxHeartbeats 1000000 in
theorem xmn (y : Int) (hy : I64 y) (w : World) :
    Calls Try.prog 19 #[.int .i64 y] w fun e w' => e = .returned (.int .i64 (hmn y)) ∧ Below w.heap.size w w' := by
  have HY := fun w => xyr y hy w
  have HL := fun w => xlp y hy w
  cases h : hyr y
  · rw [h] at HY
    replace HY := Lib.hid HY
    rw [hmn_out h]
    clear h HL
    go_enter Try.func19, Try.ntmps19
    go_wp2_with fail
    refine (HY.out _).mono ?_
    rintro e x1 ⟨rfl, rfl⟩
    go_wp2
    go_ret
    exact ⟨rfl, by first | exact (here w) | exact grow (here w) _ | exact below_drewN (here w) _ | exact grow (grow (here w) _) _ | exact grow (grow (grow (here w) _) _) _⟩
  · rw [h] at HY HL
    replace HY := Lib.hid HY
    rcases hmn_in h with ⟨a, b⟩ | ⟨a, b⟩
    all_goals
      rw [a] at HL
      rw [b]
      simp only [Bool.true_and] at HL
      replace HL := Lib.hid HL
      clear a b h
      go_enter Try.func19, Try.ntmps19
      go_wp2_with fail
      refine (HY.out _).mono ?_
      rintro e x1 ⟨rfl, rfl⟩
      go_wp2_with fail
      refine (HL.out _).mono ?_
      rintro e w1 ⟨rfl, hb⟩
      have A1 := Lib.hid (down (here w) hb)
      clear hb
      go_wp2
      go_ret
      exact ⟨rfl, by first | exact A1.out | exact grow A1.out _ | exact below_drewN A1.out _ | exact grow (grow A1.out _) _ | exact grow (grow (grow A1.out _) _) _⟩
set_option maxRecDepth 100000 in
set_option maxHeartbeats 1000000 in
theorem xbf (y : Int) (y0 : -10 ≤ y) (y1 : y ≤ 100000) (w : World) :
    Calls Try.prog 48 #[.int .i64 y] w fun e w' => e = .returned (.int .i64 (hM y)) ∧ Below w.heap.size w w' := by
  have HF := Lib.hid (fun w => xfl (235 * (y - 1) + 1) 19 ⟨by omega, by omega⟩ (by omega) (by omega) w)
  have e : hM y = (235 * (y - 1) + 1) / 19 := by unfold hM; omega
  rw [e]
  generalize (235 * (y - 1) + 1) / 19 = r at *
  clear e
  go_enter Try.func48, Try.ntmps48
  go_wp2_with fail
  refine (HF.out _).mono ?_
  rintro e w1 ⟨rfl, hb⟩
  have A1 := Lib.hid (down (here w) hb)
  clear hb
  go_wp2
  go_ret
  exact ⟨rfl, by first | exact A1.out | exact grow A1.out _ | exact below_drewN A1.out _ | exact grow (grow A1.out _) _ | exact grow (grow (grow A1.out _) _) _⟩
set_option maxRecDepth 100000 in
set_option maxHeartbeats 1000000 in
theorem xel (y : Int) (y0 : -10 ≤ y) (y1 : y ≤ 100000) (w : World) :
    Calls Try.prog 40 #[.int .i64 y] w fun e w' => e = .returned (.int .i64 (hE y)) ∧ Below w.heap.size w w' := by
  have HM := Lib.hid (fun w => xbf y y0 y1 w)
  have mb := hM_bd y0 y1
  have e : hE y = hP (29 * hM y + (12084 + 13753 * hM y) / 25920) := rfl
  rw [e]
  clear e
  generalize hM y = m at *
  obtain ⟨m0, m1⟩ := mb
  have HF := Lib.hid (fun w => xfl (12084 + 13753 * m) 25920 ⟨by omega, by omega⟩ (by omega) (by omega) w)
  have fb : -200 ≤ (12084 + 13753 * m) / 25920 ∧ (12084 + 13753 * m) / 25920 ≤ 700000 := by omega
  generalize (12084 + 13753 * m) / 25920 = f at *
  obtain ⟨f0, f1⟩ := fb
  obtain ⟨d, hd⟩ : ∃ d, 29 * m + f = d := ⟨_, rfl⟩
  rw [hd]
  have db : -9000 ≤ d ∧ d ≤ 39000000 := by omega
  obtain ⟨db0, db1⟩ := db
  have HR := Lib.hid (fun w => xmd (3 * (d + 1)) 7 ⟨by omega, by omega⟩ (by omega) (by omega) w)
  have hp : hP d = if 3 * (d + 1) % 7 < 3 then d + 1 else d := rfl
  rw [hp]
  have rb : 0 ≤ 3 * (d + 1) % 7 ∧ 3 * (d + 1) % 7 ≤ 6 := by omega
  generalize 3 * (d + 1) % 7 = r at *
  obtain ⟨rb0, rb1⟩ := rb
  clear hp
  by_cases z : r < 3
  · rw [if_pos z]
    have kz : decide (r < 3) = true := decide_eq_true z
    go_enter Try.func40, Try.ntmps40
    go_wp2_with fail
    refine (HM.out _).mono ?_
    rintro e w1 ⟨rfl, hb⟩
    have A1 := Lib.hid (down (here w) hb)
    clear hb
    go_wp2_with fail
    refine (HF.out _).mono ?_
    rintro e w2 ⟨rfl, hb⟩
    have A2 := Lib.hid (down A1.out hb)
    clear hb A1
    go_wp2_with fail
    refine (HR.out _).mono ?_
    rintro e w3 ⟨rfl, hb⟩
    have A3 := Lib.hid (down A2.out hb)
    clear hb A2
    go_wp2
    go_ret
    exact ⟨rfl, by first | exact A3.out | exact grow A3.out _ | exact below_drewN A3.out _ | exact grow (grow A3.out _) _ | exact grow (grow (grow A3.out _) _) _⟩
  · rw [if_neg z]
    have kz : decide (r < 3) = false := decide_eq_false z
    go_enter Try.func40, Try.ntmps40
    go_wp2_with fail
    refine (HM.out _).mono ?_
    rintro e w1 ⟨rfl, hb⟩
    have A1 := Lib.hid (down (here w) hb)
    clear hb
    go_wp2_with fail
    refine (HF.out _).mono ?_
    rintro e w2 ⟨rfl, hb⟩
    have A2 := Lib.hid (down A1.out hb)
    clear hb A1
    go_wp2_with fail
    refine (HR.out _).mono ?_
    rintro e w3 ⟨rfl, hb⟩
    have A3 := Lib.hid (down A2.out hb)
    clear hb A2
    go_wp2
    go_ret
    exact ⟨rfl, by first | exact A3.out | exact grow A3.out _ | exact below_drewN A3.out _ | exact grow (grow A3.out _) _ | exact grow (grow (grow A3.out _) _) _⟩
set_option maxRecDepth 100000 in
set_option maxHeartbeats 1000000 in
theorem xnw (y : Int) (y0 : -5 ≤ y) (y1 : y ≤ 90000) (w : World) :
    Calls Try.prog 41 #[.int .i64 y] w fun e w' => e = .returned (.int .i64 (hN y)) ∧ Below w.heap.size w w' := by
  have H1 := Lib.hid (fun w => xel y (by omega) (by omega) w)
  have H2 := Lib.hid (fun w => xel (y + 1) (by omega) (by omega) w)
  have H0 := Lib.hid (fun w => xel (y - 1) (by omega) (by omega) w)
  have b0 := hE_bd (y := y - 1) (by omega) (by omega)
  have b1 := hE_bd (y := y) (by omega) (by omega)
  have b2 := hE_bd (y := y + 1) (by omega) (by omega)
  have e : hN y = -2092590 + (hE y + hc (hE (y - 1)) (hE y) (hE (y + 1))) := by unfold hN; omega
  rw [e]
  clear e
  generalize hE (y - 1) = a at *
  generalize hE y = b at *
  generalize hE (y + 1) = c at *
  obtain ⟨b00, b01⟩ := b0
  obtain ⟨b10, b11⟩ := b1
  obtain ⟨b20, b21⟩ := b2
  unfold hc
  by_cases z : c - b = 356
  · rw [if_pos z]
    have kz : (c - b == 356) = true := by simpa using z
    clear z
    go_enter Try.func41, Try.ntmps41
    go_wp2_with fail
    refine (H1.out _).mono ?_
    rintro e w1 ⟨rfl, hb⟩
    have A1 := Lib.hid (down (here w) hb)
    clear hb
    go_wp2_with fail
    refine (H2.out _).mono ?_
    rintro e w2 ⟨rfl, hb⟩
    have A2 := Lib.hid (down A1.out hb)
    clear hb A1
    go_wp2
    go_ret
    exact ⟨rfl, by first | exact A2.out | exact grow A2.out _ | exact below_drewN A2.out _ | exact grow (grow A2.out _) _ | exact grow (grow (grow A2.out _) _) _⟩
  · rw [if_neg z]
    have kz : (c - b == 356) = false := by simpa using z
    clear z
    by_cases z2 : b - a = 382
    · rw [if_pos z2]
      have kz2 : (b - a == 382) = true := by simpa using z2
      clear z2
      go_enter Try.func41, Try.ntmps41
      go_wp2_with fail
      refine (H1.out _).mono ?_
      rintro e w1 ⟨rfl, hb⟩
      have A1 := Lib.hid (down (here w) hb)
      clear hb
      go_wp2_with fail
      refine (H2.out _).mono ?_
      rintro e w2 ⟨rfl, hb⟩
      have A2 := Lib.hid (down A1.out hb)
      clear hb A1
      go_wp2_with fail
      refine (H0.out _).mono ?_
      rintro e w3 ⟨rfl, hb⟩
      have A3 := Lib.hid (down A2.out hb)
      clear hb A2
      go_wp2
      go_ret
      exact ⟨rfl, by first | exact A3.out | exact grow A3.out _ | exact below_drewN A3.out _ | exact grow (grow A3.out _) _ | exact grow (grow (grow A3.out _) _) _⟩
    · rw [if_neg z2, Int.add_zero]
      have kz2 : (b - a == 382) = false := by simpa using z2
      clear z2
      go_enter Try.func41, Try.ntmps41
      go_wp2_with fail
      refine (H1.out _).mono ?_
      rintro e w1 ⟨rfl, hb⟩
      have A1 := Lib.hid (down (here w) hb)
      clear hb
      go_wp2_with fail
      refine (H2.out _).mono ?_
      rintro e w2 ⟨rfl, hb⟩
      have A2 := Lib.hid (down A1.out hb)
      clear hb A1
      go_wp2_with fail
      refine (H0.out _).mono ?_
      rintro e w3 ⟨rfl, hb⟩
      have A3 := Lib.hid (down A2.out hb)
      clear hb A2
      go_wp2
      go_ret
      exact ⟨rfl, by first | exact A3.out | exact grow A3.out _ | exact below_drewN A3.out _ | exact grow (grow A3.out _) _ | exact grow (grow (grow A3.out _) _) _⟩
set_option maxRecDepth 100000 in
set_option maxHeartbeats 1000000 in
theorem xyl (y : Int) (hy : I64 y) (w : World) :
    Calls Try.prog 21 #[.int .i64 y] w fun e w' => e = .returned (.int .i64 (hylN y)) ∧ Below w.heap.size w w' := by
  have HY := fun w => xyr y hy w
  unfold hylN
  cases h : hyr y
  · rw [h] at HY
    replace HY := Lib.hid HY
    simp only [Bool.false_eq_true, if_false]
    clear h
    go_enter Try.func21, Try.ntmps21
    go_wp2_with fail
    refine (HY.out _).mono ?_
    rintro e x1 ⟨rfl, rfl⟩
    go_wp2
    go_ret
    exact ⟨rfl, by first | exact (here w) | exact grow (here w) _ | exact below_drewN (here w) _ | exact grow (grow (here w) _) _ | exact grow (grow (grow (here w) _) _) _⟩
  · rw [h] at HY
    replace HY := Lib.hid HY
    obtain ⟨y0, y1⟩ := hyr_iff.1 h
    simp only [if_true]
    have H1 := Lib.hid (fun w => xnw (y + 1) (by omega) (by omega) w)
    have H0 := Lib.hid (fun w => xnw y (by omega) (by omega) w)
    have b0 := hN_any (y := y) (by omega) (by omega)
    have b1 := hN_any (y := y + 1) (by omega) (by omega)
    have e : hyl y = hN (y + 1) - hN y := rfl
    rw [e]
    generalize hN y = a at *
    generalize hN (y + 1) = b at *
    obtain ⟨b00, b01⟩ := b0
    obtain ⟨b10, b11⟩ := b1
    clear e h
    go_enter Try.func21, Try.ntmps21
    go_wp2_with fail
    refine (HY.out _).mono ?_
    rintro e x1 ⟨rfl, rfl⟩
    go_wp2_with fail
    refine (H1.out _).mono ?_
    rintro e w1 ⟨rfl, hb⟩
    have A1 := Lib.hid (down (here w) hb)
    clear hb
    go_wp2_with fail
    refine (H0.out _).mono ?_
    rintro e w2 ⟨rfl, hb⟩
    have A2 := Lib.hid (down A1.out hb)
    clear hb A1
    go_wp2
    go_ret
    exact ⟨rfl, by first | exact A2.out | exact grow A2.out _ | exact below_drewN A2.out _ | exact grow (grow A2.out _) _ | exact grow (grow (grow A2.out _) _) _⟩
set_option maxRecDepth 100000 in
set_option maxHeartbeats 1000000 in
theorem xvm (y m : Int) (hy : I64 y) (hm : I64 m) (w : World) :
    Calls Try.prog 47 #[.int .i64 y, .int .i64 m] w fun e w' => e = .returned (.bool (hmolB y m)) ∧ Below w.heap.size w w' := by
  have HM := Lib.hid (fun w => xmn y hy w)
  have nb := hmn_bd y
  have e : hmolB y m = (decide (1 ≤ m) && decide (m ≤ hmn y)) := by unfold hmolB; simp
  rw [e]
  clear e
  generalize hmn y = n at *
  obtain ⟨nb0, nb1⟩ := nb
  obtain ⟨hm0, hm1⟩ := hm
  cases a : decide (1 ≤ m)
  · rw [Bool.false_and]
    go_enter Try.func47, Try.ntmps47
    go_wp2
    go_ret
    exact ⟨rfl, by first | exact (here w) | exact grow (here w) _ | exact below_drewN (here w) _ | exact grow (grow (here w) _) _ | exact grow (grow (grow (here w) _) _) _⟩
  · rw [Bool.true_and]
    go_enter Try.func47, Try.ntmps47
    go_wp2_with fail
    refine (HM.out _).mono ?_
    rintro e w1 ⟨rfl, hb⟩
    have A1 := Lib.hid (down (here w) hb)
    clear hb
    go_wp2
    go_ret
    exact ⟨rfl, by first | exact A1.out | exact grow A1.out _ | exact below_drewN A1.out _ | exact grow (grow A1.out _) _ | exact grow (grow (grow A1.out _) _) _⟩
set_option maxRecDepth 100000 in
set_option maxHeartbeats 1000000 in
theorem xlen (y m : Int) (hy : I64 y) (hm : I64 m) (w : World) :
    Calls Try.prog 28 #[.int .i64 y, .int .i64 m] w fun e w' => e = .returned (.int .i64 (hlenM y m)) ∧ Below w.heap.size w w' := by
  have HV := fun w => xvm y m hy hm w
  cases h : hmolB y m
  · have e : hlenM y m = 0 := by
      unfold hlenM; unfold hmolB at h
      rw [if_pos]
      have := of_decide_eq_false h; omega
    rw [e]
    rw [h] at HV
    replace HV := Lib.hid HV
    clear e h
    obtain ⟨hm0, hm1⟩ := hm
    go_enter Try.func28, Try.ntmps28
    go_wp2_with fail
    refine (HV.out _).mono ?_
    rintro e w1 ⟨rfl, hb⟩
    have A1 := Lib.hid (down (here w) hb)
    clear hb
    go_wp2
    go_ret
    exact ⟨rfl, by first | exact A1.out | exact grow A1.out _ | exact below_drewN A1.out _ | exact grow (grow A1.out _) _ | exact grow (grow (grow A1.out _) _) _⟩
  · have hh : 1 ≤ m ∧ m ≤ hmn y := by unfold hmolB at h; exact of_decide_eq_true h
    obtain ⟨m0, m1⟩ := hh
    rw [h] at HV
    replace HV := Lib.hid HV
    have hyt : hyr y = true := by
      cases z : hyr y
      · rw [hmn_out z] at m1; omega
      · rfl
    have HL := fun w => xyl y hy w
    rw [show hylN y = hyl y by unfold hylN; rw [if_pos hyt]] at HL
    replace HL := Lib.hid HL
    have HP := fun w => xlp y hy w
    rw [hyt] at HP
    simp only [Bool.true_and] at HP
    have nb := hmn_bd y
    have lb := hyl_bd y
    rw [hlenM_at hyt m0 m1]
    obtain ⟨lb0, lb1⟩ := lb
    have mc : m = 1 ∨ m = 2 ∨ m = 3 ∨ m = 4 ∨ m = 5 ∨ m = 6 ∨ m = 7 ∨ m = 8 ∨ m = 9 ∨ m = 10 ∨ m = 11 ∨ m = 12 ∨ m = 13 := by omega
    clear m0 m1 hm hyt nb h
    generalize hyl y = l at *
    generalize hlp y = b at *
    obtain ⟨r, hr⟩ : ∃ r, l % 10 = r := ⟨_, rfl⟩
    by_cases c12 : m = 12
    · subst c12
      clear mc HL
      cases b
      all_goals
        replace HP := Lib.hid HP
        clear hr
        go_enter Try.func28, Try.ntmps28
        go_wp2_with fail
        refine (HV.out _).mono ?_
        rintro e w1 ⟨rfl, hb⟩
        have A1 := Lib.hid (down (here w) hb)
        clear hb
        go_wp2_with fail
        refine (HP.out _).mono ?_
        rintro e w2 ⟨rfl, hb⟩
        have A2 := Lib.hid (down A1.out hb)
        clear hb A1
        go_wp2
        go_ret
        exact ⟨rfl, by first | exact A2.out | exact grow A2.out _ | exact below_drewN A2.out _ | exact grow (grow A2.out _) _ | exact grow (grow (grow A2.out _) _) _⟩
    · clear HP
      by_cases c8 : m = 8
      · subst c8
        clear mc c12
        by_cases r5 : r = 5
        · have e : hlenB b l 8 = 30 := by unfold hlenB; rw [if_neg (by omega), if_neg (by omega), if_pos rfl, if_pos (by omega)]
          rw [e]
          subst r5
          clear e
          go_enter Try.func28, Try.ntmps28
          go_wp2_with fail
          refine (HV.out _).mono ?_
          rintro e w1 ⟨rfl, hb⟩
          have A1 := Lib.hid (down (here w) hb)
          clear hb
          go_wp2_with fail
          refine (HL.out _).mono ?_
          rintro e w2 ⟨rfl, hb⟩
          have A2 := Lib.hid (down A1.out hb)
          clear hb A1
          go_wp2
          go_ret
          exact ⟨rfl, by first | exact A2.out | exact grow A2.out _ | exact below_drewN A2.out _ | exact grow (grow A2.out _) _ | exact grow (grow (grow A2.out _) _) _⟩
        · have e : hlenB b l 8 = 29 := by unfold hlenB; rw [if_neg (by omega), if_neg (by omega), if_pos rfl, if_neg (by omega)]
          rw [e]
          have q : (r != 5) = true := by simpa using r5
          clear e r5
          go_enter Try.func28, Try.ntmps28
          go_wp2_with fail
          refine (HV.out _).mono ?_
          rintro e w1 ⟨rfl, hb⟩
          have A1 := Lib.hid (down (here w) hb)
          clear hb
          go_wp2_with fail
          refine (HL.out _).mono ?_
          rintro e w2 ⟨rfl, hb⟩
          have A2 := Lib.hid (down A1.out hb)
          clear hb A1
          go_wp2
          go_ret
          exact ⟨rfl, by first | exact A2.out | exact grow A2.out _ | exact below_drewN A2.out _ | exact grow (grow A2.out _) _ | exact grow (grow (grow A2.out _) _) _⟩
      · by_cases c9 : m = 9
        · subst c9
          clear mc c12 c8
          by_cases r3 : r = 3
          · have e : hlenB b l 9 = 29 := by unfold hlenB; rw [if_neg (by omega), if_neg (by omega), if_neg (by omega), if_pos rfl, if_pos (by omega)]
            rw [e]
            subst r3
            clear e
            go_enter Try.func28, Try.ntmps28
            go_wp2_with fail
            refine (HV.out _).mono ?_
            rintro e w1 ⟨rfl, hb⟩
            have A1 := Lib.hid (down (here w) hb)
            clear hb
            go_wp2_with fail
            refine (HL.out _).mono ?_
            rintro e w2 ⟨rfl, hb⟩
            have A2 := Lib.hid (down A1.out hb)
            clear hb A1
            go_wp2
            go_ret
            exact ⟨rfl, by first | exact A2.out | exact grow A2.out _ | exact below_drewN A2.out _ | exact grow (grow A2.out _) _ | exact grow (grow (grow A2.out _) _) _⟩
          · have e : hlenB b l 9 = 30 := by unfold hlenB; rw [if_neg (by omega), if_neg (by omega), if_neg (by omega), if_pos rfl, if_neg (by omega)]
            rw [e]
            have q : (r == 3) = false := by simpa using r3
            clear e r3
            go_enter Try.func28, Try.ntmps28
            go_wp2_with fail
            refine (HV.out _).mono ?_
            rintro e w1 ⟨rfl, hb⟩
            have A1 := Lib.hid (down (here w) hb)
            clear hb
            go_wp2_with fail
            refine (HL.out _).mono ?_
            rintro e w2 ⟨rfl, hb⟩
            have A2 := Lib.hid (down A1.out hb)
            clear hb A1
            go_wp2
            go_ret
            exact ⟨rfl, by first | exact A2.out | exact grow A2.out _ | exact below_drewN A2.out _ | exact grow (grow A2.out _) _ | exact grow (grow (grow A2.out _) _) _⟩
        · clear hr HL
          rcases mc with rfl | rfl | rfl | rfl | rfl | rfl | rfl | rfl | rfl | rfl | rfl | rfl | rfl
          all_goals first
            | exact absurd rfl c8
            | exact absurd rfl c9
            | exact absurd rfl c12
            | (clear c8 c9 c12
               go_enter Try.func28, Try.ntmps28
               go_wp2_with fail
               refine (HV.out _).mono ?_
               rintro e w1 ⟨rfl, hb⟩
               have A1 := Lib.hid (down (here w) hb)
               clear hb
               go_wp2
               go_ret
               exact ⟨rfl, by first | exact A1.out | exact grow A1.out _ | exact below_drewN A1.out _ | exact grow (grow A1.out _) _ | exact grow (grow (grow A1.out _) _) _⟩)
set_option maxRecDepth 100000 in
set_option maxHeartbeats 1000000 in
theorem xmol (y m : Int) (hy : I64 y) (hm : I64 m) (w : World) :
    Calls Try.prog 26 #[.int .i64 y, .int .i64 m] w fun e w' => e = .returned (.tuple #[.int .i64 (hmolN y m), .int .i64 (hmolR y m), .int .i64 (hmolE y m)]) ∧ Below w.heap.size w w' := by
  have HV := fun w => xvm y m hy hm w
  unfold hmolN hmolR hmolE
  cases h : hmolB y m
  · rw [h] at HV
    replace HV := Lib.hid HV
    simp only [Bool.false_eq_true, if_false]
    clear h
    obtain ⟨hm0, hm1⟩ := hm
    go_enter Try.func26, Try.ntmps26
    go_wp2_with fail
    refine (HV.out _).mono ?_
    rintro e w1 ⟨rfl, hb⟩
    have A1 := Lib.hid (down (here w) hb)
    clear hb
    go_wp2
    go_ret3
    exact ⟨rfl, by first | exact A1.out | exact grow A1.out _ | exact below_drewN A1.out _ | exact grow (grow A1.out _) _ | exact grow (grow (grow A1.out _) _) _⟩
  · have hh : 1 ≤ m ∧ m ≤ hmn y := by unfold hmolB at h; exact of_decide_eq_true h
    obtain ⟨m0, m1⟩ := hh
    rw [h] at HV
    replace HV := Lib.hid HV
    simp only [if_true]
    have hyt : hyr y = true := by
      cases z : hyr y
      · rw [hmn_out z] at m1; omega
      · rfl
    obtain ⟨y0, y1⟩ := hyr_iff.1 hyt
    have nb := hmn_bd y
    have mb : m ≤ 13 := by omega
    unfold hmolP
    by_cases m7 : m < 7
    · have k7 : decide (m < 7) = true := decide_eq_true m7
      rw [if_pos m7]
      have HB := Lib.hid (fun w => xbf (y + 1) (by omega) (by omega) w)
      have bb := hM_bd (y := (y + 1)) (by omega) (by omega)
      clear m1 hm m7 hyt nb h
      generalize hM (y + 1) = B at *
      obtain ⟨bb0, bb1⟩ := bb
      rw [show m - 7 + B = B + m - 7 by omega]
      obtain ⟨P, hP⟩ : ∃ P, 765433 * (B + m - 7) - 876 = P := ⟨_, rfl⟩
      have pb : -1000000000000 ≤ P ∧ P ≤ 1000000000000 := by omega
      rw [hP]
      obtain ⟨pb0, pb1⟩ := pb
      have HF := Lib.hid (fun w => xdv P 25920 ⟨by omega, by omega⟩ (by omega) (by omega) w)
      have fb : -100000000 ≤ P / 25920 ∧ P / 25920 ≤ 100000000 := by omega
      generalize P / 25920 = f at *
      generalize P % 25920 = r at *
      obtain ⟨fb0, fb1⟩ := fb
      go_enter Try.func26, Try.ntmps26
      go_wp2_with fail
      refine (HV.out _).mono ?_
      rintro e w1 ⟨rfl, hb⟩
      have A1 := Lib.hid (down (here w) hb)
      clear hb
      go_wp2_with fail
      refine (HB.out _).mono ?_
      rintro e w2 ⟨rfl, hb⟩
      have A2 := Lib.hid (down A1.out hb)
      clear hb A1
      go_wp2_with fail
      refine (HF.out _).mono ?_
      rintro e w3 ⟨rfl, hb⟩
      have A3 := Lib.hid (down A2.out hb)
      clear hb A2
      go_wp2
      go_ret3
      exact ⟨rfl, by first | exact A3.out | exact grow A3.out _ | exact below_drewN A3.out _ | exact grow (grow A3.out _) _ | exact grow (grow (grow A3.out _) _) _⟩
    · have k7 : decide (m < 7) = false := decide_eq_false m7
      rw [if_neg m7]
      have HB := Lib.hid (fun w => xbf y (by omega) (by omega) w)
      have bb := hM_bd (y := y) (by omega) (by omega)
      clear m1 hm m7 hyt nb h
      generalize hM y = B at *
      obtain ⟨bb0, bb1⟩ := bb
      rw [show m - 7 + B = B + m - 7 by omega]
      obtain ⟨P, hP⟩ : ∃ P, 765433 * (B + m - 7) - 876 = P := ⟨_, rfl⟩
      have pb : -1000000000000 ≤ P ∧ P ≤ 1000000000000 := by omega
      rw [hP]
      obtain ⟨pb0, pb1⟩ := pb
      have HF := Lib.hid (fun w => xdv P 25920 ⟨by omega, by omega⟩ (by omega) (by omega) w)
      have fb : -100000000 ≤ P / 25920 ∧ P / 25920 ≤ 100000000 := by omega
      generalize P / 25920 = f at *
      generalize P % 25920 = r at *
      obtain ⟨fb0, fb1⟩ := fb
      go_enter Try.func26, Try.ntmps26
      go_wp2_with fail
      refine (HV.out _).mono ?_
      rintro e w1 ⟨rfl, hb⟩
      have A1 := Lib.hid (down (here w) hb)
      clear hb
      go_wp2_with fail
      refine (HB.out _).mono ?_
      rintro e w2 ⟨rfl, hb⟩
      have A2 := Lib.hid (down A1.out hb)
      clear hb A1
      go_wp2_with fail
      refine (HF.out _).mono ?_
      rintro e w3 ⟨rfl, hb⟩
      have A3 := Lib.hid (down A2.out hb)
      clear hb A2
      go_wp2
      go_ret3
      exact ⟨rfl, by first | exact A3.out | exact grow A3.out _ | exact below_drewN A3.out _ | exact grow (grow A3.out _) _ | exact grow (grow (grow A3.out _) _) _⟩
set_option maxRecDepth 100000 in
set_option maxHeartbeats 1000000 in
theorem xelp (y : Int) (hy : I64 y) (w : World) :
    Calls Try.prog 15 #[.int .i64 y] w fun e w' => e = .returned (.tuple #[.int .i64 (helN y), .int .i64 (hyE y)]) ∧ Below w.heap.size w w' := by
  have HY := fun w => xyr y hy w
  unfold helN hyE
  cases h : hyr y
  · rw [h] at HY
    replace HY := Lib.hid HY
    simp only [Bool.false_eq_true, if_false]
    clear h
    go_enter Try.func15, Try.ntmps15
    go_wp2_with fail
    refine (HY.out _).mono ?_
    rintro e x1 ⟨rfl, rfl⟩
    go_wp2
    go_ret2
    exact ⟨rfl, by first | exact (here w) | exact grow (here w) _ | exact below_drewN (here w) _ | exact grow (grow (here w) _) _ | exact grow (grow (grow (here w) _) _) _⟩
  · rw [h] at HY
    replace HY := Lib.hid HY
    obtain ⟨y0, y1⟩ := hyr_iff.1 h
    simp only [if_true]
    have HE := Lib.hid (fun w => xel y (by omega) (by omega) w)
    generalize hE y = v at *
    clear h
    go_enter Try.func15, Try.ntmps15
    go_wp2_with fail
    refine (HY.out _).mono ?_
    rintro e x1 ⟨rfl, rfl⟩
    go_wp2_with fail
    refine (HE.out _).mono ?_
    rintro e w1 ⟨rfl, hb⟩
    have A1 := Lib.hid (down (here w) hb)
    clear hb
    go_wp2
    go_ret2
    exact ⟨rfl, by first | exact A1.out | exact grow A1.out _ | exact below_drewN A1.out _ | exact grow (grow A1.out _) _ | exact grow (grow (grow A1.out _) _) _⟩
set_option maxRecDepth 100000 in
set_option maxHeartbeats 1000000 in
theorem xnew (y : Int) (hy : I64 y) (w : World) :
    Calls Try.prog 16 #[.int .i64 y] w fun e w' => e = .returned (.tuple #[.int .i64 (hnwN y), .int .i64 (hyE y)]) ∧ Below w.heap.size w w' := by
  have HY := fun w => xyr y hy w
  unfold hnwN hyE
  cases h : hyr y
  · rw [h] at HY
    replace HY := Lib.hid HY
    simp only [Bool.false_eq_true, if_false]
    clear h
    go_enter Try.func16, Try.ntmps16
    go_wp2_with fail
    refine (HY.out _).mono ?_
    rintro e x1 ⟨rfl, rfl⟩
    go_wp2
    go_ret2
    exact ⟨rfl, by first | exact (here w) | exact grow (here w) _ | exact below_drewN (here w) _ | exact grow (grow (here w) _) _ | exact grow (grow (grow (here w) _) _) _⟩
  · rw [h] at HY
    replace HY := Lib.hid HY
    obtain ⟨y0, y1⟩ := hyr_iff.1 h
    simp only [if_true]
    have HE := Lib.hid (fun w => xnw y (by omega) (by omega) w)
    generalize hN y = v at *
    clear h
    go_enter Try.func16, Try.ntmps16
    go_wp2_with fail
    refine (HY.out _).mono ?_
    rintro e x1 ⟨rfl, rfl⟩
    go_wp2_with fail
    refine (HE.out _).mono ?_
    rintro e w1 ⟨rfl, hb⟩
    have A1 := Lib.hid (down (here w) hb)
    clear hb
    go_wp2
    go_ret2
    exact ⟨rfl, by first | exact A1.out | exact grow A1.out _ | exact below_drewN A1.out _ | exact grow (grow A1.out _) _ | exact grow (grow (grow A1.out _) _) _⟩
end Go.Proofs.Ytpkkhkkanpcniaa

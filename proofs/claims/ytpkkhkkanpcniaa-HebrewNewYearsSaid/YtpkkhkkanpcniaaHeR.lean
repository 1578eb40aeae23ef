/- Contracts of civiltimeref07: floor, rest, years, new years, lengths. -/
import Derived.Test.YtpkkhkkanpcniaaHeOrd
import Derived.Test.YtpkkhkkanpcniaaLPlain
import Derived.Test.YtpkkhkkanpcniaaLGen
import Derived.Test.YtpkkhkkanpcniaaProg
import Derived.WalkKit
import Derived.Outline
import Derived.BigQuiet
import Derived.Deep.QuietTactic
import Derived.Deep.RegionWith
namespace Go.Proofs.Ytpkkhkkanpcniaa
open Go.RowKit
set_option linter.unusedVariables false

theorem rhfloor (a b : Int) (ha : I64 a) (b0 : 0 < b) (b1 : b ≤ 1000000) (w : World) :
    Calls Try.prog 45 #[.int .i64 a, .int .i64 b] w fun e w' => e = .returned (.int .i64 (a / b)) ∧ w = w' := by
  have hb : b ≠ 0 := by omega
  have hq := tq_bd ha.1 ha.2 (b := b) (by omega) hb
  have hr := tr_bd (a := a) hb
  have he := fdm_exact (a := a) hb
  have hs := fdm_same (a := a) hb
  have ho := fdm_other (a := a) hb
  have ht := tq_half (a := a) (b := b) ha.1 ha.2
  rw [Int.fdiv_eq_ediv_of_nonneg _ (by omega)] at he hs ho
  obtain ⟨ha0, ha1⟩ := ha
  have z0 : ¬ b = 0 := hb
  obtain ⟨q, eq⟩ : ∃ q, a.tdiv b = q := ⟨_, rfl⟩
  obtain ⟨r, er⟩ : ∃ r, a.tmod b = r := ⟨_, rfl⟩
  rw [eq] at hq he hs ho ht
  rw [er] at hr he hs ho ht
  obtain ⟨hq0, hq1⟩ := hq
  obtain ⟨hr0, -, -⟩ := hr
  have hr2 : -9223372036854775808 ≤ r := by omega
  have hr3 : r ≤ 9223372036854775807 := by omega
  have g : a / b = q ∧ 0 ≤ r ∨ a / b = q - 1 ∧ r < 0 ∧ -4611686018427387904 ≤ q := by
    by_cases z : r = 0
    · left; exact ⟨(he z).1, by omega⟩
    · by_cases z' : 0 < r
      · left; exact ⟨(hs (by omega)).1, by omega⟩
      · right; have := ho (by omega); have := ht z; exact ⟨by omega, by omega, by omega⟩
  clear he hs ho ht hr0
  generalize a / b = Q at *
  rcases g with ⟨rfl, g⟩ | ⟨rfl, g, g2⟩
  · have k : decide (r < 0) = false := decide_eq_false (by omega)
    go_enter Try.func45, Try.ntmps45
    go_wp2
    go_ret
    exact ⟨rfl, rfl⟩
  · have k : decide (r < 0) = true := decide_eq_true g
    go_enter Try.func45, Try.ntmps45
    go_wp2
    go_ret
    exact ⟨rfl, rfl⟩
theorem rhrest (a b : Int) (a0 : -1000000000000000 ≤ a) (a1 : a ≤ 1000000000000000) (b0 : 0 < b) (b1 : b ≤ 1000000) (w : World) :
    Calls Try.prog 46 #[.int .i64 a, .int .i64 b] w fun e w' => e = .returned (.int .i64 (a % b)) ∧ w = w' := by
  have HF := Lib.hid (fun w => rhfloor a b ⟨by omega, by omega⟩ b0 b1 w)
  have e : a % b = a - b * (a / b) := by have := Int.emod_add_mul_ediv a b; omega
  have m0 := Int.emod_nonneg a (show b ≠ 0 by omega)
  have m1 := Int.emod_lt_of_pos a b0
  obtain ⟨x, hx⟩ : ∃ x, b * (a / b) = x := ⟨_, rfl⟩
  rw [hx] at e
  rw [e] at m0 m1 ⊢
  generalize a / b = q at *
  clear e
  go_enter Try.func46, Try.ntmps46
  go_wp2_with fail
  refine (HF.out _).mono ?_
  rintro e w' ⟨rfl, rfl⟩
  go_wp2
  go_ret
  exact ⟨rfl, rfl⟩
theorem rhyr (y : Int) (hy : I64 y) (w : World) :
    Calls Try.prog 23 #[.int .i64 y] w fun e w' => e = .returned (.bool (hyr y)) ∧ w = w' := by
  obtain ⟨h0, h1⟩ := hy
  have e : hyr y = (decide (1 ≤ y) && decide (y ≤ 20000)) := by unfold hyr; simp
  rw [e]
  obtain ⟨a, ha⟩ : ∃ a, decide (1 ≤ y) = a := ⟨_, rfl⟩
  obtain ⟨b, hb⟩ : ∃ a, decide (y ≤ 20000) = a := ⟨_, rfl⟩
  rw [ha, hb]
  cases a <;> cases b
  all_goals
    go_enter Try.func23, Try.ntmps23
    go_wp2
    go_ret
    exact ⟨rfl, rfl⟩
theorem rhlp (y : Int) (y0 : -10 ≤ y) (y1 : y ≤ 100000) (w : World) :
    Calls Try.prog 43 #[.int .i64 y] w fun e w' => e = .returned (.bool (hlp y)) ∧ w = w' := by
  have HF := Lib.hid (fun w => rhrest (7 * y + 1) 19 (by omega) (by omega) (by omega) (by omega) w)
  have b : 0 ≤ (7 * y + 1) % 19 ∧ (7 * y + 1) % 19 ≤ 18 := by omega
  have e : hlp y = decide ((7 * y + 1) % 19 < 7) := rfl
  rw [e]
  generalize (7 * y + 1) % 19 = r at *
  obtain ⟨b0, b1⟩ := b
  clear e
  go_enter Try.func43, Try.ntmps43
  go_wp2_with fail
  refine (HF.out _).mono ?_
  rintro e w' ⟨rfl, rfl⟩
  go_wp2
  go_ret
  exact ⟨rfl, rfl⟩
theorem rhleap (y : Int) (hy : I64 y) (w : World) :
    Calls Try.prog 18 #[.int .i64 y] w fun e w' => e = .returned (.bool (hyr y && hlp y)) ∧ w = w' := by
  have HY := fun w => rhyr y hy w
  cases h : hyr y
  · rw [h] at HY
    replace HY := Lib.hid HY
    go_enter Try.func18, Try.ntmps18
    go_wp2_with fail
    refine (HY.out _).mono ?_
    rintro e w' ⟨rfl, rfl⟩
    go_wp2
    go_ret
    exact ⟨rfl, rfl⟩
  · obtain ⟨y0, y1⟩ := hyr_iff.1 h
    have HL := Lib.hid (fun w => rhlp y (by omega) (by omega) w)
    rw [h] at HY
    replace HY := Lib.hid HY
    generalize hlp y = l at *
    go_enter Try.func18, Try.ntmps18
    go_wp2_with fail
    refine (HY.out _).mono ?_
    rintro e w' ⟨rfl, rfl⟩
    go_wp2_with fail
    refine (HL.out _).mono ?_
    rintro e w' ⟨rfl, rfl⟩
    go_wp2
    go_ret
    exact ⟨rfl, rfl⟩
theorem rhmn (y : Int) (hy : I64 y) (w : World) :
    Calls Try.prog 20 #[.int .i64 y] w fun e w' => e = .returned (.int .i64 (hmn y)) ∧ w = w' := by
  have HY := fun w => rhyr y hy w
  cases h : hyr y
  · rw [h] at HY
    replace HY := Lib.hid HY
    rw [hmn_out h]
    go_enter Try.func20, Try.ntmps20
    go_wp2_with fail
    refine (HY.out _).mono ?_
    rintro e w' ⟨rfl, rfl⟩
    go_wp2
    go_ret
    exact ⟨rfl, rfl⟩
  · obtain ⟨y0, y1⟩ := hyr_iff.1 h
    have HL := fun w => rhlp y (by omega) (by omega) w
    rw [h] at HY
    replace HY := Lib.hid HY
    rcases hmn_in h with ⟨a, b⟩ | ⟨a, b⟩
    all_goals
      rw [a] at HL
      rw [b]
      replace HL := Lib.hid HL
      go_enter Try.func20, Try.ntmps20
      go_wp2_with fail
      refine (HY.out _).mono ?_
      rintro e w' ⟨rfl, rfl⟩
      go_wp2_with fail
      refine (HL.out _).mono ?_
      rintro e w' ⟨rfl, rfl⟩
      go_wp2
      go_ret
      exact ⟨rfl, rfl⟩
theorem rhM (y : Int) (y0 : -10 ≤ y) (y1 : y ≤ 100000) (w : World) :
    Calls Try.prog 44 #[.int .i64 y] w fun e w' => e = .returned (.int .i64 (hM y)) ∧ w = w' := by
  have HF := Lib.hid (fun w => rhfloor (235 * y - 234) 19 ⟨by omega, by omega⟩ (by omega) (by omega) w)
  have e : hM y = (235 * y - 234) / 19 := rfl
  rw [e]
  generalize (235 * y - 234) / 19 = r at *
  clear e
  go_enter Try.func44, Try.ntmps44
  go_wp2_with fail
  refine (HF.out _).mono ?_
  rintro e w' ⟨rfl, rfl⟩
  go_wp2
  go_ret
  exact ⟨rfl, rfl⟩
theorem hM_bd {y : Int} (y0 : -10 ≤ y) (y1 : y ≤ 100000) : -200 ≤ hM y ∧ hM y ≤ 1300000 := by unfold hM; omega
theorem hE_bd {y : Int} (y0 : -10 ≤ y) (y1 : y ≤ 100000) : -10000 ≤ hE y ∧ hE y ≤ 40000000 := by
  have m := hM_bd y0 y1
  have p := hP_eq (hD (hM y))
  have a := ha_nn (hD (hM y))
  have d : -9000 ≤ hD (hM y) ∧ hD (hM y) ≤ 39000000 := by unfold hD; omega
  unfold hE; omega
set_option maxHeartbeats 400000 in
theorem rhE (y : Int) (y0 : -10 ≤ y) (y1 : y ≤ 100000) (w : World) :
    Calls Try.prog 24 #[.int .i64 y] w fun e w' => e = .returned (.int .i64 (hE y)) ∧ w = w' := by
  have HM := Lib.hid (fun w => rhM y y0 y1 w)
  have mb := hM_bd y0 y1
  have e : hE y = hP (29 * hM y + (12084 + 13753 * hM y) / 25920) := rfl
  rw [e]
  clear e
  generalize hM y = m at *
  obtain ⟨m0, m1⟩ := mb
  have HF := Lib.hid (fun w => rhfloor (12084 + 13753 * m) 25920 ⟨by omega, by omega⟩ (by omega) (by omega) w)
  have fb : -200 ≤ (12084 + 13753 * m) / 25920 ∧ (12084 + 13753 * m) / 25920 ≤ 700000 := by omega
  generalize (12084 + 13753 * m) / 25920 = f at *
  obtain ⟨f0, f1⟩ := fb
  obtain ⟨d, hd⟩ : ∃ d, 29 * m + f = d := ⟨_, rfl⟩
  rw [hd]
  have db : -9000 ≤ d ∧ d ≤ 39000000 := by omega
  obtain ⟨db0, db1⟩ := db
  have HR := Lib.hid (fun w => rhrest (3 * (d + 1)) 7 (by omega) (by omega) (by omega) (by omega) w)
  have hp : hP d = if 3 * (d + 1) % 7 < 3 then d + 1 else d := rfl
  rw [hp]
  have rb : 0 ≤ 3 * (d + 1) % 7 ∧ 3 * (d + 1) % 7 ≤ 6 := by omega
  generalize 3 * (d + 1) % 7 = r at *
  obtain ⟨rb0, rb1⟩ := rb
  clear hp
  by_cases z : r < 3
  · rw [if_pos z]
    have kz : decide (r < 3) = true := decide_eq_true z
    go_enter Try.func24, Try.ntmps24
    go_wp2_with fail
    refine (HM.out _).mono ?_
    rintro e w' ⟨rfl, rfl⟩
    go_wp2_with fail
    refine (HF.out _).mono ?_
    rintro e w' ⟨rfl, rfl⟩
    go_wp2_with fail
    refine (HR.out _).mono ?_
    rintro e w' ⟨rfl, rfl⟩
    go_wp2
    go_ret
    exact ⟨rfl, rfl⟩
  · rw [if_neg z]
    have kz : decide (r < 3) = false := decide_eq_false z
    go_enter Try.func24, Try.ntmps24
    go_wp2_with fail
    refine (HM.out _).mono ?_
    rintro e w' ⟨rfl, rfl⟩
    go_wp2_with fail
    refine (HF.out _).mono ?_
    rintro e w' ⟨rfl, rfl⟩
    go_wp2_with fail
    refine (HR.out _).mono ?_
    rintro e w' ⟨rfl, rfl⟩
    go_wp2
    go_ret
    exact ⟨rfl, rfl⟩
set_option maxHeartbeats 400000 in
theorem rhN (y : Int) (y0 : -5 ≤ y) (y1 : y ≤ 90000) (w : World) :
    Calls Try.prog 25 #[.int .i64 y] w fun e w' => e = .returned (.int .i64 (hN y)) ∧ w = w' := by
  have H1 := Lib.hid (fun w => rhE y (by omega) (by omega) w)
  have H2 := Lib.hid (fun w => rhE (y + 1) (by omega) (by omega) w)
  have H0 := Lib.hid (fun w => rhE (y - 1) (by omega) (by omega) w)
  have b0 := hE_bd (y := y - 1) (by omega) (by omega)
  have b1 := hE_bd (y := y) (by omega) (by omega)
  have b2 := hE_bd (y := y + 1) (by omega) (by omega)
  have e : hN y = -2092590 + hE y + hc (hE (y - 1)) (hE y) (hE (y + 1)) := rfl
  rw [e]
  clear e
  generalize hE (y - 1) = a at *
  generalize hE y = b at *
  generalize hE (y + 1) = c at *
  obtain ⟨b00, b01⟩ := b0
  obtain ⟨b10, b11⟩ := b1
  obtain ⟨b20, b21⟩ := b2
  unfold hc
  by_cases z : c - b = 356
  · rw [if_pos z]
    have kz : (c - b == 356) = true := by simpa using z
    clear z
    go_enter Try.func25, Try.ntmps25
    go_wp2_with fail
    refine (H1.out _).mono ?_
    rintro e w' ⟨rfl, rfl⟩
    go_wp2_with fail
    refine (H2.out _).mono ?_
    rintro e w' ⟨rfl, rfl⟩
    go_wp2
    go_ret
    exact ⟨rfl, rfl⟩
  · rw [if_neg z]
    have kz : (c - b == 356) = false := by simpa using z
    clear z
    by_cases z2 : b - a = 382
    · rw [if_pos z2]
      have kz2 : (b - a == 382) = true := by simpa using z2
      clear z2
      go_enter Try.func25, Try.ntmps25
      go_wp2_with fail
      refine (H1.out _).mono ?_
      rintro e w' ⟨rfl, rfl⟩
      go_wp2_with fail
      refine (H2.out _).mono ?_
      rintro e w' ⟨rfl, rfl⟩
      go_wp2_with fail
      refine (H0.out _).mono ?_
      rintro e w' ⟨rfl, rfl⟩
      go_wp2
      go_ret
      exact ⟨rfl, rfl⟩
    · rw [if_neg z2, Int.add_zero]
      have kz2 : (b - a == 382) = false := by simpa using z2
      clear z2
      go_enter Try.func25, Try.ntmps25
      go_wp2_with fail
      refine (H1.out _).mono ?_
      rintro e w' ⟨rfl, rfl⟩
      go_wp2_with fail
      refine (H2.out _).mono ?_
      rintro e w' ⟨rfl, rfl⟩
      go_wp2_with fail
      refine (H0.out _).mono ?_
      rintro e w' ⟨rfl, rfl⟩
      go_wp2
      go_ret
      exact ⟨rfl, rfl⟩
def hylN (y : Int) : Int := if hyr y then hyl y else 0
theorem hN_any {y : Int} (y0 : -5 ≤ y) (y1 : y ≤ 90000) : -2110000 ≤ hN y ∧ hN y ≤ 40000000 := by
  have b := hE_bd (y := y) (by omega) (by omega)
  have c := hc_nn (hE (y - 1)) (hE y) (hE (y + 1))
  unfold hN; omega
theorem rhyl (y : Int) (hy : I64 y) (w : World) :
    Calls Try.prog 22 #[.int .i64 y] w fun e w' => e = .returned (.int .i64 (hylN y)) ∧ w = w' := by
  have HY := fun w => rhyr y hy w
  unfold hylN
  cases h : hyr y
  · rw [h] at HY
    replace HY := Lib.hid HY
    go_enter Try.func22, Try.ntmps22
    go_wp2_with fail
    refine (HY.out _).mono ?_
    rintro e w' ⟨rfl, rfl⟩
    go_wp2
    go_ret
    exact ⟨rfl, rfl⟩
  · obtain ⟨y0, y1⟩ := hyr_iff.1 h
    rw [h] at HY
    replace HY := Lib.hid HY
    have H1 := Lib.hid (fun w => rhN y (by omega) (by omega) w)
    have H2 := Lib.hid (fun w => rhN (y + 1) (by omega) (by omega) w)
    have b1 := hN_any (y := y) (by omega) (by omega)
    have b2 := hN_any (y := y + 1) (by omega) (by omega)
    unfold hyl
    generalize hN y = a at *
    generalize hN (y + 1) = b at *
    obtain ⟨b10, b11⟩ := b1
    obtain ⟨b20, b21⟩ := b2
    go_enter Try.func22, Try.ntmps22
    go_wp2_with fail
    refine (HY.out _).mono ?_
    rintro e w' ⟨rfl, rfl⟩
    go_wp2_with fail
    refine (H2.out _).mono ?_
    rintro e w' ⟨rfl, rfl⟩
    go_wp2_with fail
    refine (H1.out _).mono ?_
    rintro e w' ⟨rfl, rfl⟩
    go_wp2
    go_ret
    exact ⟨rfl, rfl⟩
end Go.Proofs.Ytpkkhkkanpcniaa

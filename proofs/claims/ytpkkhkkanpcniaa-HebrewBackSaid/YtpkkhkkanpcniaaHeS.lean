/- Contracts of civiltimeref07: lengths of months, Valid, inside, Molad. -/
import Derived.Test.YtpkkhkkanpcniaaHeR
import Derived.OwnWalk
namespace Go.Proofs.Ytpkkhkkanpcniaa
open Go.RowKit
set_option linter.unusedVariables false

set_option maxHeartbeats 1000000 in
theorem rhlen (y m : Int) (hy : I64 y) (hm : I64 m) (w : World) :
    Calls Try.prog 29 #[.int .i64 y, .int .i64 m] w fun e w' => e = .returned (.int .i64 (hlenM y m)) ∧ w = w' := by
  have HM := Lib.hid (fun w => rhmn y hy w)
  by_cases m0 : m < 1
  · have k : decide (m < 1) = true := decide_eq_true m0
    have e : hlenM y m = 0 := by unfold hlenM; rw [if_pos (.inl m0)]
    rw [e]
    obtain ⟨hm0, hm1⟩ := hm
    clear e m0
    go_enter Try.func29, Try.ntmps29
    go_wp2
    go_ret
    exact ⟨rfl, rfl⟩
  · have k : decide (m < 1) = false := decide_eq_false m0
    have nb := hmn_bd y
    by_cases m1 : hmn y < m
    · have e : hlenM y m = 0 := by unfold hlenM; rw [if_pos (.inr m1)]
      rw [e]
      have k2 : decide (hmn y < m) = true := decide_eq_true m1
      obtain ⟨hm0, hm1⟩ := hm
      obtain ⟨nb0, nb1⟩ := nb
      clear e m0 m1
      generalize hmn y = n at *
      go_enter Try.func29, Try.ntmps29
      go_wp2_with fail
      refine (HM.out _).mono ?_
      rintro e w' ⟨rfl, rfl⟩
      go_wp2
      go_ret
      exact ⟨rfl, rfl⟩
    · have hyt : hyr y = true := by
        cases z : hyr y
        · rw [hmn_out z] at m1; omega
        · rfl
      obtain ⟨y0, y1⟩ := hyr_iff.1 hyt
      have HL := fun w => rhyl y hy w
      rw [show hylN y = hyl y by unfold hylN; rw [if_pos hyt]] at HL
      replace HL := Lib.hid HL
      have HP := fun w => rhlp y (by omega) (by omega) w
      have k2 : decide (hmn y < m) = false := decide_eq_false m1
      have lb := hyl_bd y
      have e : hlenM y m = hlenB (hlp y) (hyl y) m := by unfold hlenM; rw [if_neg (by omega)]
      rw [e]
      obtain ⟨nb0, nb1⟩ := nb
      obtain ⟨lb0, lb1⟩ := lb
      have mc : m = 1 ∨ m = 2 ∨ m = 3 ∨ m = 4 ∨ m = 5 ∨ m = 6 ∨ m = 7 ∨ m = 8 ∨ m = 9 ∨ m = 10 ∨ m = 11 ∨ m = 12 ∨ m = 13 := by omega
      clear e m0 m1 hm hyt
      generalize hmn y = n at *
      generalize hyl y = l at *
      generalize hlp y = b at *
      obtain ⟨r, hr⟩ : ∃ r, l % 10 = r := ⟨_, rfl⟩
      by_cases c12 : m = 12
      · subst c12
        clear mc
        cases b
        all_goals
          replace HP := Lib.hid HP
          clear hr
          go_enter Try.func29, Try.ntmps29
          go_wp2_with fail
          refine (HM.out _).mono ?_
          rintro e w' ⟨rfl, rfl⟩
          go_wp2_with fail
          refine (HL.out _).mono ?_
          rintro e w' ⟨rfl, rfl⟩
          go_wp2_with fail
          refine (HP.out _).mono ?_
          rintro e w' ⟨rfl, rfl⟩
          go_wp2
          go_ret
          exact ⟨rfl, rfl⟩
      · clear HP
        by_cases c8 : m = 8
        · subst c8
          clear mc c12
          by_cases r5 : r = 5
          · have e : hlenB b l 8 = 30 := by unfold hlenB; rw [if_neg (by omega), if_neg (by omega), if_pos rfl, if_pos (by omega)]
            rw [e]
            subst r5
            clear e
            go_enter Try.func29, Try.ntmps29
            go_wp2_with fail
            refine (HM.out _).mono ?_
            rintro e w' ⟨rfl, rfl⟩
            go_wp2_with fail
            refine (HL.out _).mono ?_
            rintro e w' ⟨rfl, rfl⟩
            go_wp2
            go_ret
            exact ⟨rfl, rfl⟩
          · have e : hlenB b l 8 = 29 := by unfold hlenB; rw [if_neg (by omega), if_neg (by omega), if_pos rfl, if_neg (by omega)]
            rw [e]
            have q : (r != 5) = true := by simpa using r5
            clear e r5
            go_enter Try.func29, Try.ntmps29
            go_wp2_with fail
            refine (HM.out _).mono ?_
            rintro e w' ⟨rfl, rfl⟩
            go_wp2_with fail
            refine (HL.out _).mono ?_
            rintro e w' ⟨rfl, rfl⟩
            go_wp2
            go_ret
            exact ⟨rfl, rfl⟩
        · by_cases c9 : m = 9
          · subst c9
            clear mc c12 c8
            by_cases r3 : r = 3
            · have e : hlenB b l 9 = 29 := by unfold hlenB; rw [if_neg (by omega), if_neg (by omega), if_neg (by omega), if_pos rfl, if_pos (by omega)]
              rw [e]
              subst r3
              clear e
              go_enter Try.func29, Try.ntmps29
              go_wp2_with fail
              refine (HM.out _).mono ?_
              rintro e w' ⟨rfl, rfl⟩
              go_wp2_with fail
              refine (HL.out _).mono ?_
              rintro e w' ⟨rfl, rfl⟩
              go_wp2
              go_ret
              exact ⟨rfl, rfl⟩
            · have e : hlenB b l 9 = 30 := by unfold hlenB; rw [if_neg (by omega), if_neg (by omega), if_neg (by omega), if_pos rfl, if_neg (by omega)]
              rw [e]
              have q : (r == 3) = false := by simpa using r3
              clear e r3
              go_enter Try.func29, Try.ntmps29
              go_wp2_with fail
              refine (HM.out _).mono ?_
              rintro e w' ⟨rfl, rfl⟩
              go_wp2_with fail
              refine (HL.out _).mono ?_
              rintro e w' ⟨rfl, rfl⟩
              go_wp2
              go_ret
              exact ⟨rfl, rfl⟩
          · clear hr
            rcases mc with rfl | rfl | rfl | rfl | rfl | rfl | rfl | rfl | rfl | rfl | rfl | rfl | rfl
            all_goals first
              | exact absurd rfl c8
              | exact absurd rfl c9
              | exact absurd rfl c12
              | (clear c8 c9 c12
                 go_enter Try.func29, Try.ntmps29
                 go_wp2_with fail
                 refine (HM.out _).mono ?_
                 rintro e w' ⟨rfl, rfl⟩
                 go_wp2_with fail
                 refine (HL.out _).mono ?_
                 rintro e w' ⟨rfl, rfl⟩
                 go_wp2
                 go_ret
                 exact ⟨rfl, rfl⟩)
theorem rhin (n : Int) (hn : I64 n) (w : World) :
    Calls Try.prog 54 #[.int .i64 n] w fun e w' => e = .returned (.bool (decide (-719162 ≤ n ∧ n < 2932897))) ∧ w = w' := by
  obtain ⟨h0, h1⟩ := hn
  have e : decide (-719162 ≤ n ∧ n < 2932897) = (decide (-719162 ≤ n) && decide (n < 2932897)) := by simp
  rw [e]
  obtain ⟨a, ha⟩ : ∃ a, decide (-719162 ≤ n) = a := ⟨_, rfl⟩
  obtain ⟨b, hb⟩ : ∃ a, decide (n < 2932897) = a := ⟨_, rfl⟩
  rw [ha, hb]
  cases a <;> cases b
  all_goals
    go_enter Try.func54, Try.ntmps54
    go_wp2
    go_ret
    exact ⟨rfl, rfl⟩
/-- The parts of a conjunction. -/
def hmolP (y m : Int) : Int := 765433 * (m - 7 + hM (if m < 7 then y + 1 else y)) - 876
def hmolB (y m : Int) : Bool := decide (1 ≤ m ∧ m ≤ hmn y)
def hmolN (y m : Int) : Int := if hmolB y m then -2092590 + hmolP y m / 25920 else 0
def hmolR (y m : Int) : Int := if hmolB y m then hmolP y m % 25920 else 0
def hmolE (y m : Int) : Int := if hmolB y m then 0 else 2
set_option maxHeartbeats 1000000 in
theorem rhmol (y m : Int) (hy : I64 y) (hm : I64 m) (w : World) :
    Calls Try.prog 27 #[.int .i64 y, .int .i64 m] w fun e w' => e = .returned (.tuple #[.int .i64 (hmolN y m), .int .i64 (hmolR y m), .int .i64 (hmolE y m)]) ∧ w = w' := by
  have HM := Lib.hid (fun w => rhmn y hy w)
  unfold hmolN hmolR hmolE
  by_cases m0 : m < 1
  · have k : decide (m < 1) = true := decide_eq_true m0
    have e : ¬ hmolB y m = true := by unfold hmolB; simp; omega
    rw [if_neg e, if_neg e, if_neg e]
    obtain ⟨hm0, hm1⟩ := hm
    clear e m0
    go_enter Try.func27, Try.ntmps27
    go_wp2
    go_ret3
    exact ⟨rfl, rfl⟩
  · have k : decide (m < 1) = false := decide_eq_false m0
    have nb := hmn_bd y
    by_cases m1 : hmn y < m
    · have e : ¬ hmolB y m = true := by unfold hmolB; simp; omega
      rw [if_neg e, if_neg e, if_neg e]
      have k2 : decide (hmn y < m) = true := decide_eq_true m1
      obtain ⟨hm0, hm1⟩ := hm
      obtain ⟨nb0, nb1⟩ := nb
      clear e m0 m1
      generalize hmn y = n at *
      go_enter Try.func27, Try.ntmps27
      go_wp2_with fail
      refine (HM.out _).mono ?_
      rintro e w' ⟨rfl, rfl⟩
      go_wp2
      go_ret3
      exact ⟨rfl, rfl⟩
    · have e : hmolB y m = true := by unfold hmolB; simp; omega
      rw [if_pos e, if_pos e, if_pos e]
      have hyt : hyr y = true := by
        cases z : hyr y
        · rw [hmn_out z] at m1; omega
        · rfl
      obtain ⟨y0, y1⟩ := hyr_iff.1 hyt
      have k2 : decide (hmn y < m) = false := decide_eq_false m1
      obtain ⟨nb0, nb1⟩ := nb
      have mb : m ≤ 13 := by omega
      unfold hmolP
      by_cases m7 : m < 7
      · have k7 : decide (m < 7) = true := decide_eq_true m7
        rw [if_pos m7]
        have HB := Lib.hid (fun w => rhM (y + 1) (by omega) (by omega) w)
        have bb := hM_bd (y := y + 1) (by omega) (by omega)
        have m01 : 1 ≤ m := by omega
        clear e m0 m1 hm m7 hyt
        generalize hmn y = n at *
        generalize hM (y + 1) = B at *
        obtain ⟨bb0, bb1⟩ := bb
        obtain ⟨P, hP⟩ : ∃ P, 765433 * (m - 7 + B) - 876 = P := ⟨_, rfl⟩
        have pb : -1000000000000 ≤ P ∧ P ≤ 1000000000000 := by omega
        rw [hP]
        obtain ⟨pb0, pb1⟩ := pb
        have HF := Lib.hid (fun w => rhfloor P 25920 ⟨by omega, by omega⟩ (by omega) (by omega) w)
        have HR := Lib.hid (fun w => rhrest P 25920 (by omega) (by omega) (by omega) (by omega) w)
        have fb : -100000000 ≤ P / 25920 ∧ P / 25920 ≤ 100000000 := by omega
        generalize P / 25920 = f at *
        generalize P % 25920 = r at *
        obtain ⟨fb0, fb1⟩ := fb
        go_enter Try.func27, Try.ntmps27
        go_wp2_with fail
        refine (HM.out _).mono ?_
        rintro e w' ⟨rfl, rfl⟩
        go_wp2_with fail
        refine (HB.out _).mono ?_
        rintro e w' ⟨rfl, rfl⟩
        go_wp2_with fail
        refine (HF.out _).mono ?_
        rintro e w' ⟨rfl, rfl⟩
        go_wp2_with fail
        refine (HR.out _).mono ?_
        rintro e w' ⟨rfl, rfl⟩
        go_wp2
        go_ret3
        exact ⟨rfl, rfl⟩
      · have k7 : decide (m < 7) = false := decide_eq_false m7
        rw [if_neg m7]
        have HB := Lib.hid (fun w => rhM y (by omega) (by omega) w)
        have bb := hM_bd (y := y) (by omega) (by omega)
        have m01 : 7 ≤ m := by omega
        clear e m0 m1 hm m7 hyt
        generalize hmn y = n at *
        generalize hM y = B at *
        obtain ⟨bb0, bb1⟩ := bb
        obtain ⟨P, hP⟩ : ∃ P, 765433 * (m - 7 + B) - 876 = P := ⟨_, rfl⟩
        have pb : -1000000000000 ≤ P ∧ P ≤ 1000000000000 := by omega
        rw [hP]
        obtain ⟨pb0, pb1⟩ := pb
        have HF := Lib.hid (fun w => rhfloor P 25920 ⟨by omega, by omega⟩ (by omega) (by omega) w)
        have HR := Lib.hid (fun w => rhrest P 25920 (by omega) (by omega) (by omega) (by omega) w)
        have fb : -100000000 ≤ P / 25920 ∧ P / 25920 ≤ 100000000 := by omega
        generalize P / 25920 = f at *
        generalize P % 25920 = r at *
        obtain ⟨fb0, fb1⟩ := fb
        go_enter Try.func27, Try.ntmps27
        go_wp2_with fail
        refine (HM.out _).mono ?_
        rintro e w' ⟨rfl, rfl⟩
        go_wp2_with fail
        refine (HB.out _).mono ?_
        rintro e w' ⟨rfl, rfl⟩
        go_wp2_with fail
        refine (HF.out _).mono ?_
        rintro e w' ⟨rfl, rfl⟩
        go_wp2_with fail
        refine (HR.out _).mono ?_
        rintro e w' ⟨rfl, rfl⟩
        go_wp2
        go_ret3
        exact ⟨rfl, rfl⟩
end Go.Proofs.Ytpkkhkkanpcniaa
